package tree

// row is some of the numbers of a list, each greater than the one ahead of it.
type row struct {
	length int
	end    int // its last number
	before int // the place of the last but one; -1, if there is none
}

// longestRise marks the numbers of one of the longest rows of a list. Numbers below 0 are in no row.
func longestRise(l []int) []bool {
	var rows []row
	var marks []bool
	longest := 0
	last := -1
	for i, v := range l {
		r := rowTo(v, rows)
		if r.length > longest {
			longest = r.length
			last = i
		}
		rows = append(rows, r)
		marks = append(marks, false)
	}
	for i := last; i >= 0; i = rows[i].before {
		marks[i] = true
	}
	return marks
}

// rowTo is one of the longest rows that end with v, if rows are such rows of the numbers ahead of it.
func rowTo(v int, rows []row) row {
	if v < 0 {
		return row{end: v, before: -1}
	}
	r := row{length: 1, end: v, before: -1}
	for i, ahead := range rows {
		if ahead.end < v && ahead.length >= r.length {
			r.length = ahead.length + 1
			r.before = i
		}
	}
	return r
}
