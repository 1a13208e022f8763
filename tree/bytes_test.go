package tree_test

import (
	"hash/fnv"
	"strings"
	"testing"

	"hostel/api"
	"hostel/tree"
)

func wantBytes(t *testing.T, l []api.Node, want string) {
	t.Helper()
	if s, e := tree.Bytes(l); s != want || e != api.OK {
		t.Errorf("Bytes(%v) = %x, %d, want %x, OK", l, s, e, want)
	}
}

// P8: Id, Key, how many bytes the Text has, and the Text, of each node in their order.
func TestBytes(t *testing.T) {
	wantBytes(t, nil, "")
	wantBytes(t, []api.Node{}, "")
	wantBytes(t, []api.Node{{Id: 3, Key: 258, Text: "!"}}, "\x03\x01\x02\x01!")
	wantBytes(t, []api.Node{{Id: 16, Key: 65535, Text: "\u00e9"}, {Id: 1}}, "\x10\xff\xff\x02\xc3\xa9\x01\x00\x00\x00")
	wantBytes(t, nodes(2, 255, 1, 256), "\x02\x00\xff\x00\x01\x01\x00\x00")
	wantBytes(t, nodes(1, 256, 2, 255), "\x01\x01\x00\x00\x02\x00\xff\x00")
	// The number is of bytes, not of characters.
	faces := strings.Repeat("\U0001f600", 6)
	wantBytes(t, []api.Node{{Id: 5, Key: 4660, Text: faces}, {Id: 4, Key: 1, Text: "\x00"}}, "\x05\x12\x34\x18"+faces+"\x04\x00\x01\x01\x00")
	want := ""
	for id := 1; id <= 16; id++ {
		want += string([]byte{byte(id), 0, byte(10 * id), 0})
	}
	wantBytes(t, row(upTo(1, 16)...), want)
}

// P8: Bytes of each Key.
func TestBytesOfKeys(t *testing.T) {
	for key := range 65536 {
		wantBytes(t, nodes(7, key), string([]byte{7, byte(key >> 8), byte(key), 0}))
	}
}

// P8: Mark of any bytes, with such as are no text and such as are long.
func TestMark(t *testing.T) {
	for _, c := range []struct {
		s    string
		want uint32
	}{{"", 2166136261}, {"a", 3826002220}, {"foobar", 0xbf9cf968}, {"\x00", 0x050c5d1f}, {"ab", 0x4d2505ca}, {"ba", 0x3c2ba6cc}} {
		if got := tree.Mark(c.s); got != c.want {
			t.Errorf("Mark(%q) = %d, want %d", c.s, got, c.want)
		}
	}
	var all []byte
	for i := range 256 {
		all = append(all, byte(i))
	}
	long := strings.Repeat(string(all), 300)
	for n := 0; n <= len(long); n = n + 1 + n/3 {
		for _, s := range []string{long[:n], long[len(long)-n:]} {
			h := fnv.New32a()
			h.Write([]byte(s))
			if got := tree.Mark(s); got != h.Sum32() {
				t.Errorf("Mark of %d bytes = %d, want %d", n, got, h.Sum32())
			}
		}
	}
	for a := range 65536 {
		s := string([]byte{byte(a >> 8), byte(a)})
		h := fnv.New32a()
		h.Write([]byte(s))
		if got := tree.Mark(s); got != h.Sum32() {
			t.Errorf("Mark(%x) = %d, want %d", s, got, h.Sum32())
		}
	}
}
