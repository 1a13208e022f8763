package host_test

import (
	"math"
	"testing"

	"hostel/api"
)

// shows the keys 10, 20 and 30, and stores its event's What, Arg and From.
func shower(t *testing.T) string {
	t.Helper()
	return code(t, list(ins(api.Push, 10), ins(api.Show), ins(api.Push, 20), ins(api.Show), ins(api.Push, 30), ins(api.Show), ins(api.What), ins(api.Store, 0), ins(api.Arg), ins(api.Store, 1), ins(api.From), ins(api.Store, 2)))
}

// breaks with the fault Pile in its first step.
const breaker = "\x1b"

func wantBox(t *testing.T, got []api.Event, keys ...uint16) {
	t.Helper()
	good := len(got) == len(keys)
	for i := 0; good && i < len(keys); i++ {
		good = got[i] == api.Event{What: api.Click, Arg: keys[i]}
	}
	if !good {
		t.Errorf("the box has %v, want clicks with the keys %v", got, keys)
	}
}

// P10: the routes 0 to 3, and none above.
func TestNavigate(t *testing.T) {
	h := opened(t, of(code(t, list(ins(api.Route), ins(api.Store, 0)))))
	for r := range 4 {
		goTo(t, h, uint8(r))
		for wrong := 4; wrong < 256; wrong++ {
			if e := h.Navigate(uint8(wrong)); e != api.ErrRoute {
				t.Fatalf("Navigate(%d) = %d, want ErrRoute", wrong, e)
			}
		}
		frames(t, h, 1)
		if c := h.Cells(0); c[0] != uint16(r) {
			t.Errorf("P1: the route is %d behind Navigate(%d) and wrong ones", c[0], r)
		}
	}
}

// P10: Navigate alone changes nothing of a tenant, and the last one ahead of a frame counts.
func TestNavigateTurnsAtFrame(t *testing.T) {
	x := of(shower(t))
	x.Routes = 1
	h := opened(t, x)
	frames(t, h, 1)
	click(t, h, 1, api.OK)
	before := everyone(h)
	goTo(t, h, 1)
	if l := everyone(h); !same(l, before) {
		t.Errorf("behind a Navigate alone: %v, want %v", l, before)
	}
	click(t, h, 2, api.OK)
	goTo(t, h, 0)
	frames(t, h, 1)
	if s := told(h, 0); s.phase != api.In || s.cells != [8]uint16{1, 10} || len(s.box) != 1 {
		t.Errorf("away and back between two frames: %v", s)
	}
}

// P10: the id is of the tenant and the node.
func TestClickId(t *testing.T) {
	x := of(shower(t))
	away := x
	away.Routes = 14
	h := opened(t, x, away, of(breaker), x)
	for _, id := range []int{0, 1, 101, 201, 301} {
		click(t, h, id, api.ErrNode)
	}
	frames(t, h, 1)
	for id := -500; id < 1000; id++ {
		tenant, node := id/100, id%100
		want := api.ErrNode
		if id >= 0 && (tenant == 0 || tenant == 3) && node >= 1 && node <= 3 {
			want = api.OK
		}
		click(t, h, id, want)
	}
	for _, id := range []int{math.MinInt, math.MinInt + 1, math.MaxInt, 1 << 32, 1<<32 + 1, -1 << 32, 256*100 + 1, 257, 258, 65536 + 1} {
		click(t, h, id, api.ErrNode)
	}
	wantBox(t, h.Box(0), 10, 20, 30)
	wantBox(t, h.Box(1))
	wantBox(t, h.Box(2))
	wantBox(t, h.Box(3), 10, 20, 30)
}

// P10: the tenants that there are not are more where there are fewer.
func TestClickNoTenant(t *testing.T) {
	for n := 1; n <= 4; n++ {
		var m []api.Tenant
		for range n {
			m = append(m, of(shower(t)))
		}
		h := opened(t, m...)
		frames(t, h, 1)
		for who := range 6 {
			want := api.ErrNode
			if who < n {
				want = api.OK
			}
			click(t, h, 100*who+2, want)
		}
	}
}

// P10: a click at a tenant that is Out, or Held, though its tree has the node.
func TestClickNotIn(t *testing.T) {
	x, y := of(shower(t)), of(breaker)
	x.Routes = 1
	y.Back = 8
	h := opened(t, x, y)
	frames(t, h, 1)
	click(t, h, 1, api.OK)
	if l := h.Tree(1); len(l) != 1 || l[0].Id != 1 {
		t.Fatalf("the tree of a tenant that is Held: %v", l)
	}
	click(t, h, 101, api.ErrNode)
	goTo(t, h, 1)
	frames(t, h, 1)
	click(t, h, 1, api.ErrNode)
	wantBox(t, h.Box(0))
	wantBox(t, h.Box(1))
}

// P10: the node is found by its Id, wherever it stands; its Key at the time of the click is the event's Arg.
func TestClickKey(t *testing.T) {
	turn := code(t, list(ins(api.Draw), ins(api.Show), ins(api.Draw), ins(api.Show), ins(api.Arg), ins(api.Store, 0)))
	h := opened(t, of(turn))
	frames(t, h, 1, []uint16{700, 65535})
	frames(t, h, 1, []uint16{65535, 700})
	click(t, h, 1, api.OK)
	click(t, h, 2, api.OK)
	click(t, h, 2, api.OK)
	wantBox(t, h.Box(0), 700, 65535, 65535)
	frames(t, h, 1, []uint16{8, 9})
	click(t, h, 1, api.ErrNode)
	click(t, h, 2, api.ErrNode)
	click(t, h, 4, api.OK)
	wantBox(t, h.Box(0), 65535, 65535, 9)
	if c := h.Cells(0); c[0] != 700 {
		t.Errorf("the event's Arg: %d, want 700", c[0])
	}
}

// P10: 6 Clicks, a 7th, and one more when one has been handled.
func TestClickFull(t *testing.T) {
	h := opened(t, of(shower(t)), of(shower(t)))
	frames(t, h, 1)
	for i := range 6 {
		click(t, h, 101+i%3, api.OK)
	}
	before := everyone(h)
	for range 3 {
		for id := 101; id <= 103; id++ {
			click(t, h, id, api.ErrFull)
		}
		click(t, h, 104, api.ErrNode)
		click(t, h, 100, api.ErrNode)
	}
	if l := everyone(h); !same(l, before) {
		t.Errorf("P1: behind clicks that were too many: %v, want %v", l, before)
	}
	for range 6 {
		click(t, h, 3, api.OK)
	}
	click(t, h, 3, api.ErrFull)
	frames(t, h, 1)
	wantBox(t, h.Box(1), 20, 30, 10, 20, 30)
	click(t, h, 103, api.OK)
	click(t, h, 103, api.ErrFull)
	wantBox(t, h.Box(1), 20, 30, 10, 20, 30, 30)
	wantBox(t, h.Box(0), 30, 30, 30, 30, 30)
}
