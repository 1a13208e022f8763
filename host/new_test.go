package host_test

import (
	"math"
	"slices"
	"strings"
	"testing"

	"hostel/api"
	"hostel/host"
)

// least: a tenant of which each number is as low as it may be.
var least = api.Tenant{Program: "\x00", Fuel: 1, Share: 1, Back: 1}

// most: a tenant of which each number is as high as it may be.
var most = api.Tenant{Program: strings.Repeat("\x01\xff\xff", 64), Fuel: 1000, Routes: 15, Pub: 15, Sub: 15, Share: 3, Back: 8}

func wantManifest(t *testing.T, m []api.Tenant, good bool) {
	t.Helper()
	h, e := host.New(m)
	if good && (h == nil || e != api.OK) {
		t.Errorf("New(%+v) = %v, %d, want a host", m, h, e)
	}
	if !good && (h != nil || e != api.ErrManifest) {
		t.Errorf("New(%+v) = %v, %d, want nil, ErrManifest", m, h, e)
	}
}

// wantTenant: the tenant alone, and as each of four.
func wantTenant(t *testing.T, x api.Tenant, good bool) {
	t.Helper()
	wantManifest(t, []api.Tenant{x}, good)
	for at := range 4 {
		m := []api.Tenant{least, most, most, least}
		m[at] = x
		wantManifest(t, m, good)
	}
}

// P9: 1 to 4 tenants.
func TestHowManyTenants(t *testing.T) {
	for n := range 12 {
		wantManifest(t, slices.Repeat([]api.Tenant{least}, n), n >= 1 && n <= 4)
		wantManifest(t, slices.Repeat([]api.Tenant{most}, n), n >= 1 && n <= 4)
	}
	wantManifest(t, nil, false)
	wantManifest(t, make([]api.Tenant, 1<<16), false)
}

// P9: the numbers of a tenant.
func TestNumbersOfTenant(t *testing.T) {
	for _, x := range []api.Tenant{least, most} {
		for _, v := range []int{math.MinInt, -65535, -1, 0, 1, 2, 3, 4, 7, 8, 9, 10, 16, 17, 257, 999, 1000, 1001, 65537, 1<<32 + 1, math.MaxInt} {
			fuel, share, back := x, x, x
			fuel.Fuel, share.Share, back.Back = v, v, v
			wantTenant(t, fuel, v >= 1 && v <= 1000)
			wantTenant(t, share, v >= 1 && v <= 3)
			wantTenant(t, back, v >= 1 && v <= 8)
		}
		for v := range 256 {
			routes, pub, sub := x, x, x
			routes.Routes, pub.Pub, sub.Sub = uint8(v), uint8(v), uint8(v)
			wantTenant(t, routes, v <= 15)
			wantTenant(t, pub, v <= 15)
			wantTenant(t, sub, v <= 15)
		}
	}
}

// P9: bytes that are a program's, and bytes that are none's.
func TestProgramOfTenant(t *testing.T) {
	for _, c := range []struct {
		program string
		good    bool
	}{
		{"\x00", true},
		{"\x17", true},
		{"\x10\xff", true},
		{"\x10\x01\x00", true},
		{strings.Repeat("\x1a", 64), true},
		{"", false},
		{"\x1c", false},
		{"\x00\x00\xff", false},
		{"\x01\x05", false},
		{"\x00\x02\x08", false},
		{"\x19\x04", false},
		{"\x10\x02\x00", false},
		{"\x11\xfe", false},
		{strings.Repeat("\x1a", 65), false},
	} {
		x := most
		x.Program = c.program
		wantTenant(t, x, c.good)
	}
}

// P9: all tenants are Out at first, and have nothing.
func TestAllOutAtFirst(t *testing.T) {
	for n := 1; n <= 4; n++ {
		h := opened(t, slices.Repeat([]api.Tenant{most}, n)...)
		if l := everyone(h); !same(l, make([]state, 6)) {
			t.Errorf("a new host of %d: %v", n, l)
		}
	}
}

// P9: the route is 0 at first, and the first frame has the number 1.
func TestRouteAndFrameAtFirst(t *testing.T) {
	show := code(t, list(ins(api.Route), ins(api.Store, 0)))
	on, off := of(show), of(show)
	on.Routes, off.Routes = 1, 14
	h := opened(t, on, off)
	frames(t, h, 1)
	wantState(t, h, 0, state{phase: api.In, log: entries([4]int{1, done, 0, 0})})
	wantState(t, h, 1, state{})
}

// P9: bit r of Routes is for the route r.
func TestBitsOfRoutes(t *testing.T) {
	for routes := range 16 {
		for r := range 4 {
			x := of("\x00")
			x.Routes = uint8(routes)
			h := opened(t, x)
			goTo(t, h, uint8(r))
			frames(t, h, 1)
			want := state{}
			if routes>>r&1 == 1 {
				want = state{phase: api.In, log: entries([4]int{1, done, 0, r})}
			}
			wantState(t, h, 0, want)
		}
	}
}

// P9: bit k of Pub is for the topic k: what goes to another one is barred (P11).
func TestBitsOfPub(t *testing.T) {
	program := code(t, list(ins(api.Push, 40), ins(api.Send, 0), ins(api.Push, 50), ins(api.Send, 1), ins(api.Push, 60), ins(api.Send, 2), ins(api.Push, 70), ins(api.Send, 3)))
	for pub := range 16 {
		x := of(program)
		x.Pub = uint8(pub)
		h := opened(t, x)
		frames(t, h, 1)
		log := entries([4]int{1, done, 0, 0})
		for k := range 4 {
			if pub>>k&1 == 0 {
				log = append(log, api.Entry{Frame: 1, Kind: api.Barred, A: uint16(k), B: uint16(40 + 10*k)})
			}
		}
		wantState(t, h, 0, state{phase: api.In, log: log})
	}
}
