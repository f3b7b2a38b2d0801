package moraine

import (
	"math"
	"reflect"
	"slices"
	"testing"

	"moraine/api"
	"moraine/router"
)

// strange has numbers that no router of a net of 5 has.
var strange = []int{-1, 5, 6, 255, 256, -256, math.MaxInt, math.MinInt}

func net(t *testing.T, n int, links ...[3]int) *Net {
	t.Helper()
	w, e := New(n)
	if w == nil || e != api.OK {
		t.Fatalf("New(%d) = %v, %d", n, w, e)
	}
	for _, l := range links {
		answers(t, "Link", w.Link(l[0], l[1], l[2]), api.OK)
	}
	return w
}

func answers(t *testing.T, what string, e api.Errno, want api.Errno) {
	t.Helper()
	if e != want {
		t.Errorf("%s = %d, want %d", what, e, want)
	}
}

func waits(t *testing.T, w *Net, a int, b int, want int) {
	t.Helper()
	if n, e := w.Waiting(a, b); n != want || e != api.OK {
		t.Errorf("Waiting(%d, %d) = %d, %d, want %d", a, b, n, e, want)
	}
}

func routeIs(t *testing.T, w *Net, r int, d int, want api.Route) {
	t.Helper()
	if route, e := w.Route(r, d); route != want || e != api.OK {
		t.Errorf("Route(%d, %d) = %v, %d, want %v", r, d, route, e, want)
	}
}

func bestIs(t *testing.T, w *Net, r int, d int, want api.Best) {
	t.Helper()
	if best, e := w.Best(r, d); best != want || e != api.OK {
		t.Errorf("Best(%d, %d) = %v, %d, want %v", r, d, best, e, want)
	}
}

func traceIs(t *testing.T, w *Net, r int, d int, want ...int) {
	t.Helper()
	if way, e := w.Trace(r, d); !slices.Equal(way, want) || e != api.OK {
		t.Errorf("Trace(%d, %d) = %v, %d, want %v", r, d, way, e, want)
	}
}

// tell lets a dump, and b get that message, whatever else waits ahead of it.
func tell(t *testing.T, w *Net, a int, b int) {
	t.Helper()
	answers(t, "Dump", w.Dump(a), api.OK)
	n, _ := w.Waiting(a, b)
	answers(t, "Deliver", w.Deliver(a, b, n-1), api.OK)
}

var none = api.Route{Next: -1}

// copyOf shares nothing with w.
func copyOf(w *Net) *Net {
	c := *w
	c.routers = slices.Clone(w.routers)
	for a := range w.waiting {
		for b := range w.waiting[a] {
			c.waiting[a][b] = slices.Clone(w.waiting[a][b])
		}
	}
	return &c
}

func unchanged(t *testing.T, what string, w *Net, before *Net) {
	t.Helper()
	if !reflect.DeepEqual(w, before) {
		t.Errorf("%s changed the net: %v, want %v", what, w, before)
	}
}

// know gives a router a route that no message told, so that each of its fields can be chosen.
func know(w *Net, r int, d int, route api.Route) { w.routers[r].Routes[d] = route }

// full is a net in which something of each kind is.
func full(t *testing.T) *Net {
	w := net(t, 5, [3]int{0, 1, 2}, [3]int{1, 2, 3}, [3]int{0, 2, 9})
	know(w, 0, 1, api.Route{Next: 1, Seq: 4})
	know(w, 0, 2, api.Route{Next: 1, Seq: 1, Metric: 3, Age: 2, Stale: 1})
	know(w, 1, 0, api.Route{Next: 0, Seq: 2})
	know(w, 1, 2, api.Route{Next: 2, Seq: 1})
	for r := range 3 {
		answers(t, "Dump", w.Dump(r), api.OK)
	}
	w.routers[0].Bests[2] = router.Telling{Seq: 1, Metric: 4}
	return w
}
