package moraine

import (
	"slices"
	"testing"

	"moraine/api"
)

func TestP12Refusals(t *testing.T) {
	w := full(t)
	answers(t, "Crash", w.Crash(1), api.OK)
	before := copyOf(w)
	for _, s := range strange {
		for _, p := range [][2]int{{s, 0}, {0, s}, {s, s}, {1, s}} {
			if way, e := w.Trace(p[0], p[1]); len(way) != 0 || e != api.ErrRouter {
				t.Errorf("Trace%v = %v, %d", p, way, e)
			}
		}
	}
	unchanged(t, "a refused Trace", w, before)
}

// line is five routers in a row that know the way to router 4.
func line(t *testing.T) *Net {
	w := net(t, 5, [3]int{0, 1, 1}, [3]int{1, 2, 2}, [3]int{2, 3, 3}, [3]int{3, 4, 4})
	for r := 4; r > 0; r-- {
		tell(t, w, r, r-1)
	}
	return w
}

func TestP12EndsAtTheOneItIsFor(t *testing.T) {
	w := line(t)
	before := copyOf(w)
	traceIs(t, w, 0, 4, 0, 1, 2, 3, 4)
	traceIs(t, w, 2, 4, 2, 3, 4)
	traceIs(t, w, 0, 2, 0, 1, 2)
	traceIs(t, w, 4, 4, 4)
	traceIs(t, w, 0, 0, 0)
	unchanged(t, "Trace", w, before)
}

func TestP12EndsWhereNoRouteIs(t *testing.T) {
	w := line(t)
	traceIs(t, w, 4, 0, 4)
	answers(t, "Link", w.Link(2, 3, 0), api.OK)
	traceIs(t, w, 0, 4, 0, 1, 2)
	traceIs(t, w, 2, 4, 2)
	traceIs(t, w, 3, 4, 3, 4)
}

func TestP12EndsWhereOneIsDown(t *testing.T) {
	w := line(t)
	answers(t, "Crash", w.Crash(2), api.OK)
	know(w, 2, 4, api.Route{Next: 3, Metric: 4}) // it would not go on even by a route
	traceIs(t, w, 0, 4, 0, 1, 2)
	traceIs(t, w, 2, 4, 2)
	traceIs(t, w, 2, 2, 2)
	traceIs(t, w, 0, 2, 0, 1, 2)
	traceIs(t, w, 3, 4, 3, 4)
}

func TestP2TraceGivesFreshLists(t *testing.T) {
	w := line(t)
	before := copyOf(w)
	way, _ := w.Trace(0, 4)
	kept, _ := w.Trace(0, 4)
	for i := range way[:cap(way)] {
		way[:cap(way)][i] = 9
	}
	if !slices.Equal(kept, []int{0, 1, 2, 3, 4}) {
		t.Errorf("two lists share memory: %v", kept)
	}
	traceIs(t, w, 0, 4, 0, 1, 2, 3, 4)
	unchanged(t, "writing into a list", w, before)
}

func TestP1TraceEndsOnACircle(t *testing.T) {
	w := net(t, 3, [3]int{0, 1, 1})
	know(w, 0, 2, api.Route{Next: 1})
	know(w, 1, 2, api.Route{Next: 0})
	if _, e := w.Trace(0, 2); e != api.OK {
		t.Errorf("Trace = %d", e)
	}
}
