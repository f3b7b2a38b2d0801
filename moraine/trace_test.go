package moraine

import (
	"math/rand"
	"slices"
	"testing"

	"moraine/api"
)

func TestP12Refusals(t *testing.T) {
	w := full(t)
	w.routers[1].Down = true
	before := copyOf(w)
	for _, s := range strange {
		for _, p := range [][2]int{{s, 0}, {0, s}, {s, s}, {1, s}} {
			if way, e := w.Trace(p[0], p[1]); len(way) != 0 || e != api.ErrRouter {
				t.Errorf("Trace%v = %v, %d", p, way, e)
			}
		}
	}
	unchanged(t, "a refused Trace", w, before)
}

// line is five routers in a row that know the way to router 4.
func line(t *testing.T) *Net {
	w := net(t, 5, [3]int{0, 1, 1}, [3]int{1, 2, 2}, [3]int{2, 3, 3}, [3]int{3, 4, 4})
	for r := 4; r > 0; r-- {
		tell(t, w, r, r-1)
	}
	return w
}

func TestP12EndsAtTheOneItIsFor(t *testing.T) {
	w := line(t)
	before := copyOf(w)
	traceIs(t, w, 0, 4, 0, 1, 2, 3, 4)
	traceIs(t, w, 2, 4, 2, 3, 4)
	traceIs(t, w, 0, 2, 0, 1, 2)
	traceIs(t, w, 4, 4, 4)
	traceIs(t, w, 0, 0, 0)
	unchanged(t, "Trace", w, before)
}

func TestP12EndsWhereNoRouteIs(t *testing.T) {
	w := line(t)
	traceIs(t, w, 4, 0, 4)
	answers(t, "Link", w.Link(2, 3, 0), api.OK)
	traceIs(t, w, 0, 4, 0, 1, 2)
	traceIs(t, w, 2, 4, 2)
	traceIs(t, w, 3, 4, 3, 4)
}

func TestP12EndsWhereOneIsDown(t *testing.T) {
	w := line(t)
	w.routers[2].Down = true
	traceIs(t, w, 0, 4, 0, 1, 2)
	traceIs(t, w, 2, 4, 2)
	traceIs(t, w, 2, 2, 2)
	traceIs(t, w, 0, 2, 0, 1, 2)
	traceIs(t, w, 3, 4, 3, 4)
}

func TestP2TraceGivesFreshLists(t *testing.T) {
	w := line(t)
	before := copyOf(w)
	way, _ := w.Trace(0, 4)
	kept, _ := w.Trace(0, 4)
	for i := range way[:cap(way)] {
		way[:cap(way)][i] = 9
	}
	if !slices.Equal(kept, []int{0, 1, 2, 3, 4}) {
		t.Errorf("two lists share memory: %v", kept)
	}
	traceIs(t, w, 0, 4, 0, 1, 2, 3, 4)
	unchanged(t, "writing into a list", w, before)
}

func TestP1TraceEndsOnACircle(t *testing.T) {
	w := net(t, 3, [3]int{0, 1, 1})
	know(w, 0, 2, api.Route{Next: 1})
	know(w, 1, 2, api.Route{Next: 0})
	if _, e := w.Trace(0, 2); e != api.OK {
		t.Errorf("Trace = %d", e)
	}
}

// noCircle holds all traces of w against having a router twice.
func noCircle(t *testing.T, w *Net) {
	t.Helper()
	for r := range w.routers {
		for d := range w.routers {
			way, e := w.Trace(r, d)
			once := slices.Compact(slices.Sorted(slices.Values(way)))
			if e != api.OK || len(once) != len(way) || way[0] != r {
				t.Fatalf("Trace(%d, %d) = %v, %d", r, d, way, e)
			}
		}
	}
}

// step makes one call, with numbers that mostly are not refused.
func step(w *Net, rng *rand.Rand) {
	n := len(w.routers)
	a, b := rng.Intn(n), rng.Intn(n)
	k := rng.Intn(api.MaxWaiting)
	if waiting, _ := w.Waiting(a, b); waiting > 0 {
		k = rng.Intn(waiting)
	}
	switch rng.Intn(16) {
	case 0:
		w.Link(a, b, rng.Intn(4)*rng.Intn(4))
	case 1:
		w.Bump(a)
	case 2:
		w.Tick(a)
	case 3:
		w.Lose(a, b, k)
	case 4, 5:
		w.Again(a, b, k)
	case 6, 7, 8, 9:
		w.Dump(a)
	default:
		w.Deliver(a, b, k)
	}
}

func TestNoCircleInAnyOrder(t *testing.T) {
	for seed := range int64(200) {
		rng := rand.New(rand.NewSource(seed))
		w := net(t, 2+rng.Intn(4))
		for range 400 {
			step(w, rng)
			noCircle(t, w)
		}
	}
}
