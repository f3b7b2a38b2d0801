package moraine

import (
	"fmt"
	"math"
	"slices"
	"testing"

	"moraine/api"
	"moraine/router"
	"moraine/undo"
)

func TestP1NoNetHasNoRouters(t *testing.T) {
	for _, w := range []*Net{nil, {}} {
		answers(t, "Link", w.Link(0, 1, 1), api.ErrRouter)
		answers(t, "Dump", w.Dump(0), api.ErrRouter)
		answers(t, "Deliver", w.Deliver(0, 1, 0), api.ErrRouter)
		answers(t, "Lose", w.Lose(0, 1, 0), api.ErrRouter)
		answers(t, "Again", w.Again(0, 1, 0), api.ErrRouter)
		answers(t, "Tick", w.Tick(0), api.ErrRouter)
		answers(t, "Bump", w.Bump(0), api.ErrRouter)
		answers(t, "Fail", w.Fail(0, 1), api.ErrRouter)
		answers(t, "Crash", w.Crash(0), api.ErrRouter)
		answers(t, "Restart", w.Restart(0), api.ErrRouter)
		_, e := w.Waiting(0, 1)
		answers(t, "Waiting", e, api.ErrRouter)
		_, e = w.Route(0, 1)
		answers(t, "Route", e, api.ErrRouter)
		_, e = w.Best(0, 1)
		answers(t, "Best", e, api.ErrRouter)
		_, e = w.Trace(0, 0)
		answers(t, "Trace", e, api.ErrRouter)
	}
}

func TestP2NetsDoNotChangeOneAnother(t *testing.T) {
	w, v := full(t), full(t)
	before := copyOf(v)
	answers(t, "Link", w.Link(0, 1, 0), api.OK)
	answers(t, "Link", w.Link(1, 2, 9), api.OK)
	for r := range 5 {
		answers(t, "Bump", w.Bump(r), api.OK)
		answers(t, "Dump", w.Dump(r), api.OK)
	}
	tell(t, w, 2, 0)
	answers(t, "Deliver", w.Deliver(2, 0, 0), api.OK)
	answers(t, "Again", w.Again(2, 1, 0), api.OK)
	answers(t, "Lose", w.Lose(2, 1, 1), api.OK)
	answers(t, "Tick", w.Tick(0), api.OK)
	answers(t, "Fail", w.Fail(1, 2), api.OK)
	answers(t, "Dump of one that fails", w.Dump(1), api.ErrDisk)
	answers(t, "Crash", w.Crash(2), api.OK)
	answers(t, "Crash", w.Crash(0), api.OK)
	answers(t, "Restart", w.Restart(0), api.OK)
	unchanged(t, "another net", v, before)
}

func TestP3Size(t *testing.T) {
	for _, n := range []int{1, 0, -1, -2, 6, 7, 258, math.MaxInt, math.MinInt} {
		if w, e := New(n); w != nil || e != api.ErrSize {
			t.Errorf("New(%d) = %v, %d", n, w, e)
		}
	}
	for n := 2; n <= api.MaxRouters; n++ {
		w := net(t, n)
		answers(t, "Dump of the last", w.Dump(n-1), api.OK)
		answers(t, "Dump of one more", w.Dump(n), api.ErrRouter)
	}
}

func TestP3Fresh(t *testing.T) {
	w := net(t, 4)
	for r := range 4 {
		for d := range 4 {
			if r != d {
				waits(t, w, r, d, 0)
				routeIs(t, w, r, d, none)
				bestIs(t, w, r, d, api.Best{Seq: -1})
			}
		}
	}
	before := copyOf(w)
	for r := range 4 {
		answers(t, "Dump", w.Dump(r), api.OK)
	}
	unchanged(t, "Dump with all links cut", w, before)
}

func TestP4Refusals(t *testing.T) {
	w := full(t)
	before := copyOf(w)
	for _, s := range strange {
		answers(t, fmt.Sprint("Link of none ", s), w.Link(s, 0, 1), api.ErrRouter)
		answers(t, fmt.Sprint("Link to none ", s), w.Link(0, s, 0), api.ErrRouter)
		answers(t, fmt.Sprint("Link of none to itself ", s), w.Link(s, s, -1), api.ErrRouter)
		answers(t, fmt.Sprint("Link of none, wrong cost ", s), w.Link(0, s, 10), api.ErrRouter)
	}
	for _, cost := range []int{0, 1, 9, 10, -1} {
		answers(t, fmt.Sprint("Link to itself ", cost), w.Link(1, 1, cost), api.ErrSame)
	}
	for _, cost := range []int{-1, 10, 256, 265, math.MaxInt, math.MinInt} {
		answers(t, fmt.Sprint("Link, cost ", cost), w.Link(0, 1, cost), api.ErrCost)
	}
	unchanged(t, "a refused Link", w, before)
}

func TestP4CostIsTheSameBothWays(t *testing.T) {
	for _, cost := range []int{1, 2, api.MaxCost} {
		w := net(t, 3, [3]int{2, 0, cost})
		know(w, 0, 1, api.Route{Next: 2, Metric: 1})
		know(w, 2, 1, api.Route{Next: 0, Metric: 1})
		answers(t, "Dump", w.Dump(0), api.OK)
		answers(t, "Dump", w.Dump(2), api.OK)
		bestIs(t, w, 0, 1, api.Best{Metric: 1 + cost})
		bestIs(t, w, 2, 1, api.Best{Metric: 1 + cost})
		waits(t, w, 0, 2, 1)
		waits(t, w, 2, 0, 1)
	}
}

func TestP4CutDropsRoutesByTheOther(t *testing.T) {
	for _, turn := range []bool{false, true} {
		w := net(t, 4, [3]int{0, 1, 2}, [3]int{1, 2, 3}, [3]int{0, 2, 4})
		know(w, 0, 1, api.Route{Next: 1})
		know(w, 0, 2, api.Route{Next: 2, Seq: 3})
		know(w, 0, 3, api.Route{Next: 1, Metric: 5})
		know(w, 1, 0, api.Route{Next: 2, Metric: 4})
		know(w, 1, 3, api.Route{Next: 0, Metric: 2})
		know(w, 2, 0, api.Route{Next: 1, Metric: 2})
		know(w, 2, 1, api.Route{Next: 0, Metric: 2})
		w.routers[0].Bests[3] = router.Telling{Metric: 7}
		saved := w.routers[0].Saved
		a, b := 0, 1
		if turn {
			a, b = 1, 0
		}
		answers(t, "Link", w.Link(a, b, 0), api.OK)
		routeIs(t, w, 0, 1, none)
		routeIs(t, w, 0, 2, api.Route{Next: 2, Seq: 3})
		routeIs(t, w, 0, 3, none)
		routeIs(t, w, 1, 0, api.Route{Next: 2, Metric: 4})
		routeIs(t, w, 1, 3, none)
		routeIs(t, w, 2, 0, api.Route{Next: 1, Metric: 2})
		routeIs(t, w, 2, 1, api.Route{Next: 0, Metric: 2})
		bestIs(t, w, 0, 3, api.Best{Metric: 7})
		if w.routers[0].Saved != saved {
			t.Error("a cut link changed a disk")
		}
	}
}

func TestP4OtherCostKeepsRoutes(t *testing.T) {
	w := net(t, 3, [3]int{0, 1, 2})
	know(w, 0, 2, api.Route{Next: 1, Seq: 1, Metric: 28, Age: 1})
	answers(t, "Link", w.Link(0, 1, 9), api.OK)
	routeIs(t, w, 0, 2, api.Route{Next: 1, Seq: 1, Metric: 28, Age: 1})
	answers(t, "Link", w.Link(1, 0, 1), api.OK)
	answers(t, "Dump", w.Dump(0), api.OK)
	bestIs(t, w, 0, 2, api.Best{Seq: 1, Metric: 29})
}

func TestP4CutKeepsWhatWaits(t *testing.T) {
	w := net(t, 3, [3]int{0, 1, 2})
	answers(t, "Dump", w.Dump(0), api.OK)
	answers(t, "Dump", w.Dump(0), api.OK)
	answers(t, "Dump", w.Dump(1), api.OK)
	answers(t, "Link", w.Link(0, 1, 0), api.OK)
	waits(t, w, 0, 1, 2)
	waits(t, w, 1, 0, 1)
	answers(t, "Dump", w.Dump(0), api.OK)
	waits(t, w, 0, 1, 2)
	answers(t, "Link", w.Link(0, 1, 1), api.OK)
	answers(t, "Dump", w.Dump(0), api.OK)
	waits(t, w, 0, 1, 3)
}

func TestP5Refusals(t *testing.T) {
	w := full(t)
	answers(t, "Crash", w.Crash(1), api.OK)
	answers(t, "Fail", w.Fail(1, 1), api.OK)
	before := copyOf(w)
	for _, s := range strange {
		answers(t, fmt.Sprint("Dump of none ", s), w.Dump(s), api.ErrRouter)
	}
	answers(t, "Dump of one that is down", w.Dump(1), api.ErrDown)
	unchanged(t, "a refused Dump", w, before)
}

func TestP5GoesToNeighboursAlone(t *testing.T) {
	w := net(t, 4, [3]int{0, 1, 2}, [3]int{1, 2, 3}, [3]int{1, 3, 1})
	answers(t, "Crash", w.Crash(2), api.OK)
	answers(t, "Link", w.Link(1, 3, 0), api.OK)
	answers(t, "Dump", w.Dump(1), api.OK)
	for a := range 4 {
		for b := range 4 {
			if a != b && (a != 1 || b == 3) {
				waits(t, w, a, b, 0)
			}
		}
	}
	waits(t, w, 1, 0, 1)
	waits(t, w, 1, 2, 1)
}

func TestP5Message(t *testing.T) {
	w := net(t, 5, [3]int{2, 1, 4}, [3]int{2, 3, 1})
	w.routers[2].Seq = 6
	know(w, 2, 0, api.Route{Next: 1, Seq: 8, Metric: 2, Stale: 1})
	know(w, 2, 1, api.Route{Next: 3, Seq: 2, Metric: api.MaxMetric - 1, Age: 2})
	know(w, 2, 3, api.Route{Next: 1, Seq: 9, Metric: api.MaxMetric - 3})
	answers(t, "Dump", w.Dump(2), api.OK)
	want := []router.Message{{{Seq: 8, Metric: 6}, {Seq: 2, Metric: 30}, {Seq: 6}, router.Nothing(), router.Nothing()}}
	for _, b := range []int{1, 3} {
		if !slices.Equal(w.waiting[2][b], want) {
			t.Errorf("on the link to %d: %v, want %v", b, w.waiting[2][b], want)
		}
	}
	routeIs(t, w, 2, 0, api.Route{Next: 1, Seq: 8, Metric: 2, Stale: 1})
	routeIs(t, w, 2, 1, api.Route{Next: 3, Seq: 2, Metric: 29, Age: 2})
	routeIs(t, w, 2, 3, none)
	bestIs(t, w, 2, 0, api.Best{Seq: 8, Metric: 6})
	bestIs(t, w, 2, 1, api.Best{Seq: 2, Metric: 30})
	bestIs(t, w, 2, 3, api.Best{Seq: -1})
	bestIs(t, w, 2, 4, api.Best{Seq: -1})
	if w.routers[2].Saved != w.routers[2].Knowledge {
		t.Errorf("saved %v, knows %v", w.routers[2].Saved, w.routers[2].Knowledge)
	}
}

func TestP5WaitsBehind(t *testing.T) {
	w := net(t, 2, [3]int{0, 1, 1})
	for seq := range api.MaxWaiting + 3 {
		w.routers[0].Seq = seq
		answers(t, "Dump", w.Dump(0), api.OK)
		waits(t, w, 0, 1, min(seq+1, api.MaxWaiting))
		if w.routers[0].Saved.Seq != seq {
			t.Errorf("Dump %d did not save", seq)
		}
	}
	for k, message := range w.waiting[0][1] {
		if message[0].Seq != k {
			t.Errorf("the message %d has the seq %d", k, message[0].Seq)
		}
	}
}

func TestP5FullLinkHoldsUpNoOther(t *testing.T) {
	w := net(t, 3, [3]int{0, 1, 1})
	for range api.MaxWaiting {
		answers(t, "Dump", w.Dump(0), api.OK)
	}
	answers(t, "Link", w.Link(0, 2, 1), api.OK)
	answers(t, "Dump", w.Dump(0), api.OK)
	waits(t, w, 0, 1, api.MaxWaiting)
	waits(t, w, 0, 2, 1)
}

func TestP5DiskFails(t *testing.T) {
	w := full(t)
	w.routers[0].Seq = 3
	know(w, 0, 3, api.Route{Next: 2, Seq: 2, Metric: api.MaxMetric})
	know(w, 0, 4, api.Route{Next: 1, Seq: 7, Metric: 8})
	know(w, 0, 1, api.Route{Next: 2, Seq: 5, Metric: 3, Age: 1})
	answers(t, "Fail", w.Fail(0, 2), api.OK)
	before := copyOf(w)
	for left := 1; left >= 0; left-- {
		answers(t, "Dump", w.Dump(0), api.ErrDisk)
		before.routers[0].Fails = left
		unchanged(t, "a Dump whose disk failed", w, before)
	}
	answers(t, "Dump of another", w.Dump(1), api.OK)
	answers(t, "Dump once more", w.Dump(0), api.OK)
	waits(t, w, 0, 1, 2)
	routeIs(t, w, 0, 3, none)
	bestIs(t, w, 0, 4, api.Best{Seq: 7, Metric: 10})
	bestIs(t, w, 0, 1, api.Best{Seq: 5, Metric: 12})
}

func TestSavingTakesNoOtherPanicForTheDisk(t *testing.T) {
	defer func() {
		if recover() != "a fault" {
			t.Error("a fault of the program was told as one of the disk")
		}
	}()
	t.Errorf("saving = %d", saving(func(*undo.Log) { panic("a fault") }))
}

func TestP6(t *testing.T) {
	w := full(t)
	answers(t, "Crash", w.Crash(1), api.OK)
	before := copyOf(w)
	for _, s := range strange {
		for _, p := range [][2]int{{s, 0}, {0, s}, {s, s}} {
			if n, e := w.Waiting(p[0], p[1]); n != 0 || e != api.ErrRouter {
				t.Errorf("Waiting%v = %d, %d", p, n, e)
			}
		}
	}
	for r := range 5 {
		if n, e := w.Waiting(r, r); n != 0 || e != api.ErrSame {
			t.Errorf("Waiting(%d, %d) = %d, %d", r, r, n, e)
		}
	}
	waits(t, w, 0, 1, 1)
	waits(t, w, 1, 0, 1)
	waits(t, w, 2, 3, 0)
	unchanged(t, "Waiting", w, before)
	w = net(t, 3, [3]int{0, 1, 1})
	answers(t, "Dump", w.Dump(0), api.OK)
	waits(t, w, 0, 1, 1)
	waits(t, w, 1, 0, 0)
}

// asks holds Route and Best against the error that both answer.
func asks(t *testing.T, w *Net, r int, d int, want api.Errno) {
	t.Helper()
	if route, e := w.Route(r, d); route != (api.Route{}) || e != want {
		t.Errorf("Route(%d, %d) = %v, %d, want %d", r, d, route, e, want)
	}
	if best, e := w.Best(r, d); best != (api.Best{}) || e != want {
		t.Errorf("Best(%d, %d) = %v, %d, want %d", r, d, best, e, want)
	}
}

func TestP11Refusals(t *testing.T) {
	w := full(t)
	answers(t, "Crash", w.Crash(1), api.OK)
	before := copyOf(w)
	for _, s := range strange {
		asks(t, w, s, 0, api.ErrRouter)
		asks(t, w, 0, s, api.ErrRouter)
		asks(t, w, s, s, api.ErrRouter)
		asks(t, w, 1, s, api.ErrRouter)
	}
	asks(t, w, 0, 0, api.ErrSame)
	asks(t, w, 1, 1, api.ErrSame)
	asks(t, w, 1, 0, api.ErrDown)
	asks(t, w, 1, 4, api.ErrDown)
	unchanged(t, "a refused Route or Best", w, before)
}

func TestP11Answers(t *testing.T) {
	w := full(t)
	answers(t, "Crash", w.Crash(1), api.OK)
	before := copyOf(w)
	routeIs(t, w, 0, 1, api.Route{Next: 1, Seq: 4})
	routeIs(t, w, 0, 2, api.Route{Next: 1, Seq: 1, Metric: 3, Age: 2, Stale: 1})
	routeIs(t, w, 0, 3, none)
	bestIs(t, w, 0, 1, api.Best{Seq: 4, Metric: 2})
	bestIs(t, w, 0, 2, api.Best{Seq: 1, Metric: 4})
	bestIs(t, w, 0, 3, api.Best{Seq: -1})
	unchanged(t, "Route or Best", w, before)
}
