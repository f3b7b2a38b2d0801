package moraine

import (
	"fmt"
	"math"
	"testing"

	"moraine/api"
)

func TestP10FailRefusals(t *testing.T) {
	w := full(t)
	answers(t, "Fail", w.Fail(2, 2), api.OK)
	answers(t, "Crash", w.Crash(1), api.OK)
	before := copyOf(w)
	for _, s := range strange {
		for _, times := range []int{0, api.MaxFails, -1, api.MaxFails + 1} {
			answers(t, fmt.Sprint("Fail of none ", s, times), w.Fail(s, times), api.ErrRouter)
		}
	}
	for _, times := range []int{-1, api.MaxFails + 1, 256, 257, -256, math.MaxInt, math.MinInt} {
		for r := range 5 {
			answers(t, fmt.Sprint("Fail, times ", times), w.Fail(r, times), api.ErrMany)
		}
	}
	unchanged(t, "a refused Fail", w, before)
}

// fails holds the next Dumps of r against so many that fail, and one that does not.
func fails(t *testing.T, w *Net, r int, times int) {
	t.Helper()
	for i := range times {
		answers(t, fmt.Sprint("Dump ", i, " of those that fail"), w.Dump(r), api.ErrDisk)
	}
	answers(t, fmt.Sprint("Dump after ", times, " that fail"), w.Dump(r), api.OK)
}

func TestP10FailsSoManyTimes(t *testing.T) {
	w := net(t, 2, [3]int{0, 1, 1})
	for times := range api.MaxFails + 1 {
		answers(t, "Fail", w.Fail(0, times), api.OK)
		answers(t, "Dump of another", w.Dump(1), api.OK)
		fails(t, w, 0, times)
		waits(t, w, 0, 1, times+1)
	}
	answers(t, "Dump once more", w.Dump(0), api.OK)
}

func TestP10FailCountsFromTheLastOneOn(t *testing.T) {
	for first := range api.MaxFails + 1 {
		for last := range api.MaxFails + 1 {
			w := net(t, 2, [3]int{0, 1, 1})
			answers(t, "Fail", w.Fail(0, first), api.OK)
			answers(t, "Fail", w.Fail(0, last), api.OK)
			fails(t, w, 0, last)
		}
	}
	w := net(t, 2, [3]int{0, 1, 1})
	answers(t, "Fail", w.Fail(0, 3), api.OK)
	answers(t, "Dump", w.Dump(0), api.ErrDisk)
	answers(t, "Fail, one having failed", w.Fail(0, 1), api.OK)
	fails(t, w, 0, 1)
}

func TestP10FailChangesNothingElse(t *testing.T) {
	w := full(t)
	answers(t, "Crash", w.Crash(1), api.OK)
	want := copyOf(w)
	for r := range 2 { // one that is up, one that is down
		answers(t, "Fail", w.Fail(r, 2), api.OK)
		want.routers[r].Fails = 2
		unchanged(t, "Fail", w, want)
	}
}

func TestP10FailsOnAfterACrash(t *testing.T) {
	w := net(t, 2, [3]int{0, 1, 1})
	answers(t, "Fail", w.Fail(0, 3), api.OK)
	answers(t, "Dump", w.Dump(0), api.ErrDisk)
	answers(t, "Crash", w.Crash(0), api.OK)
	answers(t, "Dump of one that is down", w.Dump(0), api.ErrDown) // it saves nothing, so that nothing fails
	answers(t, "Restart", w.Restart(0), api.OK)
	fails(t, w, 0, 2)
	answers(t, "Crash", w.Crash(0), api.OK)
	answers(t, "Fail of one that is down", w.Fail(0, 1), api.OK)
	answers(t, "Restart", w.Restart(0), api.OK)
	fails(t, w, 0, 1)
}

func TestP10OnlySavingFails(t *testing.T) {
	w := net(t, 3, [3]int{0, 1, 2}, [3]int{1, 2, 3})
	tell(t, w, 2, 1)
	answers(t, "Dump", w.Dump(1), api.OK)
	answers(t, "Dump", w.Dump(0), api.OK)
	answers(t, "Fail", w.Fail(1, 1), api.OK)
	answers(t, "Deliver", w.Deliver(0, 1, 0), api.OK)
	answers(t, "Bump", w.Bump(1), api.OK)
	answers(t, "Tick", w.Tick(1), api.OK)
	answers(t, "Link", w.Link(1, 2, 0), api.OK)
	answers(t, "Link", w.Link(1, 2, 5), api.OK)
	answers(t, "Again", w.Again(1, 0, 0), api.OK)
	answers(t, "Lose", w.Lose(1, 0, 0), api.OK)
	traceIs(t, w, 1, 0, 1, 0)
	answers(t, "Crash", w.Crash(1), api.OK)
	answers(t, "Restart", w.Restart(1), api.OK)
	routeIs(t, w, 1, 2, api.Route{Next: 2, Stale: 1})
	fails(t, w, 1, 1)
}

func TestP5DiskFailsAndWhatWasSavedStays(t *testing.T) {
	// What the failed Dump would have saved is not on the disk: 1 comes up with what it saved ahead of that.
	w := net(t, 3, [3]int{0, 1, 2}, [3]int{1, 2, 3})
	tell(t, w, 2, 1)
	answers(t, "Dump", w.Dump(1), api.OK)
	answers(t, "Bump", w.Bump(2), api.OK)
	tell(t, w, 2, 1)
	tell(t, w, 0, 1)
	answers(t, "Bump", w.Bump(1), api.OK)
	answers(t, "Fail", w.Fail(1, 1), api.OK)
	before := copyOf(w)
	before.routers[1].Fails = 0
	answers(t, "Dump", w.Dump(1), api.ErrDisk)
	unchanged(t, "a Dump whose disk failed", w, before)
	routeIs(t, w, 1, 2, api.Route{Next: 2, Seq: 1})
	routeIs(t, w, 1, 0, api.Route{Next: 0})
	bestIs(t, w, 1, 2, api.Best{Metric: 3})
	bestIs(t, w, 1, 0, api.Best{Seq: -1})
	waits(t, w, 1, 0, 1)
	answers(t, "Crash", w.Crash(1), api.OK)
	answers(t, "Restart", w.Restart(1), api.OK)
	routeIs(t, w, 1, 2, api.Route{Next: 2, Stale: 1})
	routeIs(t, w, 1, 0, none)
	bestIs(t, w, 1, 2, api.Best{Metric: 3})
	tell(t, w, 1, 0)
	routeIs(t, w, 0, 1, api.Route{Next: 1}) // the bump was not saved
}

func TestP5DiskFailsAndTheRouteThatIsTooFarStays(t *testing.T) {
	w := net(t, 5, [3]int{0, 1, 3}, [3]int{1, 2, 9}, [3]int{2, 3, 9}, [3]int{3, 4, 9})
	for r := 4; r > 0; r-- {
		tell(t, w, r, r-1)
	}
	answers(t, "Link", w.Link(0, 1, 4), api.OK) // 31 in all
	answers(t, "Fail", w.Fail(0, 2), api.OK)
	before := copyOf(w)
	for left := 1; left >= 0; left-- {
		answers(t, "Dump", w.Dump(0), api.ErrDisk)
		before.routers[0].Fails = left
		unchanged(t, "a Dump whose disk failed", w, before)
		routeIs(t, w, 0, 4, api.Route{Next: 1, Metric: 27})
		bestIs(t, w, 0, 3, api.Best{Seq: -1})
	}
	answers(t, "Dump", w.Dump(0), api.OK)
	routeIs(t, w, 0, 4, none)
	bestIs(t, w, 0, 3, api.Best{Metric: 22})
	bestIs(t, w, 0, 4, api.Best{Seq: -1})
}
