package moraine

import (
	"fmt"
	"testing"

	"moraine/api"
	"moraine/router"
)

// restart lets a router crash and come up again.
func restart(t *testing.T, w *Net, r int) {
	t.Helper()
	answers(t, "Crash", w.Crash(r), api.OK)
	answers(t, "Restart", w.Restart(r), api.OK)
}

func TestP10CrashRefusals(t *testing.T) {
	w := full(t)
	answers(t, "Crash", w.Crash(1), api.OK)
	before := copyOf(w)
	for _, s := range strange {
		answers(t, fmt.Sprint("Crash of none ", s), w.Crash(s), api.ErrRouter)
	}
	answers(t, "Crash of one that is down", w.Crash(1), api.ErrDown)
	unchanged(t, "a refused Crash", w, before)
}

func TestP10RestartRefusals(t *testing.T) {
	w := full(t)
	answers(t, "Crash", w.Crash(1), api.OK)
	answers(t, "Bump", w.Bump(0), api.OK) // not saved: it would be gone
	before := copyOf(w)
	for _, s := range strange {
		answers(t, fmt.Sprint("Restart of none ", s), w.Restart(s), api.ErrRouter)
	}
	for _, r := range []int{0, 2, 3, 4} {
		answers(t, "Restart of one that is up", w.Restart(r), api.ErrUp)
	}
	unchanged(t, "a refused Restart", w, before)
	answers(t, "Restart", w.Restart(1), api.OK)
	answers(t, "Restart once more", w.Restart(1), api.ErrUp)
}

func TestP10DownRefusesItsCalls(t *testing.T) {
	w := full(t)
	answers(t, "Crash", w.Crash(1), api.OK)
	for r := range 5 {
		want := api.OK
		if r == 1 {
			want = api.ErrDown
		}
		answers(t, fmt.Sprint("Dump ", r), w.Dump(r), want)
		answers(t, fmt.Sprint("Tick ", r), w.Tick(r), want)
		answers(t, fmt.Sprint("Bump ", r), w.Bump(r), want)
		_, e := w.Route(r, (r+1)%5)
		answers(t, fmt.Sprint("Route of ", r), e, want)
		_, e = w.Best(r, (r+1)%5)
		answers(t, fmt.Sprint("Best of ", r), e, want)
	}
	if _, e := w.Route(0, 1); e != api.OK {
		t.Errorf("Route to one that is down = %d", e)
	}
	if _, e := w.Best(0, 1); e != api.OK {
		t.Errorf("Best of one that is down = %d", e)
	}
	traceIs(t, w, 1, 2, 1)
}

func TestP10CrashLeavesTheDiskTheLinksAndWhatWaits(t *testing.T) {
	w := full(t)
	answers(t, "Fail", w.Fail(1, 2), api.OK)
	want := copyOf(w)
	answers(t, "Crash", w.Crash(1), api.OK)
	want.routers[1].Down = true
	want.routers[1].Knowledge = router.Blank()
	unchanged(t, "Crash", w, want)
}

func TestP10RestartBringsWhatWasSaved(t *testing.T) {
	w := net(t, 3, [3]int{0, 1, 2}, [3]int{1, 2, 3})
	answers(t, "Bump", w.Bump(1), api.OK)
	tell(t, w, 2, 1)
	answers(t, "Tick", w.Tick(1), api.OK)
	answers(t, "Tick", w.Tick(1), api.OK)
	answers(t, "Dump", w.Dump(1), api.OK) // saves the seq 1, the route to 2 with the age 2, and the best of 2
	answers(t, "Bump", w.Bump(1), api.OK)
	answers(t, "Bump", w.Bump(2), api.OK)
	tell(t, w, 2, 1)
	tell(t, w, 0, 1)
	want := copyOf(w)
	restart(t, w, 1)
	want.routers[1].Knowledge = w.routers[1].Saved
	want.routers[1].Routes[2] = api.Route{Next: 2, Stale: 1}
	unchanged(t, "Crash and Restart", w, want)
	routeIs(t, w, 1, 2, api.Route{Next: 2, Stale: 1})
	routeIs(t, w, 1, 0, none)
	bestIs(t, w, 1, 2, api.Best{Metric: 3})
	bestIs(t, w, 1, 0, api.Best{Seq: -1})
	tell(t, w, 1, 0)
	routeIs(t, w, 0, 1, api.Route{Next: 1, Seq: 1})
}

func TestP10RestartOfOneThatNeverSaved(t *testing.T) {
	w := net(t, 3, [3]int{0, 1, 2}, [3]int{1, 2, 3})
	fresh := copyOf(w)
	answers(t, "Dump", w.Dump(0), api.OK)
	answers(t, "Deliver", w.Deliver(0, 1, 0), api.OK)
	answers(t, "Bump", w.Bump(1), api.OK)
	restart(t, w, 1)
	if w.routers[1] != fresh.routers[1] {
		t.Errorf("it came up with %v, want %v", w.routers[1], fresh.routers[1])
	}
	tell(t, w, 1, 2)
	routeIs(t, w, 2, 1, api.Route{Next: 1})
	routeIs(t, w, 2, 0, none)
}

func TestP10BumpsThatWereSavedStay(t *testing.T) {
	w := net(t, 2, [3]int{0, 1, 1})
	for seq := 1; seq <= 4; seq++ {
		answers(t, "Bump", w.Bump(0), api.OK)
		tell(t, w, 0, 1)
		restart(t, w, 0)
		tell(t, w, 0, 1)
		routeIs(t, w, 1, 0, api.Route{Next: 0, Seq: seq})
	}
}

// star is 0, linked to 1, 2 and 3, with routes to 1 and 2 by these, and to 4 by 3; all of that is saved.
func star(t *testing.T) *Net {
	w := net(t, 5, [3]int{0, 1, 1}, [3]int{0, 2, 2}, [3]int{0, 3, 3}, [3]int{3, 4, 4})
	tell(t, w, 4, 3)
	for r := 1; r <= 3; r++ {
		tell(t, w, r, 0)
	}
	answers(t, "Dump", w.Dump(0), api.OK)
	return w
}

func TestP10RestartLeavesOutRoutesOverCutLinks(t *testing.T) {
	w := star(t)
	answers(t, "Crash", w.Crash(0), api.OK)
	answers(t, "Link", w.Link(0, 3, 0), api.OK)
	answers(t, "Link", w.Link(2, 0, 9), api.OK)
	answers(t, "Restart", w.Restart(0), api.OK)
	routeIs(t, w, 0, 1, api.Route{Next: 1, Stale: 1})
	routeIs(t, w, 0, 2, api.Route{Next: 2, Stale: 1})
	routeIs(t, w, 0, 3, none)
	routeIs(t, w, 0, 4, none)
	bestIs(t, w, 0, 4, api.Best{Metric: 7})
	bestIs(t, w, 0, 3, api.Best{Metric: 3})
	traceIs(t, w, 0, 4, 0)
}

func TestP10TheDiskKeepsRoutesOverCutLinks(t *testing.T) {
	for _, link := range [][2]int{{0, 3}, {3, 0}} {
		w := star(t)
		answers(t, "Link while it is up", w.Link(link[0], link[1], 0), api.OK)
		routeIs(t, w, 0, 4, none)
		restart(t, w, 0)
		routeIs(t, w, 0, 4, none) // the link is cut still
		answers(t, "Crash", w.Crash(0), api.OK)
		answers(t, "Link while it is down", w.Link(0, 1, 0), api.OK)
		answers(t, "Link while it is down", w.Link(0, 1, 8), api.OK)
		answers(t, "Link while it is down", w.Link(link[0], link[1], 6), api.OK)
		answers(t, "Restart", w.Restart(0), api.OK)
		routeIs(t, w, 0, 1, api.Route{Next: 1, Stale: 1})
		routeIs(t, w, 0, 3, api.Route{Next: 3, Stale: 1})
		routeIs(t, w, 0, 4, api.Route{Next: 3, Metric: 4, Stale: 1})
		traceIs(t, w, 0, 4, 0, 3, 4)
	}
}

func TestP10RoutesDroppedAheadOfADumpAreGone(t *testing.T) {
	w := star(t)
	answers(t, "Link", w.Link(0, 3, 0), api.OK)
	answers(t, "Dump", w.Dump(0), api.OK)
	answers(t, "Link", w.Link(0, 3, 3), api.OK)
	restart(t, w, 0)
	routeIs(t, w, 0, 4, none)
	routeIs(t, w, 0, 1, api.Route{Next: 1, Stale: 1})
	bestIs(t, w, 0, 4, api.Best{Metric: 7})
}

func TestP10RoutesThatGrewTooOldComeBackYoung(t *testing.T) {
	w := star(t)
	for range api.MaxAge {
		answers(t, "Tick", w.Tick(0), api.OK)
	}
	routeIs(t, w, 0, 4, none)
	restart(t, w, 0)
	for age := range api.MaxAge {
		routeIs(t, w, 0, 4, api.Route{Next: 3, Metric: 4, Age: age, Stale: 1})
		answers(t, "Tick", w.Tick(0), api.OK)
	}
	routeIs(t, w, 0, 4, none)
}

func TestP10StaleTillATellingIsTaken(t *testing.T) {
	w := star(t)
	restart(t, w, 0)
	answers(t, "Link", w.Link(1, 3, 1), api.OK)
	tell(t, w, 3, 1)
	tell(t, w, 1, 0) // what 1 tells of 4, (0, 5), is nearer: 6 in all
	routeIs(t, w, 0, 4, api.Route{Next: 1, Metric: 5})
	routeIs(t, w, 0, 1, api.Route{Next: 1})
	routeIs(t, w, 0, 2, api.Route{Next: 2, Stale: 1})
	tell(t, w, 2, 0)
	routeIs(t, w, 0, 2, api.Route{Next: 2})
	w = star(t)
	restart(t, w, 0)
	tell(t, w, 2, 0) // it does not tell of 4
	routeIs(t, w, 0, 4, api.Route{Next: 3, Metric: 4, Stale: 1})
	tell(t, w, 3, 0)
	routeIs(t, w, 0, 4, api.Route{Next: 3, Metric: 4})
}

func TestP10StaleRoutesAreToldAndSaved(t *testing.T) {
	w := star(t)
	restart(t, w, 0)
	answers(t, "Tick", w.Tick(0), api.OK)
	tell(t, w, 0, 1)
	routeIs(t, w, 0, 4, api.Route{Next: 3, Metric: 4, Age: 1, Stale: 1})
	routeIs(t, w, 1, 4, api.Route{Next: 0, Metric: 7})
	traceIs(t, w, 1, 4, 1, 0, 3, 4)
	restart(t, w, 0)
	routeIs(t, w, 0, 4, api.Route{Next: 3, Metric: 4, Stale: 1})
}

func TestP10RestartOfOneLeavesTheOthers(t *testing.T) {
	w := full(t)
	answers(t, "Crash", w.Crash(0), api.OK)
	want := copyOf(w)
	restart(t, w, 1)
	want.routers[1].Routes[0].Stale = 1
	want.routers[1].Routes[2].Stale = 1
	unchanged(t, "Crash and Restart of another", w, want)
}

func TestP10LostWhileItWasDown(t *testing.T) {
	w := net(t, 2, [3]int{0, 1, 1})
	answers(t, "Crash", w.Crash(1), api.OK)
	answers(t, "Dump", w.Dump(0), api.OK)
	answers(t, "Dump", w.Dump(0), api.OK)
	answers(t, "Deliver", w.Deliver(0, 1, 0), api.OK)
	answers(t, "Restart", w.Restart(1), api.OK)
	routeIs(t, w, 1, 0, none)
	waits(t, w, 0, 1, 1)
	answers(t, "Deliver", w.Deliver(0, 1, 0), api.OK)
	routeIs(t, w, 1, 0, api.Route{Next: 0})
}

func TestP13BestsThatWereToldAreNotLostByACrash(t *testing.T) {
	// 1 told (0, 3) of 2, by which 0 has its route; 1 must not take a way back by 0, though it lost all routes.
	w := net(t, 3, [3]int{0, 1, 2}, [3]int{1, 2, 3})
	tell(t, w, 2, 1)
	tell(t, w, 1, 0)
	answers(t, "Crash", w.Crash(1), api.OK)
	answers(t, "Link", w.Link(1, 2, 0), api.OK)
	answers(t, "Restart", w.Restart(1), api.OK)
	tell(t, w, 0, 1)
	routeIs(t, w, 1, 2, none)
	traceIs(t, w, 0, 2, 0, 1)
}

func TestP13WhatADiskFailureTookBackWasNotTold(t *testing.T) {
	// 1 could not save that it reaches 2; so 0 must not hear of it, and 1 may take a way by 0.
	w := net(t, 3, [3]int{0, 1, 2}, [3]int{1, 2, 3})
	tell(t, w, 2, 1)
	answers(t, "Fail", w.Fail(1, 1), api.OK)
	answers(t, "Dump", w.Dump(1), api.ErrDisk)
	waits(t, w, 1, 0, 0)
	waits(t, w, 1, 2, 0)
	answers(t, "Link", w.Link(1, 2, 0), api.OK)
	answers(t, "Link", w.Link(0, 2, 9), api.OK)
	tell(t, w, 2, 0)
	tell(t, w, 0, 1) // (0, 9) is feasible for 1, as it told nothing of 2
	routeIs(t, w, 1, 2, api.Route{Next: 0, Metric: 9})
	traceIs(t, w, 1, 2, 1, 0, 2)
}
