package moraine

import (
	"fmt"
	"math"
	"testing"

	"moraine/api"
	"moraine/router"
)

func TestP7Refusals(t *testing.T) {
	w := full(t)
	answers(t, "Crash", w.Crash(1), api.OK)
	before := copyOf(w)
	for _, s := range strange {
		for _, k := range []int{0, 1, -1} {
			answers(t, fmt.Sprint("Deliver of none ", s), w.Deliver(s, 0, k), api.ErrRouter)
			answers(t, fmt.Sprint("Deliver to none ", s), w.Deliver(0, s, k), api.ErrRouter)
			answers(t, fmt.Sprint("Deliver of none to itself ", s), w.Deliver(s, s, k), api.ErrRouter)
		}
	}
	for _, k := range []int{0, 1, -1} {
		answers(t, "Deliver to itself", w.Deliver(1, 1, k), api.ErrSame)
	}
	for _, k := range []int{-1, 1, 2, 256, -256, math.MaxInt, math.MinInt} {
		answers(t, fmt.Sprint("Deliver of the message ", k), w.Deliver(0, 2, k), api.ErrNone)
		answers(t, fmt.Sprint("Deliver to one that is down, the message ", k), w.Deliver(0, 1, k), api.ErrNone)
	}
	answers(t, "Deliver where nothing waits", w.Deliver(3, 4, 0), api.ErrNone)
	unchanged(t, "a refused Deliver", w, before)
}

func TestP7TakesOffTheOneWithTheIndex(t *testing.T) {
	w := net(t, 2, [3]int{0, 1, 1})
	for range 4 {
		answers(t, "Dump", w.Dump(0), api.OK)
		answers(t, "Bump", w.Bump(0), api.OK)
	}
	for i, c := range []struct{ k, seq int }{{1, 1}, {2, 3}, {0, 0}, {0, 2}} {
		answers(t, "Deliver", w.Deliver(0, 1, c.k), api.OK)
		routeIs(t, w, 1, 0, api.Route{Next: 0, Seq: c.seq})
		waits(t, w, 0, 1, 3-i)
		waits(t, w, 1, 0, 0)
	}
	answers(t, "Deliver of one more", w.Deliver(0, 1, 0), api.ErrNone)
	answers(t, "Dump", w.Dump(0), api.OK)
	answers(t, "Deliver", w.Deliver(0, 1, 0), api.OK)
	routeIs(t, w, 1, 0, api.Route{Next: 0, Seq: 4})
}

func TestP7TakesOffOneOfTheFullLink(t *testing.T) {
	w := net(t, 3, [3]int{0, 1, 1}, [3]int{0, 2, 1})
	for range api.MaxWaiting + 1 {
		answers(t, "Dump", w.Dump(0), api.OK)
	}
	answers(t, "Deliver of the last", w.Deliver(0, 1, api.MaxWaiting-1), api.OK)
	waits(t, w, 0, 1, api.MaxWaiting-1)
	waits(t, w, 0, 2, api.MaxWaiting)
	answers(t, "Dump", w.Dump(0), api.OK)
	waits(t, w, 0, 1, api.MaxWaiting)
}

func TestP7LostIfDown(t *testing.T) {
	w := full(t)
	answers(t, "Crash", w.Crash(1), api.OK)
	want := copyOf(w)
	want.waiting[0][1] = []router.Message{}
	answers(t, "Deliver", w.Deliver(0, 1, 0), api.OK)
	unchanged(t, "a message to one that is down", w, want)
}

func TestP7ArrivesThoughTheSenderIsDown(t *testing.T) {
	w := net(t, 2, [3]int{0, 1, 3})
	answers(t, "Dump", w.Dump(0), api.OK)
	answers(t, "Crash", w.Crash(0), api.OK)
	answers(t, "Deliver", w.Deliver(0, 1, 0), api.OK)
	routeIs(t, w, 1, 0, api.Route{Next: 0})
}

func TestP7LostIfCut(t *testing.T) {
	w := net(t, 3, [3]int{0, 1, 3}, [3]int{1, 2, 2})
	answers(t, "Dump", w.Dump(0), api.OK)
	answers(t, "Dump", w.Dump(0), api.OK)
	tell(t, w, 2, 1)
	answers(t, "Link", w.Link(0, 1, 0), api.OK)
	want := copyOf(w)
	want.waiting[0][1] = want.waiting[0][1][:1]
	answers(t, "Deliver", w.Deliver(0, 1, 1), api.OK)
	unchanged(t, "a message on a cut link", w, want)
	answers(t, "Link", w.Link(0, 1, 7), api.OK)
	answers(t, "Deliver", w.Deliver(0, 1, 0), api.OK)
	routeIs(t, w, 1, 0, api.Route{Next: 0})
}

func TestP7NothingDropsTheRouteByTheSender(t *testing.T) {
	w := net(t, 4, [3]int{0, 1, 1}, [3]int{1, 2, 1}, [3]int{0, 3, 1}, [3]int{3, 2, 1})
	tell(t, w, 2, 1)
	tell(t, w, 1, 0)
	routeIs(t, w, 0, 2, api.Route{Next: 1, Metric: 1})
	tell(t, w, 3, 0) // tells nothing of 2
	routeIs(t, w, 0, 2, api.Route{Next: 1, Metric: 1})
	answers(t, "Link", w.Link(1, 2, 0), api.OK)
	routeIs(t, w, 0, 2, api.Route{Next: 1, Metric: 1})
	tell(t, w, 1, 0)
	routeIs(t, w, 0, 2, none)
	routeIs(t, w, 0, 1, api.Route{Next: 1})
	routeIs(t, w, 0, 3, api.Route{Next: 3})
}

func TestP7NotFeasible(t *testing.T) {
	// 0 told (0, 5) of 2: by 1, which comes farther away, it has no route from then on, till 2 bumps.
	w := net(t, 3, [3]int{0, 1, 2}, [3]int{1, 2, 3})
	tell(t, w, 2, 1)
	tell(t, w, 1, 0)
	answers(t, "Dump", w.Dump(0), api.OK)
	bestIs(t, w, 0, 2, api.Best{Metric: 5})
	answers(t, "Link", w.Link(1, 2, 4), api.OK)
	tell(t, w, 1, 0) // (0, 4) is better
	routeIs(t, w, 0, 2, api.Route{Next: 1, Metric: 4})
	answers(t, "Link", w.Link(1, 2, 5), api.OK)
	tell(t, w, 1, 0) // (0, 5) is not
	routeIs(t, w, 0, 2, none)
	tell(t, w, 1, 0)
	routeIs(t, w, 0, 2, none)
	answers(t, "Bump", w.Bump(2), api.OK)
	tell(t, w, 2, 1)
	tell(t, w, 1, 0) // (1, 5) is
	routeIs(t, w, 0, 2, api.Route{Next: 1, Seq: 1, Metric: 5})
	bestIs(t, w, 0, 2, api.Best{Metric: 5})
}

func TestP7TotalsHaveTheCostsOfNow(t *testing.T) {
	w := net(t, 4, [3]int{0, 1, 2}, [3]int{0, 2, 2}, [3]int{1, 3, 3}, [3]int{2, 3, 3})
	tell(t, w, 3, 1)
	answers(t, "Deliver", w.Deliver(3, 2, 0), api.OK)
	tell(t, w, 1, 0)
	tell(t, w, 2, 0) // 5, as the route
	routeIs(t, w, 0, 3, api.Route{Next: 1, Metric: 3})
	answers(t, "Link", w.Link(0, 2, 1), api.OK)
	tell(t, w, 2, 0) // 4 is less than 5
	routeIs(t, w, 0, 3, api.Route{Next: 2, Metric: 3})
	answers(t, "Link", w.Link(0, 2, 3), api.OK)
	tell(t, w, 1, 0) // 5 is less than 6
	routeIs(t, w, 0, 3, api.Route{Next: 1, Metric: 3})
}

func TestP7TakesItFresh(t *testing.T) {
	w := net(t, 3, [3]int{0, 1, 1}, [3]int{0, 2, 1})
	know(w, 0, 1, api.Route{Next: 1, Age: 2, Stale: 1})
	know(w, 0, 2, api.Route{Next: 2, Age: 2, Stale: 1})
	tell(t, w, 1, 0)
	routeIs(t, w, 0, 1, api.Route{Next: 1})
	routeIs(t, w, 0, 2, api.Route{Next: 2, Age: 2, Stale: 1})
}

func TestP7ChangesRoutesOfTheReceiverAlone(t *testing.T) {
	w := full(t)
	want := copyOf(w)
	answers(t, "Deliver", w.Deliver(0, 2, 0), api.OK)
	want.waiting[0][2] = []router.Message{}
	want.routers[2].Routes[0] = api.Route{Next: 0}
	want.routers[2].Routes[1] = api.Route{Next: 0, Seq: 4, Metric: 2}
	unchanged(t, "Deliver", w, want)
}
