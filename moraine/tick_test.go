package moraine

import (
	"fmt"
	"testing"

	"moraine/api"
)

func TestP9TickRefusals(t *testing.T) {
	w := full(t)
	answers(t, "Crash", w.Crash(1), api.OK)
	know(w, 1, 0, api.Route{Next: 0, Seq: 2, Age: 2})
	before := copyOf(w)
	for _, s := range strange {
		answers(t, fmt.Sprint("Tick of none ", s), w.Tick(s), api.ErrRouter)
	}
	answers(t, "Tick of one that is down", w.Tick(1), api.ErrDown)
	unchanged(t, "a refused Tick", w, before)
}

func TestP9TickMakesRoutesOlder(t *testing.T) {
	w := full(t)
	want := copyOf(w)
	answers(t, "Tick", w.Tick(0), api.OK)
	want.routers[0].Routes[1].Age = 1
	want.routers[0].Routes[2] = none      // it was 2 already
	unchanged(t, "Tick", w, want)         // neither routes of others, nor what is saved, nor bests, nor what waits
	answers(t, "Tick", w.Tick(3), api.OK) // it has no routes
	unchanged(t, "Tick of one without routes", w, want)
}

func TestP9TickDropsAtMaxAge(t *testing.T) {
	w := line(t)
	answers(t, "Dump", w.Dump(0), api.OK)
	for age := range api.MaxAge {
		routeIs(t, w, 0, 4, api.Route{Next: 1, Metric: 9, Age: age})
		traceIs(t, w, 0, 4, 0, 1, 2, 3, 4)
		answers(t, "Tick", w.Tick(0), api.OK)
	}
	routeIs(t, w, 0, 4, none)
	routeIs(t, w, 0, 1, none)
	bestIs(t, w, 0, 4, api.Best{Metric: 10})
	traceIs(t, w, 0, 4, 0)
	routeIs(t, w, 1, 4, api.Route{Next: 2, Metric: 7})
	answers(t, "Tick once more", w.Tick(0), api.OK)
	routeIs(t, w, 0, 4, none)
}

func TestP9TellingThatIsTakenMakesTheRouteYoung(t *testing.T) {
	w := net(t, 3, [3]int{0, 1, 1}, [3]int{0, 2, 1}, [3]int{1, 2, 1})
	tell(t, w, 1, 0)
	for range 2 * api.MaxAge {
		answers(t, "Tick", w.Tick(0), api.OK)
		answers(t, "Tick", w.Tick(0), api.OK)
		routeIs(t, w, 0, 1, api.Route{Next: 1, Age: 2})
		tell(t, w, 1, 0)
		routeIs(t, w, 0, 1, api.Route{Next: 1})
	}
	answers(t, "Tick", w.Tick(0), api.OK)
	tell(t, w, 2, 0) // it does not tell of 1
	routeIs(t, w, 0, 1, api.Route{Next: 1, Age: 1})
	tell(t, w, 1, 2)
	tell(t, w, 2, 0) // what it tells of 1 is not taken: it is farther
	routeIs(t, w, 0, 1, api.Route{Next: 1, Age: 1})
	routeIs(t, w, 0, 2, api.Route{Next: 2})
}

func TestP9RouteThatBecameOldIsToldAsNothing(t *testing.T) {
	w := line(t)
	for range api.MaxAge {
		answers(t, "Tick", w.Tick(1), api.OK)
	}
	tell(t, w, 1, 0)
	routeIs(t, w, 0, 4, none)
	routeIs(t, w, 0, 1, api.Route{Next: 1})
	tell(t, w, 2, 1) // (0, 7) is better than (0, 9), which 1 told of 4
	routeIs(t, w, 1, 4, api.Route{Next: 2, Metric: 7})
}
