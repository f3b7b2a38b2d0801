package router

import (
	"moraine/api"
	"moraine/undo"
)

// Costs is what the links of one router cost, by the router at the other end; 0 is a cut link.
type Costs [api.MaxRouters]int

// Knowledge is what a router knows. It holds arrays alone, so that a copy of it shares nothing with it.
type Knowledge struct {
	Seq    int
	Routes [api.MaxRouters]api.Route
	Bests  [api.MaxRouters]Telling
}

// Blank is what a router knows that learned nothing yet.
func Blank() Knowledge {
	var k Knowledge
	for d := range api.MaxRouters {
		k.Routes[d] = noRoute()
		k.Bests[d] = Nothing()
	}
	return k
}

// noRoute stands where no route is; the zero Route would be one by router 0.
func noRoute() api.Route { return api.Route{Next: -1} }

// HasRoute tells if there is a route to d.
func (k *Knowledge) HasRoute(d int) bool { return k.Routes[d].Next >= 0 }

// DropBy drops the routes that go by the router next.
func (k *Knowledge) DropBy(next int) {
	for d := range k.Routes {
		k.dropIfBy(d, next)
	}
}

// dropIfBy drops the route to d, if it goes by the router next.
func (k *Knowledge) dropIfBy(d int, next int) {
	if k.Routes[d].Next == next {
		k.Routes[d] = noRoute()
	}
}

// dropCut drops the routes over links that are cut.
func (k *Knowledge) dropCut(costs Costs) {
	for next, cost := range costs {
		if cost == 0 {
			k.DropBy(next)
		}
	}
}

// makeStale marks all routes as ones that no neighbour told since they were saved.
// They become young, as the time while they lay on the disk did not go by for the router.
func (k *Knowledge) makeStale() {
	for d := range k.Routes {
		if k.HasRoute(d) {
			k.Routes[d].Stale = 1
			k.Routes[d].Age = 0
		}
	}
}

// Tick makes all routes older, and drops those of which nothing was heard for too long.
func (k *Knowledge) Tick() {
	for d := range k.Routes {
		if !k.HasRoute(d) {
			continue
		}
		k.Routes[d].Age++
		if k.Routes[d].Age >= api.MaxAge {
			k.Routes[d] = noRoute()
		}
	}
}

// telling is what the router itself tells of d by its route to it, which there must be: the metric is the route's total.
func (k *Knowledge) telling(d int, costs Costs) Telling {
	route := k.Routes[d]
	return Telling{Seq: route.Seq, Metric: route.Metric}.farther(costs[route.Next])
}

// dropFar drops the routes that became too long.
func (k *Knowledge) dropFar(costs Costs, changes *undo.Log) {
	for d := range k.Routes {
		if k.HasRoute(d) && k.telling(d, costs).Metric > api.MaxMetric {
			undo.Set(changes, &k.Routes[d], noRoute())
		}
	}
}

// tellings is what the router self tells of all the others and of itself.
func (k *Knowledge) tellings(self int, costs Costs) Message {
	var message Message
	for d := range message {
		switch {
		case d == self:
			message[d] = Telling{Seq: k.Seq}
		case k.HasRoute(d):
			message[d] = k.telling(d, costs)
		default:
			message[d] = Nothing()
		}
	}
	return message
}

// raiseBests makes the tellings of other routers the bests, where they are better than those.
func (k *Knowledge) raiseBests(self int, message Message, changes *undo.Log) {
	for d, telling := range message {
		if d != self && telling.BetterThan(k.Bests[d]) {
			undo.Set(changes, &k.Bests[d], telling)
		}
	}
}
