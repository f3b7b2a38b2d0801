package router

import "moraine/api"

// Hear lets the router self learn from a message that came from a neighbour.
func (k *Knowledge) Hear(self int, from int, message Message, costs Costs) {
	for d, telling := range message {
		switch {
		case d == self:
		case !k.usable(d, telling, costs[from]):
			k.dropIfBy(d, from)
		case k.prefers(d, from, telling, costs):
			k.Routes[d] = api.Route{Next: from, Seq: telling.Seq, Metric: telling.Metric}
		}
	}
}

// usable tells if a telling of d may become the route to d.
// What is better than all that this router itself told did not come from it, so no packet can come back by it.
// Nothing is better than no best, so that it is not usable either.
func (k *Knowledge) usable(d int, telling Telling, cost int) bool {
	return telling.BetterThan(k.Bests[d]) && telling.farther(cost).Metric <= api.MaxMetric
}

// prefers tells if a usable telling of d takes the place of what is known of d.
// What the route's own next router tells always does, be it older or farther: packets go on from there as that router says.
func (k *Knowledge) prefers(d int, from int, telling Telling, costs Costs) bool {
	return !k.HasRoute(d) || k.Routes[d].Next == from ||
		telling.farther(costs[from]).BetterThan(k.telling(d, costs))
}
