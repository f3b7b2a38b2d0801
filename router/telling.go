package router

import "moraine/api"

// Telling is what a router says of another one: how new that is, and how far it is from there.
type Telling struct {
	Seq, Metric int
}

// Message has a telling of each router, or Nothing.
type Message [api.MaxRouters]Telling

// Nothing stands where no telling is. Its seq is below every real one, so that each telling is better than it.
func Nothing() Telling { return Telling{Seq: -1} }

// BetterThan tells if t is newer than u, or as new and nearer.
func (t Telling) BetterThan(u Telling) bool {
	if t.Seq != u.Seq {
		return t.Seq > u.Seq
	}
	return t.Metric < u.Metric
}

// farther is t as it is at the other end of a link of that cost.
func (t Telling) farther(cost int) Telling {
	return Telling{Seq: t.Seq, Metric: t.Metric + cost}
}
