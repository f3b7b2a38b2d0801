package moraine

import (
	"testing"

	"moraine/api"
)

// TestExamples goes through the document's section 'Examples', from the first to the last.
func TestExamples(t *testing.T) {
	w := net(t, 3, [3]int{0, 1, 2}, [3]int{1, 2, 3})
	answers(t, "Dump(2)", w.Dump(2), api.OK)
	waits(t, w, 2, 1, 1)
	waits(t, w, 2, 0, 0)
	answers(t, "Deliver(2, 1, 0)", w.Deliver(2, 1, 0), api.OK)
	routeIs(t, w, 1, 2, api.Route{Next: 2})
	answers(t, "Dump(1)", w.Dump(1), api.OK)
	bestIs(t, w, 1, 2, api.Best{Metric: 3})
	waits(t, w, 1, 0, 1)
	answers(t, "Deliver(1, 0, 0)", w.Deliver(1, 0, 0), api.OK)
	routeIs(t, w, 0, 2, api.Route{Next: 1, Metric: 3})
	routeIs(t, w, 0, 1, api.Route{Next: 1})
	traceIs(t, w, 0, 2, 0, 1, 2)

	answers(t, "Link(1, 2, 0)", w.Link(1, 2, 0), api.OK)
	routeIs(t, w, 1, 2, none)
	traceIs(t, w, 0, 2, 0, 1)
	tell(t, w, 0, 1)
	bestIs(t, w, 0, 2, api.Best{Metric: 5})
	routeIs(t, w, 1, 2, none)
	tell(t, w, 1, 0)
	routeIs(t, w, 0, 2, none)

	answers(t, "Link(0, 2, 9)", w.Link(0, 2, 9), api.OK)
	answers(t, "Bump(2)", w.Bump(2), api.OK)
	tell(t, w, 2, 0)
	routeIs(t, w, 0, 2, api.Route{Next: 2, Seq: 1})
	tell(t, w, 0, 1)
	routeIs(t, w, 1, 2, api.Route{Next: 0, Seq: 1, Metric: 9})

	answers(t, "Fail(1, 1)", w.Fail(1, 1), api.OK)
	answers(t, "Dump(1)", w.Dump(1), api.ErrDisk)
	bestIs(t, w, 1, 2, api.Best{Metric: 3})
	waits(t, w, 1, 0, 0)
	answers(t, "Dump(1) once more", w.Dump(1), api.OK)
	bestIs(t, w, 1, 2, api.Best{Seq: 1, Metric: 11})
	waits(t, w, 1, 0, 1)

	answers(t, "Bump(1)", w.Bump(1), api.OK)
	answers(t, "Crash(1)", w.Crash(1), api.OK)
	answers(t, "Restart(1)", w.Restart(1), api.OK)
	routeIs(t, w, 1, 2, api.Route{Next: 0, Seq: 1, Metric: 9, Stale: 1})
	tell(t, w, 0, 1)
	routeIs(t, w, 1, 2, api.Route{Next: 0, Seq: 1, Metric: 9})
	tell(t, w, 1, 0)
	routeIs(t, w, 0, 1, api.Route{Next: 1}) // the bump is gone
}
