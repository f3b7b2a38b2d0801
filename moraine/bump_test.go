package moraine

import (
	"fmt"
	"testing"

	"moraine/api"
)

func TestP9BumpRefusals(t *testing.T) {
	w := full(t)
	answers(t, "Crash", w.Crash(1), api.OK)
	w.routers[1].Seq = api.MaxSeq
	w.routers[2].Seq = api.MaxSeq
	before := copyOf(w)
	for _, s := range strange {
		answers(t, fmt.Sprint("Bump of none ", s), w.Bump(s), api.ErrRouter)
	}
	answers(t, "Bump of one that is down", w.Bump(1), api.ErrDown)
	answers(t, "Bump at the last seq", w.Bump(2), api.ErrMany)
	unchanged(t, "a refused Bump", w, before)
}

func TestP9BumpChangesTheOwnSeqAlone(t *testing.T) {
	w := full(t)
	want := copyOf(w)
	for range 3 {
		answers(t, "Bump", w.Bump(0), api.OK)
	}
	want.routers[0].Seq = 3 // neither what is saved nor what waits
	unchanged(t, "Bump", w, want)
}

func TestP9BumpIsToldByTheNextDump(t *testing.T) {
	w := net(t, 2, [3]int{0, 1, 1})
	for range api.MaxSeq {
		answers(t, "Bump", w.Bump(0), api.OK)
	}
	answers(t, "Bump once too often", w.Bump(0), api.ErrMany)
	answers(t, "Bump of another", w.Bump(1), api.OK)
	tell(t, w, 0, 1)
	tell(t, w, 1, 0)
	routeIs(t, w, 1, 0, api.Route{Next: 0, Seq: api.MaxSeq})
	routeIs(t, w, 0, 1, api.Route{Next: 1, Seq: 1})
}
