package moraine

import (
	"math/rand"
	"slices"
	"testing"

	"moraine/api"
)

// noCircle holds all traces of w against having a router twice.
func noCircle(t *testing.T, w *Net) {
	t.Helper()
	for r := range w.routers {
		for d := range w.routers {
			way, e := w.Trace(r, d)
			once := slices.Compact(slices.Sorted(slices.Values(way)))
			if e != api.OK || len(once) != len(way) || way[0] != r {
				t.Fatalf("Trace(%d, %d) = %v, %d", r, d, way, e)
			}
		}
	}
}

// step makes one call, with numbers that mostly are not refused.
// A router that is down comes up sooner than one that is up crashes, so that most of them tell something.
func step(w *Net, rng *rand.Rand) {
	n := len(w.routers)
	a, b := rng.Intn(n), rng.Intn(n)
	k := rng.Intn(api.MaxWaiting)
	if waiting, _ := w.Waiting(a, b); waiting > 0 {
		k = rng.Intn(waiting)
	}
	switch rng.Intn(20) {
	case 0, 1:
		w.Link(a, b, rng.Intn(4)*rng.Intn(4))
	case 2:
		w.Bump(a)
	case 3:
		w.Tick(a)
	case 4:
		w.Lose(a, b, k)
	case 5:
		w.Again(a, b, k)
	case 6:
		w.Fail(a, rng.Intn(api.MaxFails+1))
	case 7:
		w.Crash(a)
	case 8, 9, 10:
		w.Restart(a)
	case 11, 12, 13, 14:
		w.Dump(a)
	default:
		w.Deliver(a, b, k)
	}
}

func TestP13NoCircleWhateverHappens(t *testing.T) {
	for seed := range int64(300) {
		rng := rand.New(rand.NewSource(seed))
		w := net(t, 2+rng.Intn(4))
		for range 400 {
			step(w, rng)
			noCircle(t, w)
		}
	}
}
