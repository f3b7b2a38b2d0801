package moraine

import (
	"math/rand"
	"testing"

	"moraine/api"
)

const unreachable = 1000

// distances are the lengths of the shortest ways, found by the links alone.
func distances(w *Net) (far [api.MaxRouters][api.MaxRouters]int) {
	n := len(w.routers)
	for a := range n {
		for b := range n {
			far[a][b] = unreachable
			if w.costs[a][b] > 0 {
				far[a][b] = w.costs[a][b]
			}
		}
		far[a][a] = 0
	}
	for by := range n {
		for a := range n {
			for b := range n {
				far[a][b] = min(far[a][b], far[a][by]+far[by][b])
			}
		}
	}
	return far
}

// deliverAll delivers all messages, each link's in any order.
func deliverAll(t *testing.T, w *Net, rng *rand.Rand) {
	t.Helper()
	for _, a := range rng.Perm(len(w.routers)) {
		for _, b := range rng.Perm(len(w.routers)) {
			for n, _ := w.Waiting(a, b); n > 0; n-- {
				answers(t, "Deliver", w.Deliver(a, b, rng.Intn(n)), api.OK)
			}
		}
	}
}

// allUp ends all crashes and failures.
func allUp(t *testing.T, w *Net) {
	t.Helper()
	for r := range w.routers {
		answers(t, "Fail", w.Fail(r, 0), api.OK)
		if w.routers[r].Down {
			answers(t, "Restart", w.Restart(r), api.OK)
		}
	}
}

// settle lets all bump, and then tell each other all, as often as P14 says.
func settle(t *testing.T, w *Net, rng *rand.Rand) {
	t.Helper()
	n := len(w.routers)
	for r := range n {
		answers(t, "Bump", w.Bump(r), api.OK)
	}
	for range n + 2 {
		for _, r := range rng.Perm(n) {
			answers(t, "Dump", w.Dump(r), api.OK)
		}
		deliverAll(t, w, rng)
		noCircle(t, w)
	}
}

// length is how long a way is, or unreachable if it does not end at d.
func length(w *Net, way []int, d int) int {
	sum := 0
	for i := 1; i < len(way); i++ {
		sum += w.costs[way[i-1]][way[i]]
	}
	if way[len(way)-1] != d {
		return unreachable
	}
	return sum
}

// allFound holds all routes and traces against the shortest ways.
func allFound(t *testing.T, w *Net) {
	t.Helper()
	far := distances(w)
	for r := range w.routers {
		for d := range w.routers {
			if r == d {
				continue
			}
			route, e := w.Route(r, d)
			answers(t, "Route", e, api.OK)
			if far[r][d] > api.MaxMetric {
				routeIs(t, w, r, d, none)
				continue
			}
			way, _ := w.Trace(r, d)
			if route.Next < 0 || route.Metric+w.costs[r][route.Next] != far[r][d] || length(w, way, d) != far[r][d] {
				t.Errorf("Route(%d, %d) = %v, Trace %v, want %d in all", r, d, route, way, far[r][d])
			}
			if route.Age != 0 || route.Stale != 0 {
				t.Errorf("Route(%d, %d) = %v, told anew just now", r, d, route)
			}
		}
	}
}

func TestP14AllIsFoundWhateverHappenedAheadOfIt(t *testing.T) {
	for seed := range int64(400) {
		rng := rand.New(rand.NewSource(seed))
		w := net(t, 2+rng.Intn(4))
		for range 20 + rng.Intn(200) {
			step(w, rng)
		}
		for range 2 { // once more without an accident between
			allUp(t, w)
			settle(t, w, rng)
			allFound(t, w)
		}
		if t.Failed() {
			t.Fatalf("with the seed %d", seed)
		}
	}
}

func TestP14LongLinks(t *testing.T) {
	for seed := range int64(100) {
		rng := rand.New(rand.NewSource(seed))
		w := net(t, 5)
		for range 4 {
			for r := range 4 { // a row; so most ways have one length alone, and some are too long
				answers(t, "Link", w.Link(r, r+1, 7+rng.Intn(3)), api.OK)
			}
			settle(t, w, rng)
			allFound(t, w)
		}
	}
}

func TestP14AtMostMaxMetric(t *testing.T) {
	rng := rand.New(rand.NewSource(1))
	w := net(t, 5, [3]int{0, 1, 9}, [3]int{1, 2, 9}, [3]int{2, 3, 9}, [3]int{3, 4, 3})
	settle(t, w, rng)
	allFound(t, w)
	traceIs(t, w, 0, 4, 0, 1, 2, 3, 4)
	traceIs(t, w, 4, 0, 4, 3, 2, 1, 0)
	answers(t, "Link", w.Link(3, 4, 4), api.OK) // 31 in all
	settle(t, w, rng)
	allFound(t, w)
	traceIs(t, w, 0, 4, 0)
	traceIs(t, w, 4, 0, 4)
	traceIs(t, w, 1, 4, 1, 2, 3, 4)
	answers(t, "Link", w.Link(3, 4, 3), api.OK)
	settle(t, w, rng)
	allFound(t, w)
	traceIs(t, w, 0, 4, 0, 1, 2, 3, 4)
}

func TestP14OthersHaveNoRoute(t *testing.T) {
	rng := rand.New(rand.NewSource(1))
	w := line(t)
	settle(t, w, rng)
	allFound(t, w)
	answers(t, "Link", w.Link(1, 2, 0), api.OK)
	settle(t, w, rng)
	allFound(t, w)
	for _, d := range []int{2, 3, 4} {
		routeIs(t, w, 0, d, none)
		routeIs(t, w, 1, d, none)
	}
	traceIs(t, w, 2, 4, 2, 3, 4)
}

func TestP14AfterAllCrashed(t *testing.T) {
	rng := rand.New(rand.NewSource(1))
	w := net(t, 5, [3]int{0, 1, 1}, [3]int{1, 2, 1}, [3]int{2, 3, 1}, [3]int{3, 4, 1}, [3]int{4, 0, 9})
	settle(t, w, rng)
	traceIs(t, w, 0, 4, 0, 1, 2, 3, 4)
	for r := range 5 {
		answers(t, "Crash", w.Crash(r), api.OK)
	}
	answers(t, "Link", w.Link(2, 3, 0), api.OK)
	allUp(t, w)
	noCircle(t, w)
	settle(t, w, rng)
	allFound(t, w)
	traceIs(t, w, 0, 4, 0, 4)
	traceIs(t, w, 2, 3, 2, 1, 0, 4, 3)
}
