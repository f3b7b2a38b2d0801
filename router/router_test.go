package router

import (
	"testing"

	"moraine/api"
	"moraine/undo"
)

// dump dumps router 0 and tells if its disk failed.
func dump(r *Router, costs Costs, changes *undo.Log) (message Message, failed bool) {
	defer func() {
		if p := recover(); p != nil {
			_, failed = p.(DiskFailure)
		}
	}()
	return r.Dump(0, costs, changes), false
}

func TestBetterThan(t *testing.T) {
	for _, c := range []struct {
		t, u Telling
		want bool
	}{
		{Telling{2, 9}, Telling{1, 0}, true},
		{Telling{1, 0}, Telling{2, 9}, false},
		{Telling{1, 3}, Telling{1, 4}, true},
		{Telling{1, 4}, Telling{1, 4}, false},
		{Telling{1, 5}, Telling{1, 4}, false},
		{Telling{0, api.MaxMetric}, Nothing(), true},
		{Nothing(), Telling{0, api.MaxMetric}, false},
		{Nothing(), Nothing(), false},
	} {
		if c.t.BetterThan(c.u) != c.want {
			t.Errorf("%v better than %v: want %v", c.t, c.u, c.want)
		}
	}
}

func TestFreshKnowsAndSavedNothing(t *testing.T) {
	r := Fresh()
	if r.Down || r.Fails != 0 || r.Seq != 0 || r.Knowledge != r.Saved {
		t.Errorf("Fresh() = %v", r)
	}
	for d := range api.MaxRouters {
		if r.HasRoute(d) || r.Routes[d] != (api.Route{Next: -1}) || r.Bests[d] != (Telling{-1, 0}) {
			t.Errorf("Fresh() has of %d: %v, %v", d, r.Routes[d], r.Bests[d])
		}
	}
}

func TestDropByLeavesOtherRoutes(t *testing.T) {
	k := Blank()
	k.Routes[1] = api.Route{Next: 1}
	k.Routes[2] = api.Route{Next: 1, Seq: 4, Metric: 2}
	k.Routes[3] = api.Route{Next: 3}
	k.Bests[2] = Telling{4, 3}
	k.DropBy(1)
	want := Blank()
	want.Routes[3] = api.Route{Next: 3}
	want.Bests[2] = Telling{4, 3}
	if k != want {
		t.Errorf("after DropBy(1): %v, want %v", k, want)
	}
}

func TestTick(t *testing.T) {
	k := Blank()
	k.Seq = 3
	k.Routes[1] = api.Route{Next: 1, Seq: 2}
	k.Routes[2] = api.Route{Next: 1, Seq: 4, Metric: 2, Age: api.MaxAge - 2, Stale: 1}
	k.Routes[3] = api.Route{Next: 3, Seq: 5, Metric: 1, Age: api.MaxAge - 1}
	k.Bests[3] = Telling{5, 2}
	want := k
	k.Tick()
	want.Routes[1].Age = 1
	want.Routes[2].Age = api.MaxAge - 1 // it stays stale
	want.Routes[3] = noRoute()
	if k != want {
		t.Errorf("after Tick: %v, want %v", k, want)
	}
}

func TestDumpDropsWhatIsTooFar(t *testing.T) {
	r := Fresh()
	r.Routes[1] = api.Route{Next: 1, Seq: 3, Metric: api.MaxMetric - 4}
	r.Routes[2] = api.Route{Next: 1, Seq: 3, Metric: api.MaxMetric - 5}
	r.Bests[1] = Telling{2, 9}
	message, _ := dump(&r, Costs{1: 5}, new(undo.Log))
	if r.HasRoute(1) || message[1] != Nothing() || r.Bests[1] != (Telling{2, 9}) {
		t.Errorf("total 31: %v, told %v, best %v", r.Routes[1], message[1], r.Bests[1])
	}
	if !r.HasRoute(2) || message[2] != (Telling{3, 30}) || r.Bests[2] != (Telling{3, 30}) {
		t.Errorf("total 30: %v, told %v, best %v", r.Routes[2], message[2], r.Bests[2])
	}
}

func TestDumpTells(t *testing.T) {
	r := Fresh()
	r.Seq = 7
	r.Routes[1] = api.Route{Next: 1, Seq: 2, Metric: 0, Age: 1}
	r.Routes[2] = api.Route{Next: 1, Seq: 0, Metric: 4, Stale: 1}
	r.Routes[3] = api.Route{Next: 4, Seq: 5, Metric: 1}
	message, failed := dump(&r, Costs{1: 2, 4: 9}, new(undo.Log))
	want := Message{{7, 0}, {2, 2}, {0, 6}, {5, 10}, {-1, 0}}
	if failed || message != want {
		t.Errorf("told %v, want %v", message, want)
	}
	want[0] = Nothing()
	if r.Bests != want {
		t.Errorf("bests %v, want %v", r.Bests, want)
	}
}

func TestDumpKeepsABestThatIsAsGood(t *testing.T) {
	for _, c := range []struct{ old, want Telling }{
		{Nothing(), Telling{3, 6}},
		{Telling{2, 1}, Telling{3, 6}},
		{Telling{3, 7}, Telling{3, 6}},
		{Telling{3, 6}, Telling{3, 6}},
		{Telling{3, 5}, Telling{3, 5}},
		{Telling{4, 30}, Telling{4, 30}},
	} {
		r := Fresh()
		r.Routes[2] = api.Route{Next: 1, Seq: 3, Metric: 4}
		r.Bests[2] = c.old
		message, _ := dump(&r, Costs{1: 2}, new(undo.Log))
		if message[2] != (Telling{3, 6}) || r.Bests[2] != c.want {
			t.Errorf("best %v: told %v, best then %v, want %v", c.old, message[2], r.Bests[2], c.want)
		}
	}
}

func TestDumpSaves(t *testing.T) {
	r := Fresh()
	r.Seq = 5
	r.Routes[1] = api.Route{Next: 1, Seq: 2, Age: 2}
	r.Routes[2] = api.Route{Next: 1, Metric: api.MaxMetric}
	dump(&r, Costs{1: 3}, new(undo.Log))
	want := Blank()
	want.Seq = 5
	want.Routes[1] = api.Route{Next: 1, Seq: 2, Age: 2}
	want.Bests[1] = Telling{2, 3}
	if r.Saved != want || r.Knowledge != want {
		t.Errorf("saved %v, knows %v, want %v", r.Saved, r.Knowledge, want)
	}
	r.Seq = 6
	r.DropBy(1)
	if r.Saved != want {
		t.Errorf("what was saved changed with what is known: %v", r.Saved)
	}
}

func TestDiskFailsAsOftenAsWasSaid(t *testing.T) {
	r := Fresh()
	r.Seq = 5
	r.Routes[1] = api.Route{Next: 1, Seq: 2}
	r.Routes[2] = api.Route{Next: 1, Metric: api.MaxMetric}
	r.Fails = 2
	before := r
	for left := 1; left >= 0; left-- {
		var changes undo.Log
		if _, failed := dump(&r, Costs{1: 3}, &changes); !failed {
			t.Errorf("the disk did not fail, with %d to come", left)
		}
		changes.TakeBack()
		before.Fails = left
		if r != before {
			t.Errorf("after a failure and TakeBack: %v, want %v", r, before)
		}
	}
	if _, failed := dump(&r, Costs{1: 3}, new(undo.Log)); failed || r.Saved.Seq != 5 || r.Fails != 0 {
		t.Errorf("it failed once more (%v), or did not save: %v", failed, r.Saved)
	}
}

// learned is a router that saved something, and learned and failed since.
func learned() Router {
	r := Fresh()
	r.Seq = 5
	r.Routes[1] = api.Route{Next: 1, Seq: 2, Age: 2}
	r.Routes[2] = api.Route{Next: 1, Seq: 3, Metric: 4, Stale: 1}
	r.Routes[3] = api.Route{Next: 4, Seq: 1, Metric: 6, Age: 1}
	r.Bests[2] = Telling{2, 7}
	dump(&r, Costs{1: 3, 4: 2}, new(undo.Log))
	r.Seq = 6
	r.Routes[1] = noRoute()
	r.Routes[4] = api.Route{Next: 4, Seq: 9}
	r.Fails = 2
	return r
}

func TestCrashLeavesTheDiskAlone(t *testing.T) {
	r := learned()
	want := Router{Knowledge: Blank(), Disk: r.Disk, Down: true}
	r.Crash()
	if r != want {
		t.Errorf("after Crash: %v, want %v", r, want)
	}
}

func TestRestart(t *testing.T) {
	by1 := [api.MaxRouters]api.Route{noRoute(), {Next: 1, Seq: 2, Stale: 1}, {Next: 1, Seq: 3, Metric: 4, Stale: 1}, noRoute(), noRoute()}
	by4 := [api.MaxRouters]api.Route{noRoute(), noRoute(), noRoute(), {Next: 4, Seq: 1, Metric: 6, Stale: 1}, noRoute()}
	both := by1
	both[3] = by4[3]
	for _, c := range []struct {
		costs Costs
		want  [api.MaxRouters]api.Route
	}{
		{Costs{1: 3, 4: 2}, both},
		{Costs{1: 9, 2: 1, 3: 1, 4: 9}, both},
		{Costs{1: 1, 2: 5}, by1},
		{Costs{4: 1}, by4},
		{Costs{}, Blank().Routes},
	} {
		r := learned()
		r.Crash()
		want := r
		want.Down = false
		want.Knowledge = r.Saved
		want.Routes = c.want
		r.Restart(c.costs)
		if r != want {
			t.Errorf("links %v: after Restart: %v, want %v", c.costs, r, want)
		}
		if r.Seq != 5 || r.Bests[1] != (Telling{2, 3}) || r.Bests[2] != (Telling{3, 7}) || r.Bests[4] != Nothing() {
			t.Errorf("links %v: after Restart: %v", c.costs, r)
		}
	}
}

func TestRestartOfOneThatSavedNothing(t *testing.T) {
	r := Fresh()
	r.Bump()
	r.Routes[1] = api.Route{Next: 1}
	r.Crash()
	r.Restart(Costs{1: 1, 2: 1, 3: 1, 4: 1})
	if r != Fresh() {
		t.Errorf("after Restart: %v", r)
	}
}
