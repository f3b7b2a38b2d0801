package router

import (
	"testing"

	"moraine/api"
)

// hears lets router 0 hear of router 2 by router 1, over a link that costs 4; router 3 is linked to it at 6.
func hears(route api.Route, best Telling, telling Telling) Knowledge {
	k := Blank()
	k.Routes[2] = route
	k.Bests[2] = best
	message := Message{Nothing(), Nothing(), telling, Nothing(), Nothing()}
	k.Hear(0, 1, message, Costs{1: 4, 3: 6})
	return k
}

func TestHear(t *testing.T) {
	by1 := api.Route{Next: 1, Seq: 5, Metric: 8, Age: 2, Stale: 1}
	by3 := api.Route{Next: 3, Seq: 5, Metric: 8, Age: 2, Stale: 1} // its total is 14
	taken := func(seq, metric int) api.Route { return api.Route{Next: 1, Seq: seq, Metric: metric} }
	for _, c := range []struct {
		what    string
		route   api.Route
		best    Telling
		telling Telling
		want    api.Route
	}{
		{"nothing, no route", noRoute(), Nothing(), Nothing(), noRoute()},
		{"nothing, by it", by1, Nothing(), Nothing(), noRoute()},
		{"nothing, by it, a best", by1, Telling{5, 20}, Nothing(), noRoute()},
		{"nothing, by another", by3, Nothing(), Nothing(), by3},

		{"as good as the best, no route", noRoute(), Telling{5, 3}, Telling{5, 3}, noRoute()},
		{"as good as the best, by it", by1, Telling{5, 3}, Telling{5, 3}, noRoute()},
		{"as good as the best, by another", by3, Telling{5, 3}, Telling{5, 3}, by3},
		{"older than the best, by it", by1, Telling{5, 20}, Telling{4, 0}, noRoute()},
		{"older than the best, no route", noRoute(), Telling{5, 20}, Telling{4, 0}, noRoute()},
		{"farther than the best, by it", by1, Telling{5, 12}, Telling{5, 13}, noRoute()},
		{"better than the best by 1", noRoute(), Telling{5, 4}, Telling{5, 3}, taken(5, 3)},
		{"newer than the best", noRoute(), Telling{5, 0}, Telling{6, 26}, taken(6, 26)},
		{"metric 0, seq 0, no best", noRoute(), Nothing(), Telling{0, 0}, taken(0, 0)},

		{"30 in all, no route", noRoute(), Nothing(), Telling{0, 26}, taken(0, 26)},
		{"31 in all, no route", noRoute(), Nothing(), Telling{0, 27}, noRoute()},
		{"30 in all, by it", by1, Nothing(), Telling{5, 26}, taken(5, 26)},
		{"31 in all, by it, newer", by1, Nothing(), Telling{6, 27}, noRoute()},
		{"31 in all, by another, newer", by3, Nothing(), Telling{6, 27}, by3},

		{"by it, the same", by1, Nothing(), Telling{5, 8}, taken(5, 8)},
		{"by it, older", by1, Nothing(), Telling{4, 8}, taken(4, 8)},
		{"by it, farther", by1, Telling{5, 12}, Telling{5, 11}, taken(5, 11)},
		{"by another, newer and farther", by3, Nothing(), Telling{6, 26}, taken(6, 26)},
		{"by another, older and nearer", by3, Nothing(), Telling{4, 0}, by3},
		{"by another, 13 in all", by3, Nothing(), Telling{5, 9}, taken(5, 9)},
		{"by another, 14 in all", by3, Nothing(), Telling{5, 10}, by3},
		{"by another, 15 in all", by3, Nothing(), Telling{5, 11}, by3},
	} {
		want := Blank()
		want.Routes[2] = c.want
		want.Bests[2] = c.best
		if k := hears(c.route, c.best, c.telling); k != want {
			t.Errorf("%s: %v, want %v", c.what, k, want)
		}
	}
}

func TestHearOfAllButItself(t *testing.T) {
	k := Blank()
	k.Seq = 1
	k.Hear(2, 3, Message{{4, 1}, {5, 2}, {6, 3}, {7, 0}, {8, 4}}, Costs{3: 1})
	want := Blank()
	want.Seq = 1
	want.Routes = [api.MaxRouters]api.Route{
		{Next: 3, Seq: 4, Metric: 1}, {Next: 3, Seq: 5, Metric: 2}, {Next: -1}, {Next: 3, Seq: 7}, {Next: 3, Seq: 8, Metric: 4},
	}
	if k != want {
		t.Errorf("heard %v, want %v", k, want)
	}
}

func TestBump(t *testing.T) {
	r := Fresh()
	for seq := range api.MaxSeq {
		if r.Seq != seq || r.Bump() != api.OK {
			t.Fatalf("the seq is %d, want %d", r.Seq, seq)
		}
	}
	before := r
	if e := r.Bump(); e != api.ErrMany || r != before {
		t.Errorf("Bump at the last seq = %d, %v", e, r)
	}
	if r.Seq != api.MaxSeq || r.Saved != Blank() {
		t.Errorf("seq %d, saved %v", r.Seq, r.Saved)
	}
}
