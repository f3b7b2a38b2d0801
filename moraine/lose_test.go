package moraine

import (
	"fmt"
	"math"
	"testing"

	"moraine/api"
	"moraine/router"
)

// seqsWait holds the messages from 0 to 1 against the seqs of 0 that they tell, from the first to the last.
func seqsWait(t *testing.T, w *Net, want ...int) {
	t.Helper()
	waits(t, w, 0, 1, len(want))
	for k, message := range w.waiting[0][1] {
		if k < len(want) && message[0].Seq != want[k] {
			t.Errorf("the message %d has the seq %d, want %d", k, message[0].Seq, want[k])
		}
	}
}

// numbered is two routers, with so many messages from 0 to 1, which have the seqs 0, 1, ...
func numbered(t *testing.T, messages int) *Net {
	t.Helper()
	w := net(t, 2, [3]int{0, 1, 1})
	for range messages {
		answers(t, "Dump", w.Dump(0), api.OK)
		answers(t, "Bump", w.Bump(0), api.OK)
	}
	return w
}

func TestP8Refusals(t *testing.T) {
	w := full(t)
	answers(t, "Crash", w.Crash(1), api.OK)
	for range api.MaxWaiting {
		answers(t, "Dump", w.Dump(2), api.OK)
	}
	waits(t, w, 2, 0, api.MaxWaiting)
	before := copyOf(w)
	for name, call := range map[string]func(a int, b int, k int) api.Errno{"Lose": w.Lose, "Again": w.Again} {
		for _, s := range strange {
			for _, k := range []int{0, 1, -1} {
				answers(t, fmt.Sprint(name, " of none ", s), call(s, 0, k), api.ErrRouter)
				answers(t, fmt.Sprint(name, " to none ", s), call(0, s, k), api.ErrRouter)
				answers(t, fmt.Sprint(name, " of none to itself ", s), call(s, s, k), api.ErrRouter)
			}
		}
		for _, k := range []int{0, 1, -1} {
			answers(t, name+" to itself", call(1, 1, k), api.ErrSame)
		}
		for _, k := range []int{-1, 1, 2, 256, -256, math.MaxInt, math.MinInt} {
			answers(t, fmt.Sprint(name, " of the message ", k), call(0, 2, k), api.ErrNone)
			answers(t, fmt.Sprint(name, " to one that is down, the message ", k), call(0, 1, k), api.ErrNone)
		}
		for _, k := range []int{-1, api.MaxWaiting, api.MaxWaiting + 1} {
			answers(t, fmt.Sprint(name, " on a full link, the message ", k), call(2, 0, k), api.ErrNone)
		}
		answers(t, name+" where nothing waits", call(3, 4, 0), api.ErrNone)
	}
	for k := range api.MaxWaiting {
		answers(t, fmt.Sprint("Again on a full link, the message ", k), w.Again(2, 0, k), api.ErrMany)
	}
	unchanged(t, "a refused Lose or Again", w, before)
}

func TestP8LoseTakesTheOneWithTheIndex(t *testing.T) {
	w := numbered(t, 4)
	answers(t, "Lose", w.Lose(0, 1, 1), api.OK)
	seqsWait(t, w, 0, 2, 3)
	answers(t, "Lose", w.Lose(0, 1, 2), api.OK)
	seqsWait(t, w, 0, 2)
	answers(t, "Lose", w.Lose(0, 1, 0), api.OK)
	seqsWait(t, w, 2)
	answers(t, "Lose", w.Lose(0, 1, 0), api.OK)
	seqsWait(t, w)
	answers(t, "Lose of one more", w.Lose(0, 1, 0), api.ErrNone)
	routeIs(t, w, 1, 0, none)
	answers(t, "Dump", w.Dump(0), api.OK)
	seqsWait(t, w, 4)
}

func TestP8LoseMakesRoomOnAFullLink(t *testing.T) {
	w := numbered(t, api.MaxWaiting+1)
	seqsWait(t, w, 0, 1, 2, 3, 4, 5)
	answers(t, "Lose", w.Lose(0, 1, 5), api.OK)
	answers(t, "Dump", w.Dump(0), api.OK)
	seqsWait(t, w, 0, 1, 2, 3, 4, 7)
}

func TestP8LoseChangesNothingElse(t *testing.T) {
	w := full(t)
	want := copyOf(w)
	answers(t, "Lose", w.Lose(0, 1, 0), api.OK)
	want.waiting[0][1] = []router.Message{}
	unchanged(t, "Lose", w, want)
}

func TestP8AgainWaitsBehindTheOthers(t *testing.T) {
	w := numbered(t, 3)
	answers(t, "Again", w.Again(0, 1, 0), api.OK)
	seqsWait(t, w, 0, 1, 2, 0)
	answers(t, "Again", w.Again(0, 1, 1), api.OK)
	seqsWait(t, w, 0, 1, 2, 0, 1)
	answers(t, "Again of the last", w.Again(0, 1, 4), api.OK)
	seqsWait(t, w, 0, 1, 2, 0, 1, 1)
	answers(t, "Again on a full link", w.Again(0, 1, 0), api.ErrMany)
	seqsWait(t, w, 0, 1, 2, 0, 1, 1)
	answers(t, "Deliver", w.Deliver(0, 1, 2), api.OK)
	routeIs(t, w, 1, 0, api.Route{Next: 0, Seq: 2})
	answers(t, "Again", w.Again(0, 1, 2), api.OK)
	seqsWait(t, w, 0, 1, 0, 1, 1, 0)
}

func TestP8AgainTellsWhatWasToldThen(t *testing.T) {
	// The message is of the time of its Dump: what 1 learned later is not in it.
	w := net(t, 3, [3]int{0, 1, 2}, [3]int{1, 2, 3})
	tell(t, w, 2, 1)
	answers(t, "Dump", w.Dump(1), api.OK)
	answers(t, "Link", w.Link(1, 2, 0), api.OK)
	answers(t, "Bump", w.Bump(1), api.OK)
	answers(t, "Again", w.Again(1, 0, 0), api.OK)
	answers(t, "Lose", w.Lose(1, 0, 0), api.OK)
	answers(t, "Deliver", w.Deliver(1, 0, 0), api.OK)
	routeIs(t, w, 0, 1, api.Route{Next: 1})
	routeIs(t, w, 0, 2, api.Route{Next: 1, Metric: 3})
}

func TestP8AgainChangesNothingElse(t *testing.T) {
	w := full(t)
	want := copyOf(w)
	answers(t, "Again", w.Again(0, 1, 0), api.OK)
	want.waiting[0][1] = append(want.waiting[0][1], want.waiting[0][1][0])
	unchanged(t, "Again", w, want)
}

func TestP8OldMessageThatComesTwiceIsNotFeasible(t *testing.T) {
	w := numbered(t, 2)
	answers(t, "Again", w.Again(0, 1, 0), api.OK)
	answers(t, "Deliver of the old one", w.Deliver(0, 1, 0), api.OK)
	answers(t, "Deliver of the new one", w.Deliver(0, 1, 0), api.OK)
	routeIs(t, w, 1, 0, api.Route{Next: 0, Seq: 1})
	answers(t, "Dump", w.Dump(1), api.OK)
	bestIs(t, w, 1, 0, api.Best{Seq: 1, Metric: 1})
	answers(t, "Deliver of the old one again", w.Deliver(0, 1, 0), api.OK)
	routeIs(t, w, 1, 0, none)
}

func TestP8WhereTheLinkIsCutOrOneIsDown(t *testing.T) {
	for _, down := range []int{-1, 0, 1} {
		w := numbered(t, 2)
		if down < 0 {
			answers(t, "Link", w.Link(0, 1, 0), api.OK)
		} else {
			answers(t, "Crash", w.Crash(down), api.OK)
		}
		answers(t, "Again", w.Again(0, 1, 0), api.OK)
		seqsWait(t, w, 0, 1, 0)
		answers(t, "Lose", w.Lose(0, 1, 0), api.OK)
		seqsWait(t, w, 1, 0)
	}
}
