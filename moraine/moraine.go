// Package moraine: routers that never send anything round in a circle: see DOC.md.
package moraine

import (
	"moraine/api"
	"moraine/router"
	"moraine/undo"
)

// Net is routers, links, disks.
type Net struct {
	routers []router.Router
	costs   [api.MaxRouters]router.Costs
	// waiting has the messages on the link from the first router to the second one.
	waiting [api.MaxRouters][api.MaxRouters][]router.Message
}

// New gives a net (P3).
func New(n int) (*Net, api.Errno) {
	if n < 2 || n > api.MaxRouters {
		return nil, api.ErrSize
	}
	w := &Net{routers: make([]router.Router, n)}
	for r := range w.routers {
		w.routers[r] = router.Fresh()
	}
	return w, api.OK
}

// Link sets what a link costs (P4).
func (w *Net) Link(a int, b int, cost int) api.Errno {
	if e := w.checkPair(a, b); e != api.OK {
		return e
	}
	if cost < 0 || cost > api.MaxCost {
		return api.ErrCost
	}
	w.costs[a][b] = cost
	w.costs[b][a] = cost
	if cost == 0 {
		w.routers[a].DropBy(b)
		w.routers[b].DropBy(a)
	}
	return api.OK
}

// Dump lets a router tell its neighbours all it knows (P5).
func (w *Net) Dump(r int) api.Errno {
	if e := w.checkUp(r); e != api.OK {
		return e
	}
	return saving(func(changes *undo.Log) {
		w.send(r, w.routers[r].Dump(r, w.costs[r], changes))
	})
}

// Waiting tells how many messages wait on a link (P6).
func (w *Net) Waiting(a int, b int) (int, api.Errno) {
	if e := w.checkPair(a, b); e != api.OK {
		return 0, e
	}
	return len(w.waiting[a][b]), api.OK
}

// Deliver lets a message arrive (P7).
func (w *Net) Deliver(a int, b int, k int) api.Errno {
	if e := w.checkMessage(a, b, k); e != api.OK {
		return e
	}
	message := w.takeOff(a, b, k)
	if w.arrives(a, b) {
		w.routers[b].Hear(b, a, message, w.costs[b])
	}
	return api.OK
}

// Lose drops a message (P8).
func (w *Net) Lose(a int, b int, k int) api.Errno {
	if e := w.checkMessage(a, b, k); e != api.OK {
		return e
	}
	w.takeOff(a, b, k)
	return api.OK
}

// Again doubles a message (P8).
func (w *Net) Again(a int, b int, k int) api.Errno {
	if e := w.checkMessage(a, b, k); e != api.OK {
		return e
	}
	return w.putBehind(a, b, w.waiting[a][b][k])
}

// Tick lets time go by for a router (P9).
func (w *Net) Tick(r int) api.Errno {
	if e := w.checkUp(r); e != api.OK {
		return e
	}
	w.routers[r].Tick()
	return api.OK
}

// Bump gives a router's own tellings a new number (P9).
func (w *Net) Bump(r int) api.Errno {
	if e := w.checkUp(r); e != api.OK {
		return e
	}
	return w.routers[r].Bump()
}

// Fail lets a router's disk fail (P10).
func (w *Net) Fail(r int, times int) api.Errno {
	if !w.has(r) {
		return api.ErrRouter
	}
	if times < 0 || times > api.MaxFails {
		return api.ErrMany
	}
	w.routers[r].Fails = times
	return api.OK
}

// Crash lets a router go down (P10).
func (w *Net) Crash(r int) api.Errno {
	if e := w.checkUp(r); e != api.OK {
		return e
	}
	w.routers[r].Crash()
	return api.OK
}

// Restart lets a router come up again (P10).
func (w *Net) Restart(r int) api.Errno {
	if !w.has(r) {
		return api.ErrRouter
	}
	if !w.routers[r].Down {
		return api.ErrUp
	}
	w.routers[r].Restart(w.costs[r])
	return api.OK
}

// Route tells how a router reaches another one (P11).
func (w *Net) Route(r int, d int) (api.Route, api.Errno) {
	if e := w.checkAsk(r, d); e != api.OK {
		return api.Route{}, e
	}
	return w.routers[r].Routes[d], api.OK
}

// Best tells the best that a router ever told of another one (P11).
func (w *Net) Best(r int, d int) (api.Best, api.Errno) {
	if e := w.checkAsk(r, d); e != api.OK {
		return api.Best{}, e
	}
	return api.Best(w.routers[r].Bests[d]), api.OK
}

// Trace tells which way a packet goes (P12).
func (w *Net) Trace(r int, d int) ([]int, api.Errno) {
	if !w.has(r) || !w.has(d) {
		return nil, api.ErrRouter
	}
	way := []int{r}
	// A way without a circle has fewer steps than there are routers; the count makes the call end on any other, too.
	for range w.routers {
		next := w.next(r, d)
		if next < 0 {
			break
		}
		way = append(way, next)
		r = next
	}
	return way, api.OK
}
