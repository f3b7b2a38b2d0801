package moraine

import (
	"slices"

	"moraine/api"
	"moraine/router"
	"moraine/undo"
)

// has tells if there is a router r; a nil Net has none.
func (w *Net) has(r int) bool {
	return w != nil && r >= 0 && r < len(w.routers)
}

// checkUp refuses a router that is not there, or is down.
func (w *Net) checkUp(r int) api.Errno {
	if !w.has(r) {
		return api.ErrRouter
	}
	if w.routers[r].Down {
		return api.ErrDown
	}
	return api.OK
}

// checkPair refuses what are not two routers.
func (w *Net) checkPair(a int, b int) api.Errno {
	if !w.has(a) || !w.has(b) {
		return api.ErrRouter
	}
	if a == b {
		return api.ErrSame
	}
	return api.OK
}

// checkAsk refuses to ask router r for what it knows of d.
func (w *Net) checkAsk(r int, d int) api.Errno {
	if e := w.checkPair(r, d); e != api.OK {
		return e
	}
	return w.checkUp(r)
}

// checkMessage refuses what is not the index k of a message on the link from a to b.
func (w *Net) checkMessage(a int, b int, k int) api.Errno {
	if e := w.checkPair(a, b); e != api.OK {
		return e
	}
	if k < 0 || k >= len(w.waiting[a][b]) {
		return api.ErrNone
	}
	return api.OK
}

// takeOff takes the message k off the link from a to b.
func (w *Net) takeOff(a int, b int, k int) router.Message {
	message := w.waiting[a][b][k]
	w.waiting[a][b] = slices.Delete(w.waiting[a][b], k, k+1)
	return message
}

// arrives tells if a message from a that is taken off comes to b, or is lost.
func (w *Net) arrives(a int, b int) bool {
	return w.costs[a][b] > 0 && !w.routers[b].Down
}

// next is where a packet to d goes on from r, or -1 if it ends there.
func (w *Net) next(r int, d int) int {
	if r == d || w.routers[r].Down {
		return -1
	}
	return w.routers[r].Routes[d].Next
}

// putBehind lets a message wait behind the others on the link from a to b, which refuses it if it is full.
func (w *Net) putBehind(a int, b int, message router.Message) api.Errno {
	if len(w.waiting[a][b]) >= api.MaxWaiting {
		return api.ErrMany
	}
	w.waiting[a][b] = append(w.waiting[a][b], message)
	return api.OK
}

// send lets the message of r wait on each of its links.
func (w *Net) send(r int, message router.Message) {
	for b, cost := range w.costs[r] {
		if cost > 0 {
			// A full link loses the message, and the sender does not learn of that: it is no error of Dump.
			w.putBehind(r, b, message)
		}
	}
}

// saving does work, which saves; if the disk fails, the changes that work laid down are taken back.
func saving(work func(changes *undo.Log)) (answer api.Errno) {
	var changes undo.Log
	defer func() {
		failure := recover()
		if failure == nil {
			return
		}
		if _, isDisk := failure.(router.DiskFailure); !isDisk {
			// A fault of the program must not pass for a fault of the disk.
			panic(failure)
		}
		changes.TakeBack()
		answer = api.ErrDisk
	}()
	work(&changes)
	return api.OK
}
