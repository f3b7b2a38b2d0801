// Package router: one router, what it knows and what it saves.
package router

import (
	"moraine/api"
	"moraine/undo"
)

// Router is made of what it knows and of its disk.
type Router struct {
	Knowledge
	Disk
	Down bool
}

// Fresh is a router that is up, knows nothing and saved nothing.
func Fresh() Router {
	return Router{Knowledge: Blank(), Disk: Disk{Saved: Blank()}}
}

// Dump makes the message that the router, whose number is self, tells its neighbours.
// It saves ahead of answering: once the message is out, a crash must not take back the bests that keep packets from going round.
// It panics with a DiskFailure, if the disk fails; changes has then what is to be taken back.
func (r *Router) Dump(self int, costs Costs, changes *undo.Log) Message {
	r.dropFar(costs, changes)
	message := r.tellings(self, costs)
	r.raiseBests(self, message, changes)
	r.Save(r.Knowledge)
	return message
}

// Bump makes what the router tells of itself newer than all that it told; it is refused, if its seq is the last one.
func (r *Router) Bump() api.Errno {
	if r.Seq == api.MaxSeq {
		return api.ErrMany
	}
	r.Seq++
	return api.OK
}

// Crash takes the router down; what it did not save is gone.
func (r *Router) Crash() {
	r.Knowledge = Blank()
	r.Down = true
}

// Restart lets the router come up with what it saved last.
// As it saves ahead of telling, the saved bests are as good as all that it ever told: its saved routes lead round in no circle.
func (r *Router) Restart(costs Costs) {
	r.Knowledge = r.Saved
	r.Down = false
	r.dropCut(costs)
	r.makeStale()
}
