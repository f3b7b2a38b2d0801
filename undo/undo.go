// Package undo: changes that can be taken back.
package undo

// Log holds for each change that was made a function that takes it back.
type Log struct {
	steps []func()
}

// Set changes what is at place, and lays down how to take that back.
func Set[T any](log *Log, place *T, value T) {
	old := *place
	log.steps = append(log.steps, func() { *place = old })
	*place = value
}

// TakeBack undoes all changes. It goes from the last to the first, as a later change may stand on an earlier one.
func (log *Log) TakeBack() {
	for i := len(log.steps) - 1; i >= 0; i-- {
		log.steps[i]()
	}
	log.steps = nil
}
