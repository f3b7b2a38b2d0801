package undo

import (
	"slices"
	"testing"
)

func TestSetChangesAtOnce(t *testing.T) {
	var log Log
	n, s := 1, "a"
	Set(&log, &n, 2)
	Set(&log, &s, "b")
	if n != 2 || s != "b" {
		t.Errorf("after Set: %d, %q", n, s)
	}
}

func TestTakeBackGoesFromTheLastToTheFirst(t *testing.T) {
	var log Log
	n := 1
	for v := range 5 {
		Set(&log, &n, 10+v)
	}
	log.TakeBack()
	if n != 1 {
		t.Errorf("one place, changed 5 times, is %d after TakeBack, want 1", n)
	}
	var order []int
	for v := range 3 {
		log.steps = append(log.steps, func() { order = append(order, v) })
	}
	log.TakeBack()
	if !slices.Equal(order, []int{2, 1, 0}) {
		t.Errorf("undone in the order %v", order)
	}
}

func TestTakeBackHappensOnce(t *testing.T) {
	var log Log
	log.TakeBack()
	n := 1
	Set(&log, &n, 2)
	log.TakeBack()
	n = 7
	log.TakeBack()
	if n != 7 {
		t.Errorf("a second TakeBack changed 7 to %d", n)
	}
}
