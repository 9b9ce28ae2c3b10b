package assign

import (
	"maps"
	"math"
	"reflect"
	"slices"
	"testing"

	"assign/api"
)

// wild: numbers on and beside every edge that the document names, and the ends of int.
var wild = []int{math.MinInt, -1001, -2, -1, 0, 1, 2, 3, 4, 5, 6, 98, 99, 100, 101, 1000, 1001, 1 << 32, math.MaxInt}

// is: an error is the one that it must be.
func is(t *testing.T, what string, got, want api.Errno) {
	t.Helper()
	if got != want {
		t.Errorf("%s: %d, want %d", what, got, want)
	}
}

// allOK: none of some calls was refused.
func allOK(t *testing.T, got ...api.Errno) {
	t.Helper()
	for i, e := range got {
		if e != api.OK {
			t.Fatalf("call %d: %d, want OK", i, e)
		}
	}
}

// costs: what a task costs on a machine.
func costs(t *testing.T, p *Plan, task, machine, want int) {
	t.Helper()
	if c, e := p.Cost(task, machine); c != want || e != api.OK {
		t.Errorf("Cost(%d, %d) = %d, %d, want %d", task, machine, c, e, want)
	}
}

// where: on which machine a task runs.
func where(t *testing.T, p *Plan, task, want int) {
	t.Helper()
	if m, e := p.Where(task); m != want || e != api.OK {
		t.Errorf("Where(%d) = %d, %d, want %d", task, m, e, want)
	}
}

// runOn lets a task run as a Solve that places it there would.
func runOn(p *Plan, task, machine int) {
	p.runs[thing{taskKind, task}] = thing{machineKind, machine}
	delete(p.waited, thing{taskKind, task})
}

// copied: a plan of the same state that shares nothing.
func copied(p *Plan) *Plan {
	l := p.last
	l.net.Supply, l.net.Arcs = slices.Clone(l.net.Supply), slices.Clone(l.net.Arcs)
	l.flow, l.prices = slices.Clone(l.flow), slices.Clone(l.prices)
	return &Plan{maps.Clone(p.things), maps.Clone(p.runs), maps.Clone(p.waited), maps.Clone(p.prefers), l}
}

// same: two plans are of the same state.
func same(t *testing.T, what string, p, q *Plan) {
	t.Helper()
	if !reflect.DeepEqual(p, q) {
		t.Errorf("%s: the state is %v, want %v", what, *p, *q)
	}
}

// example: the plan of the document's examples.
func example(t *testing.T) *Plan {
	t.Helper()
	p := New()
	allOK(t, p.Rack(0), p.Machine(5, 0, 1), p.Machine(6, 0, 2), p.Job(0, 100), p.Task(1, 0, 30), p.Task(2, 0, 40),
		p.Prefer(1, api.OfMachine, 5, 10), p.Prefer(2, api.OfMachine, 5, 3))
	return p
}

// full: a plan with as many of each kind as may be, with ids from 0 on.
func full(t *testing.T) *Plan {
	t.Helper()
	p := New()
	for i := range api.MaxRacks {
		allOK(t, p.Rack(i))
	}
	for i := range api.MaxMachines {
		allOK(t, p.Machine(i, i%api.MaxRacks, 1+i%api.MaxSlots))
	}
	for i := range api.MaxJobs {
		allOK(t, p.Job(i, 100*i))
	}
	for i := range api.MaxTasks {
		allOK(t, p.Task(i, i%api.MaxJobs, 10*i))
	}
	return p
}
