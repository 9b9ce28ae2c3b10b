package assign

import (
	"testing"

	"assign/api"
)

// P5: what was preferred of a machine or rack is gone with it, and nothing else is.
func TestRemoveTakesPreferencesAlong(t *testing.T) {
	p := New()
	allOK(t, p.Rack(1), p.Rack(2), p.Machine(1, 2, 1), p.Machine(2, 2, 1), p.Job(1, 100), p.Task(1, 1, 90), p.Task(2, 1, 80))
	for _, task := range []int{1, 2} {
		allOK(t, p.Prefer(task, api.OfMachine, 1, 10+task), p.Prefer(task, api.OfMachine, 2, 20+task), p.Prefer(task, api.OfRack, 1, task))
	}
	allOK(t, p.Remove(api.OfRack, 1))
	costs(t, p, 1, 1, 11)
	costs(t, p, 2, 1, 12)
	allOK(t, p.Rack(1), p.Machine(3, 1, 1))
	costs(t, p, 1, 3, 90)
	costs(t, p, 2, 3, 80)
	allOK(t, p.Remove(api.OfMachine, 1), p.Machine(1, 2, 1))
	costs(t, p, 1, 1, 90)
	costs(t, p, 2, 1, 80)
	costs(t, p, 1, 2, 21)
	costs(t, p, 2, 2, 22)
	allOK(t, p.Remove(api.OfTask, 1), p.Task(1, 1, 70))
	costs(t, p, 1, 2, 70)
	costs(t, p, 2, 2, 22)
}

// P5: tasks that ran on a machine that is gone run on none and have waited 0; others run on.
func TestRemoveStopsTasks(t *testing.T) {
	p := example(t)
	allOK(t, p.Task(3, 0, 50), p.Task(6, 0, 60))
	p.Tick()
	runOn(p, 1, 6)
	runOn(p, 2, 5)
	runOn(p, 3, 6)
	p.Tick()
	allOK(t, p.Rack(1), p.Remove(api.OfRack, 1), p.Job(1, 0), p.Remove(api.OfJob, 1))
	allOK(t, p.Machine(1, 0, 1), p.Remove(api.OfMachine, 1), p.Remove(api.OfTask, 6))
	where(t, p, 1, 6)
	where(t, p, 3, 6)
	allOK(t, p.Remove(api.OfMachine, 6))
	where(t, p, 1, -1)
	where(t, p, 2, 5)
	where(t, p, 3, -1)
	costs(t, p, 1, -1, 100)
	costs(t, p, 1, 5, 10)
	costs(t, p, 3, -1, 100)
	costs(t, p, 2, -1, 150)
	p.Tick()
	costs(t, p, 1, -1, 101)
	costs(t, p, 2, -1, 150)
	allOK(t, p.Machine(6, 0, 1))
	where(t, p, 1, -1)
}

// P5: each wrong input, which error is first, and nothing of the same id in another kind.
func TestRemoveErrors(t *testing.T) {
	p := New()
	allOK(t, p.Rack(1), p.Rack(0), p.Machine(2, 1, 1), p.Job(3, 100), p.Job(0, 0), p.Task(4, 3, 90))
	before := copied(p)
	for _, kind := range []int{-1, 4, 5, 6, wild[0], 1 << 32, wild[len(wild)-1]} {
		for _, id := range []int{-1, 0, 1, 2, 3, 4} {
			is(t, "P5: no kind", p.Remove(kind, id), api.ErrKind)
		}
	}
	own := map[int]int{api.OfRack: 1, api.OfMachine: 2, api.OfJob: 3, api.OfTask: 4}
	for kind, id := range own {
		for _, other := range []int{-1, 1, 2, 3, 4, 99, 100} {
			if other != id {
				is(t, "P5: none such", p.Remove(kind, other), api.ErrUnknown)
			}
		}
	}
	is(t, "P5: a rack with a machine", p.Remove(api.OfRack, 1), api.ErrBusy)
	is(t, "P5: a job with a task", p.Remove(api.OfJob, 3), api.ErrBusy)
	same(t, "P1: behind refusals", p, before)
	allOK(t, p.Remove(api.OfRack, 0), p.Remove(api.OfJob, 0))
	allOK(t, p.Remove(api.OfMachine, 2), p.Remove(api.OfRack, 1), p.Remove(api.OfTask, 4), p.Remove(api.OfJob, 3))
	same(t, "P5: behind all", p, New())
	for kind, id := range own {
		is(t, "P5: gone already", p.Remove(kind, id), api.ErrUnknown)
	}
}

// P5: a machine on which a task runs is not busy, nor is a task that runs, nor what is preferred.
func TestRemoveIsBusyOnlyAsNamed(t *testing.T) {
	p := example(t)
	allOK(t, p.Rack(1), p.Prefer(1, api.OfRack, 1, 0))
	runOn(p, 1, 5)
	runOn(p, 2, 6)
	allOK(t, p.Remove(api.OfRack, 1), p.Remove(api.OfMachine, 5), p.Remove(api.OfTask, 2), p.Remove(api.OfMachine, 6))
	allOK(t, p.Remove(api.OfRack, 0), p.Remove(api.OfTask, 1), p.Remove(api.OfJob, 0))
	same(t, "P5: behind all", p, New())
}
