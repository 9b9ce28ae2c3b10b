package assign

import (
	"testing"

	"assign/api"
)

// solves: a Solve answers what it must, and no other placing costs less.
func solves(t *testing.T, p *Plan, want int) {
	t.Helper()
	if got := solved(t, p); got != want {
		t.Errorf("P8: Solve() = %d, want %d", got, want)
	}
}

// P3 to P8: the document's example.
func TestExample(t *testing.T) {
	p := example(t)
	costs(t, p, 1, 5, 10)
	costs(t, p, 1, 6, 30)
	costs(t, p, 1, -1, 100)
	costs(t, p, 2, 5, 3)
	costs(t, p, 2, 6, 40)
	solves(t, p, 33)
	where(t, p, 1, 6)
	where(t, p, 2, 5)
	costs(t, p, 1, 6, 30)
	costs(t, p, 1, 5, 60)
	costs(t, p, 1, -1, 150)
	solves(t, p, 33)
	allOK(t, p.Remove(api.OfMachine, 5))
	where(t, p, 2, -1)
	p.Tick()
	p.Tick()
	costs(t, p, 2, -1, 102)
	allOK(t, p.Prefer(2, api.OfRack, 0, 7))
	costs(t, p, 2, 6, 7)
	solves(t, p, 37)
	where(t, p, 1, 6)
	where(t, p, 2, 6)
	allOK(t, p.Task(3, 0, 900))
	solves(t, p, 137)
	where(t, p, 3, -1)
}

// P8: plans in which there is nothing to place, or nowhere.
func TestSolveWithLittle(t *testing.T) {
	p := New()
	solves(t, p, 0)
	allOK(t, p.Rack(99), p.Machine(99, 99, 4), p.Job(99, 1000))
	solves(t, p, 0)
	allOK(t, p.Remove(api.OfMachine, 99), p.Task(0, 99, 0), p.Task(99, 99, 1000), p.Prefer(99, api.OfRack, 99, 0))
	solves(t, p, 2000)
	where(t, p, 0, -1)
	where(t, p, 99, -1)
	allOK(t, p.Remove(api.OfRack, 99))
	solves(t, p, 2000)
	allOK(t, p.Rack(1), p.Rack(0), p.Machine(0, 0, 1))
	solves(t, p, 1000)
	where(t, p, 0, 0)
	where(t, p, 99, -1)
}

// P8: no machine gets more tasks than it has slots, for each number of slots, and by each of the ways to it.
func TestSolveKeepsToSlots(t *testing.T) {
	for slots := 1; slots <= api.MaxSlots; slots++ {
		for way := range 4 {
			p := New()
			allOK(t, p.Rack(3), p.Machine(7, 3, slots), p.Job(1, 1000))
			for i := range 6 {
				allOK(t, p.Task(i, 1, 10))
				if way == 1 || way == 3 && i%2 == 0 {
					allOK(t, p.Prefer(i, api.OfMachine, 7, 10))
				}
				if way == 2 || way == 3 && i%2 == 1 {
					allOK(t, p.Prefer(i, api.OfRack, 3, 10))
				}
			}
			solves(t, p, 10*slots+1000*(6-slots))
		}
	}
}

// P8: a task stays where it runs as long as nothing is saved by moving it, and moves as soon as it is.
func TestSolveMoves(t *testing.T) {
	p := New()
	allOK(t, p.Rack(0), p.Machine(2, 0, 1), p.Job(0, 500), p.Task(0, 0, 100))
	solves(t, p, 100)
	allOK(t, p.Machine(1, 0, 1), p.Prefer(0, api.OfMachine, 1, 51))
	solves(t, p, 100)
	where(t, p, 0, 2)
	allOK(t, p.Prefer(0, api.OfMachine, 1, 50))
	solves(t, p, 100)
	allOK(t, p.Prefer(0, api.OfMachine, 1, 49))
	solves(t, p, 99)
	where(t, p, 0, 1)
	solves(t, p, 49)
	where(t, p, 0, 1)
}

// P8: a task that costs less on none is taken off, or is not placed at all.
func TestSolveTakesOff(t *testing.T) {
	p := New()
	allOK(t, p.Rack(0), p.Machine(0, 0, 1), p.Job(0, 20), p.Task(0, 0, 100))
	solves(t, p, 20)
	where(t, p, 0, -1)
	allOK(t, p.Prefer(0, api.OfRack, 0, 19))
	solves(t, p, 19)
	where(t, p, 0, 0)
	allOK(t, p.Prefer(0, api.OfRack, 0, 69))
	solves(t, p, 69)
	where(t, p, 0, 0)
	allOK(t, p.Prefer(0, api.OfRack, 0, 71))
	solves(t, p, 70)
	where(t, p, 0, -1)
	costs(t, p, 0, -1, 20)
	costs(t, p, 0, 0, 71)
}

// P8: what a task has waited stays as long as it runs on none, and is gone when it comes to a machine, also when it leaves it again.
func TestSolveAndWaiting(t *testing.T) {
	p := New()
	allOK(t, p.Job(0, 0), p.Task(0, 0, 80), p.Rack(0), p.Machine(0, 0, 1))
	for i := range 80 {
		solves(t, p, i)
		where(t, p, 0, -1)
		p.Tick()
		costs(t, p, 0, -1, i+1)
	}
	p.Tick()
	solves(t, p, 80)
	where(t, p, 0, 0)
	costs(t, p, 0, -1, 50)
	p.Tick()
	costs(t, p, 0, -1, 50)
	solves(t, p, 50)
	where(t, p, 0, -1)
	costs(t, p, 0, -1, 0)
	solves(t, p, 0)
	p.Tick()
	solves(t, p, 1)
	costs(t, p, 0, -1, 1)
}

// P5, P8: a task whose machine goes has waited 0, even if it had waited ahead of coming there.
func TestSolveAndRemove(t *testing.T) {
	p := New()
	allOK(t, p.Job(0, 10), p.Task(0, 0, 0))
	p.Tick()
	solves(t, p, 11)
	allOK(t, p.Rack(0), p.Machine(0, 0, 1))
	solves(t, p, 0)
	allOK(t, p.Remove(api.OfMachine, 0))
	where(t, p, 0, -1)
	costs(t, p, 0, -1, 10)
	solves(t, p, 10)
	allOK(t, p.Machine(0, 0, 1))
	where(t, p, 0, -1)
	solves(t, p, 0)
	allOK(t, p.Remove(api.OfTask, 0), p.Task(0, 0, 7))
	where(t, p, 0, -1)
	solves(t, p, 7)
}

// P8: many tasks give way, each to the next, if that saves something in sum; and one leaves its rack to one that wants any machine there.
func TestSolveChain(t *testing.T) {
	p := New()
	allOK(t, p.Rack(0), p.Rack(1), p.Job(0, 1000))
	for i := range 8 {
		allOK(t, p.Machine(i, i/4, 1), p.Task(i, 0, 900), p.Prefer(i, api.OfMachine, i, 0))
	}
	solves(t, p, 0)
	for i := range 7 {
		allOK(t, p.Prefer(i, api.OfMachine, i+1, 10))
	}
	allOK(t, p.Remove(api.OfTask, 7), p.Task(50, 0, 421), p.Prefer(50, api.OfMachine, 0, 0))
	solves(t, p, 420)
	where(t, p, 50, 0)
	for i := range 7 {
		where(t, p, i, i+1)
	}
	allOK(t, p.Remove(api.OfTask, 6), p.Task(51, 0, 900), p.Prefer(51, api.OfRack, 0, 5))
	solves(t, p, 421+50+5+6*10)
	where(t, p, 50, 7)
	where(t, p, 51, 0)
}

// P8: what runs, as laid by hand elsewhere in these tests, is what a Solve leaves.
func TestSolveLeavesWhatRunOnLays(t *testing.T) {
	p, q := example(t), example(t)
	p.Tick()
	q.Tick()
	solves(t, p, 33)
	p.last = q.last
	runOn(q, 1, 6)
	runOn(q, 2, 5)
	same(t, "P8: behind a Solve", p, q)
}
