package assign

import (
	"testing"

	"assign/api"
)

// P6: a tick counts for each task that runs on none, up to the hundredth.
func TestTick(t *testing.T) {
	p := example(t)
	allOK(t, p.Task(3, 0, 1000))
	runOn(p, 3, 6)
	for n := 1; n <= 99; n++ {
		p.Tick()
		costs(t, p, 1, -1, 100+n)
	}
	allOK(t, p.Task(4, 0, 0))
	p.Tick()
	costs(t, p, 1, -1, 200)
	costs(t, p, 2, -1, 200)
	costs(t, p, 4, -1, 101)
	p.Tick()
	costs(t, p, 1, -1, 200)
	costs(t, p, 2, -1, 200)
	costs(t, p, 4, -1, 102)
	costs(t, p, 3, -1, 150)
	costs(t, p, 1, 5, 10)
	runOn(p, 1, 5)
	p.Tick()
	costs(t, p, 1, -1, 150)
}

// P6: without tasks a tick does nothing.
func TestTickWithoutTasks(t *testing.T) {
	p := New()
	p.Tick()
	same(t, "P6: an empty plan", p, New())
	allOK(t, p.Job(0, 0), p.Task(0, 0, 0))
	costs(t, p, 0, -1, 0)
}

// P7: the least of the three costs, whichever it is.
func TestCostIsTheLeast(t *testing.T) {
	for _, c := range []struct{ any, machine, rack, want int }{
		{1, 2, 3, 1}, {2, 1, 3, 1}, {3, 2, 1, 1}, {2, 3, 1, 1}, {3, 1, 2, 1}, {0, 1000, 1000, 0}, {1000, 0, 1000, 0}, {1000, 1000, 0, 0}, {5, 5, 5, 5},
	} {
		p := New()
		allOK(t, p.Rack(1), p.Machine(2, 1, 1), p.Machine(3, 1, 1), p.Rack(4), p.Machine(5, 4, 1), p.Job(0, 1000), p.Task(0, 0, c.any))
		allOK(t, p.Prefer(0, api.OfMachine, 2, c.machine), p.Prefer(0, api.OfRack, 1, c.rack))
		costs(t, p, 0, 2, c.want)
		costs(t, p, 0, 3, min(c.any, c.rack))
		costs(t, p, 0, 5, c.any)
		costs(t, p, 0, -1, 1000)
	}
}

// P7: MoveCost comes on top where a task that runs would leave its machine, and nowhere else.
func TestCostOfMoving(t *testing.T) {
	p := example(t)
	allOK(t, p.Job(1, 1000), p.Task(9, 1, 1000), p.Prefer(1, api.OfRack, 0, 20))
	runOn(p, 1, 6)
	runOn(p, 9, 5)
	costs(t, p, 1, 6, 20)
	costs(t, p, 1, 5, 60)
	costs(t, p, 1, -1, 150)
	costs(t, p, 9, 5, 1000)
	costs(t, p, 9, 6, 1050)
	costs(t, p, 9, -1, 1050)
	costs(t, p, 2, 5, 3)
	costs(t, p, 2, 6, 40)
	costs(t, p, 2, -1, 100)
	where(t, p, 1, 6)
	where(t, p, 9, 5)
	where(t, p, 2, -1)
}

// P7: no such task, no such machine; what stands beside the error is 0.
func TestTellErrors(t *testing.T) {
	p := example(t)
	allOK(t, p.Task(0, 0, 9))
	runOn(p, 1, 5)
	for _, c := range []struct{ task, machine int }{{5, 5}, {5, -1}, {-1, -1}, {100, 6}, {1, 0}, {1, 1}, {1, -2}, {1, 100}, {5, 0}, {wild[0], wild[0]}, {1, wild[0]}, {1, wild[len(wild)-1]}} {
		if n, e := p.Cost(c.task, c.machine); n != 0 || e != api.ErrUnknown {
			t.Errorf("P7: Cost(%d, %d) = %d, %d", c.task, c.machine, n, e)
		}
	}
	for _, task := range []int{5, 6, -1, 100, wild[0], wild[len(wild)-1]} {
		if n, e := p.Where(task); n != 0 || e != api.ErrUnknown {
			t.Errorf("P7: Where(%d) = %d, %d", task, n, e)
		}
	}
}
