package assign

import (
	"slices"
	"testing"

	"assign/api"
)

func TestKindsCountAsApiDoes(t *testing.T) {
	for want, got := range []nodeKind{api.OfRack: rackKind, api.OfMachine: machineKind, api.OfJob: jobKind, api.OfTask: taskKind, 4: clusterKind, 5: sinkKind} {
		if int(got) != want {
			t.Errorf("kind %d counts as %d", want, got)
		}
	}
}

// Whatever is told is told in the order of ids, however it was made.
func TestAllByRisingIds(t *testing.T) {
	p := New()
	allOK(t, p.Job(7, 0))
	for _, id := range []int{50, 3, 99, 0, 12, 98, 7, 1} {
		allOK(t, p.Task(id, 7, 0))
	}
	var got []int
	for _, x := range p.all(taskKind) {
		got = append(got, x.id)
	}
	if want := []int{0, 1, 3, 7, 12, 50, 98, 99}; !slices.Equal(got, want) {
		t.Errorf("the tasks are %v, want %v", got, want)
	}
}

// P3: the first and last id, cost and number of slots; one id for a thing of each kind.
func TestMakeAtTheEdges(t *testing.T) {
	p := New()
	allOK(t, p.Rack(0), p.Rack(99), p.Machine(0, 99, 1), p.Machine(99, 0, 4))
	allOK(t, p.Job(0, 0), p.Job(99, 1000), p.Task(0, 99, 0), p.Task(99, 0, 1000))
	costs(t, p, 0, -1, 1000)
	costs(t, p, 99, -1, 0)
	costs(t, p, 0, 99, 0)
	costs(t, p, 99, 0, 1000)
	for id, want := range map[int]facts{0: {in: thing{rackKind, 99}, slots: 1}, 99: {in: thing{rackKind, 0}, slots: 4}} {
		if got := p.things[thing{machineKind, id}]; got != want {
			t.Errorf("P3: machine %d is %v, want %v", id, got, want)
		}
	}
}

// P3: what a task is that has just been made, also if one of its id was there before.
func TestMakeTaskAnew(t *testing.T) {
	p := example(t)
	p.Tick()
	allOK(t, p.Prefer(1, api.OfRack, 0, 1))
	runOn(p, 2, 5)
	for _, id := range []int{1, 2} {
		allOK(t, p.Remove(api.OfTask, id), p.Task(id, 0, 77))
	}
	allOK(t, p.Task(3, 0, 77))
	for _, id := range []int{1, 2, 3} {
		where(t, p, id, -1)
		costs(t, p, id, -1, 100)
		costs(t, p, id, 5, 77)
		costs(t, p, id, 6, 77)
	}
}

// P3: as many as may be, not one more, and again one behind a Remove; no kind counts for another.
func TestLimits(t *testing.T) {
	kinds := []struct {
		kind, most int
		add        func(p *Plan, id int) api.Errno
	}{
		{api.OfRack, 4, func(p *Plan, id int) api.Errno { return p.Rack(id) }},
		{api.OfMachine, 8, func(p *Plan, id int) api.Errno { return p.Machine(id, 50, 1) }},
		{api.OfJob, 4, func(p *Plan, id int) api.Errno { return p.Job(id, 0) }},
		{api.OfTask, 16, func(p *Plan, id int) api.Errno { return p.Task(id, 50, 0) }},
	}
	p := New()
	allOK(t, p.Rack(50), p.Job(50, 0))
	for _, k := range kinds {
		have := 0
		if k.kind == api.OfRack || k.kind == api.OfJob {
			have = 1
		}
		for id := have; id < k.most; id++ {
			is(t, "P3: below the limit", k.add(p, id), api.OK)
		}
		is(t, "P3: behind the limit", k.add(p, 99), api.ErrLimit)
		allOK(t, p.Remove(k.kind, 1), k.add(p, 99))
		is(t, "P3: behind the limit again", k.add(p, 98), api.ErrLimit)
	}
}

// P3: each wrong input, in a plan that has room.
func TestMakeErrors(t *testing.T) {
	p := example(t)
	before := copied(p)
	for _, id := range []int{-1, 100, wild[0], wild[len(wild)-1]} {
		is(t, "P3: Rack", p.Rack(id), api.ErrID)
		is(t, "P3: Machine", p.Machine(id, 0, 1), api.ErrID)
		is(t, "P3: Job", p.Job(id, 1), api.ErrID)
		is(t, "P3: Task", p.Task(id, 0, 1), api.ErrID)
		is(t, "P3: Machine in no rack", p.Machine(7, id, 1), api.ErrUnknown)
		is(t, "P3: Task of no job", p.Task(7, id, 1), api.ErrUnknown)
	}
	is(t, "P3: Rack", p.Rack(0), api.ErrTaken)
	is(t, "P3: Machine", p.Machine(5, 0, 1), api.ErrTaken)
	is(t, "P3: Job", p.Job(0, 1), api.ErrTaken)
	is(t, "P3: Task", p.Task(1, 0, 1), api.ErrTaken)
	is(t, "P3: Machine in what is no rack's id", p.Machine(7, 5, 1), api.ErrUnknown)
	is(t, "P3: Task of what is no job's id", p.Task(7, 1, 1), api.ErrUnknown)
	for _, n := range []int{wild[0], -1, 0, 5, wild[len(wild)-1]} {
		is(t, "P3: Machine", p.Machine(7, 0, n), api.ErrRange)
	}
	for _, n := range []int{wild[0], -1, 1001, wild[len(wild)-1]} {
		is(t, "P3: Job", p.Job(7, n), api.ErrRange)
		is(t, "P3: Task", p.Task(7, 0, n), api.ErrRange)
	}
	same(t, "P1: behind refusals", p, before)
}

// P1: of several errors of P3 the first that is named.
func TestMakeErrorsInOrder(t *testing.T) {
	p := full(t)
	before := copied(p)
	is(t, "ErrID ahead of ErrLimit", p.Rack(100), api.ErrID)
	is(t, "ErrTaken ahead of ErrLimit", p.Rack(3), api.ErrTaken)
	is(t, "ErrID ahead of the rest", p.Machine(-1, 9, 9), api.ErrID)
	is(t, "ErrTaken ahead of the rest", p.Machine(7, 9, 9), api.ErrTaken)
	is(t, "ErrLimit ahead of the rest", p.Machine(8, 9, 9), api.ErrLimit)
	is(t, "ErrID ahead of the rest", p.Job(100, -1), api.ErrID)
	is(t, "ErrTaken ahead of the rest", p.Job(3, -1), api.ErrTaken)
	is(t, "ErrLimit ahead of ErrRange", p.Job(4, -1), api.ErrLimit)
	is(t, "ErrID ahead of the rest", p.Task(-1, 9, -1), api.ErrID)
	is(t, "ErrTaken ahead of the rest", p.Task(15, 9, -1), api.ErrTaken)
	is(t, "ErrLimit ahead of the rest", p.Task(16, 9, -1), api.ErrLimit)
	same(t, "P1: behind refusals", p, before)
	p = example(t)
	is(t, "ErrUnknown ahead of ErrRange", p.Machine(7, 9, 9), api.ErrUnknown)
	is(t, "ErrUnknown ahead of ErrRange", p.Task(7, 9, -1), api.ErrUnknown)
}
