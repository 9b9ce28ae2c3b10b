package assign

import (
	"math/rand"
	"testing"

	"assign/api"
)

// least: what the cheapest placing costs, found without a network: for each way to fill the machines, counted as the digits of one number, the least at which the tasks so far can fill them so.
func least(t *testing.T, p *Plan) int {
	t.Helper()
	const never = 1 << 40
	machines, size := p.all(machineKind), 1
	for _, m := range machines {
		size *= p.things[m].slots + 1
	}
	best := make([]int, size)
	for i := range best {
		best[i] = never
	}
	best[0] = 0
	for _, task := range p.all(taskKind) {
		next := make([]int, size)
		for i := range best {
			next[i] = best[i] + asks(t, p, task.id, -1)
		}
		unit := 1
		for _, m := range machines {
			slots, c := p.things[m].slots, asks(t, p, task.id, m.id)
			for i := range best {
				if i/unit%(slots+1) < slots {
					next[i+unit] = min(next[i+unit], best[i]+c)
				}
			}
			unit *= slots + 1
		}
		best = next
	}
	found := never
	for _, c := range best {
		found = min(found, c)
	}
	return found
}

// asks: what a task costs on a machine that is there, or on none.
func asks(t *testing.T, p *Plan, task, machine int) int {
	t.Helper()
	c, e := p.Cost(task, machine)
	if e != api.OK {
		t.Fatalf("Cost(%d, %d): %d", task, machine, e)
	}
	return c
}

// waits: what a task has waited, seen by what it costs on none.
func waits(t *testing.T, p *Plan, task thing) int {
	t.Helper()
	c := asks(t, p, task.id, -1) - p.things[p.things[task].in].cost
	if at(t, p, task) != -1 {
		c -= api.MoveCost
	}
	return c
}

// at: on which machine a task runs, or -1.
func at(t *testing.T, p *Plan, task thing) int {
	t.Helper()
	m, e := p.Where(task.id)
	if e != api.OK {
		t.Fatalf("Where(%d): %d", task.id, e)
	}
	return m
}

// solved: what a Solve answers, held against all that P8 says; and what is shown behind it, against P11.
func solved(t *testing.T, p *Plan) int {
	t.Helper()
	before, want := copied(p), least(t, p)
	got, sum := p.Solve(), 0
	if got != want {
		t.Fatalf("P8: Solve() = %d, but the least is %d: %v", got, want, *before)
	}
	used := map[int]int{}
	for _, task := range p.all(taskKind) {
		m := at(t, p, task)
		used[m]++
		sum += asks(t, before, task.id, m)
		waited := waits(t, before, task)
		if m != -1 || at(t, before, task) != -1 {
			waited = 0
		}
		if w := waits(t, p, task); w != waited {
			t.Fatalf("P8: task %d has waited %d, want %d: %v", task.id, w, waited, *before)
		}
	}
	if sum != got {
		t.Fatalf("P8: Solve() = %d, but where the tasks are they cost %d: %v", got, sum, *before)
	}
	for _, m := range p.all(machineKind) {
		if used[m.id] > p.things[m].slots {
			t.Fatalf("P8: %d tasks on machine %d: %v", used[m.id], m.id, *before)
		}
	}
	unchanged := copied(p)
	unchanged.runs, unchanged.waited, unchanged.last = before.runs, before.waited, before.last
	same(t, "P8: but for what runs and waits, and what is shown", unchanged, before)
	shown(t, p, asWords(t, before), got)
	return got
}

// someCall: a call that changes something, with arguments that mostly are right; the same call each time it is made.
func someCall(r *rand.Rand, ids, most int) func(p *Plan) {
	a, b, c, cost := r.Intn(ids), r.Intn(ids), r.Intn(ids), r.Intn(most+1)
	switch r.Intn(16) {
	case 0:
		return func(p *Plan) { p.Rack(a) }
	case 1, 2:
		return func(p *Plan) { p.Machine(a, b, 1+c%2) }
	case 3:
		return func(p *Plan) { p.Job(a, cost) }
	case 4, 5, 6, 7:
		return func(p *Plan) { p.Task(a, b, cost) }
	case 8, 9, 10, 11, 12:
		return func(p *Plan) { p.Prefer(a, b%2, c, cost) }
	case 13:
		return func(p *Plan) { p.Remove(a%4, b) }
	}
	return func(p *Plan) { p.Tick() }
}

// P8: plans as they come, solved again and again while things come and go: with few ids (much is taken away and made anew) and with many, with costs that are often the same and with costs of all sorts.
func TestSolveAsThingsComeAndGo(t *testing.T) {
	r := rand.New(rand.NewSource(21))
	moved, off, placed := 0, 0, 0
	for i := range 400 {
		p := New()
		ids, most := []int{3, 5, 16}[i%3], []int{3, 60, 200, 1000}[i%4]
		for range 40 {
			for range r.Intn(12) {
				someCall(r, ids, most)(p)
			}
			before := copied(p)
			solved(t, p)
			for _, task := range p.all(taskKind) {
				switch was, now := at(t, before, task), at(t, p, task); {
				case was != -1 && now == -1:
					off++
				case was == -1 && now != -1:
					placed++
				case was != now:
					moved++
				}
			}
		}
	}
	if moved < 100 || off < 100 || placed < 1000 {
		t.Errorf("too little came to pass: %d tasks moved, %d were taken off, %d placed", moved, off, placed)
	}
}

// P8: as many racks, machines, jobs and tasks as may be, with as much preferred as may be, at costs up to the greatest.
func TestSolveTheGreatest(t *testing.T) {
	r := rand.New(rand.NewSource(22))
	for i := range 12 {
		p := New()
		for k := range api.MaxRacks {
			allOK(t, p.Rack(k), p.Job(k, r.Intn(api.MaxCost+1)))
		}
		for k := range api.MaxMachines {
			allOK(t, p.Machine(k, r.Intn(api.MaxRacks), 1+r.Intn([]int{1, 2, 2, api.MaxSlots}[i%4])))
		}
		for k := range api.MaxTasks {
			allOK(t, p.Task(k, r.Intn(api.MaxJobs), r.Intn(api.MaxCost+1)))
		}
		for range 4 {
			for task := range api.MaxTasks {
				for k := range api.MaxMachines {
					allOK(t, p.Prefer(task, api.OfMachine, k, r.Intn([]int{3, 100, 1001}[i%3])))
				}
				for k := range api.MaxRacks {
					allOK(t, p.Prefer(task, api.OfRack, k, r.Intn([]int{3, 100, 1001}[i%3])))
				}
			}
			solved(t, p)
			p.Tick()
		}
	}
}

// P2: the same calls find the same placing, whatever is asked in between, and whatever other plans do.
func TestSolveFindsTheSame(t *testing.T) {
	r := rand.New(rand.NewSource(23))
	for range 60 {
		var plans [4]*Plan
		for i := range plans {
			plans[i] = New()
		}
		other := New()
		for range 120 {
			call := someCall(r, 8, 2)
			if r.Intn(6) == 0 {
				call = func(p *Plan) { p.Solve() }
			}
			for i, p := range plans {
				call(p)
				for range i {
					p.Cost(r.Intn(8), r.Intn(9)-1)
					p.Where(r.Intn(8))
					Check(p.Show())
					someCall(r, 8, 2)(other)
					other.Solve()
				}
			}
		}
		for _, p := range plans[1:] {
			same(t, "P2: the same calls", p, plans[0])
		}
	}
}
