package assign

import (
	"math/rand"
	"reflect"
	"slices"
	"testing"

	"assign/api"
)

// asWords: the network of a plan, written down as section 'Words' of the document says it.
func asWords(t *testing.T, p *Plan) api.Net {
	t.Helper()
	racks, machines, jobs, tasks := p.all(rackKind), p.all(machineKind), p.all(jobKind), p.all(taskKind)
	node := func(first int, list []thing, x thing) int { return first + slices.Index(list, x) }
	rack := func(x thing) int { return node(2, racks, x) }
	machine := func(x thing) int { return node(2+len(racks), machines, x) }
	job := func(x thing) int { return node(2+len(racks)+len(machines), jobs, x) }
	firstTask := 2 + len(racks) + len(machines) + len(jobs)
	n := api.Net{Nodes: firstTask + len(tasks), Supply: slices.Concat(make([]int, firstTask), slices.Repeat([]int{1}, len(tasks)))}
	n.Supply[1] = -len(tasks)
	for _, x := range racks {
		n.Arcs = append(n.Arcs, arcs(0, rack(x), 1000, 0)...)
	}
	for _, x := range machines {
		slots := p.things[x].slots
		n.Arcs = append(n.Arcs, arcs(rack(p.things[x].in), machine(x), slots, 0, machine(x), 1, slots, 0)...)
	}
	for _, x := range jobs {
		n.Arcs = append(n.Arcs, arcs(job(x), 1, 16, 0)...)
	}
	for i, x := range tasks {
		from, more := firstTask+i, 0
		add := func(to, cost int) { n.Arcs = append(n.Arcs, arcs(from, to, 1, cost)...) }
		if on := at(t, p, x); on != -1 {
			more = 50
			add(machine(thing{machineKind, on}), asks(t, p, x.id, on))
		}
		add(job(p.things[x].in), asks(t, p, x.id, -1))
		for _, m := range machines {
			if c, ok := p.prefers[wish{x, m}]; ok {
				add(machine(m), c+more)
			}
		}
		for _, r := range racks {
			if c, ok := p.prefers[wish{x, r}]; ok {
				add(rack(r), c+more)
			}
		}
		add(0, p.things[x].cost+more)
	}
	return n
}

// shown: what Show tells is this network, a flow that costs this, and prices that show that none costs less.
func shown(t *testing.T, p *Plan, want api.Net, cost int) {
	t.Helper()
	n, flow, prices := p.Show()
	if n.Nodes != want.Nodes || !slices.Equal(n.Supply, want.Supply) || !slices.Equal(n.Arcs, want.Arcs) {
		t.Fatalf("P11: Show tells the network %v, want %v", n, want)
	}
	if e := Check(n, flow, prices); e != api.OK {
		t.Fatalf("P11: Check(%v, %v, %v), as is shown: %d", n, flow, prices, e)
	}
	sum := 0
	for i, a := range n.Arcs {
		sum += flow[i] * a.Cost
	}
	if sum != cost {
		t.Fatalf("P11: Show tells a flow at %d, want %d: %v, %v", sum, cost, n, flow)
	}
}

// shows: all that Show tells, in one value.
func shows(p *Plan) showing {
	n, flow, prices := p.Show()
	return showing{n, flow, prices}
}

// P11: the document's example: the network is that of the plan as it was when it was solved, with what ran then.
func TestShowExample(t *testing.T) {
	front := []int{0, 2, 1000, 0, 2, 3, 1, 0, 3, 1, 1, 0, 2, 4, 2, 0, 4, 1, 2, 0, 5, 1, 16, 0}
	net := func(numbers ...int) api.Net {
		return api.Net{Nodes: 8, Supply: []int{0, -2, 0, 0, 0, 0, 1, 1}, Arcs: arcs(slices.Concat(front, numbers)...)}
	}
	p := example(t)
	solves(t, p, 33)
	shown(t, p, net(6, 5, 1, 100, 6, 3, 1, 10, 6, 0, 1, 30, 7, 5, 1, 100, 7, 3, 1, 3, 7, 0, 1, 40), 33)
	solves(t, p, 33)
	second := net(6, 4, 1, 30, 6, 5, 1, 150, 6, 3, 1, 60, 6, 0, 1, 80, 7, 3, 1, 3, 7, 5, 1, 150, 7, 3, 1, 53, 7, 0, 1, 90)
	shown(t, p, second, 33)
	allOK(t, p.Remove(api.OfMachine, 5), p.Prefer(2, api.OfRack, 0, 7))
	p.Tick()
	p.Tick()
	shown(t, p, second, 33)
	solves(t, p, 37)
	shown(t, p, api.Net{Nodes: 7, Supply: []int{0, -2, 0, 0, 0, 1, 1}, Arcs: arcs(
		0, 2, 1000, 0, 2, 3, 2, 0, 3, 1, 2, 0, 4, 1, 16, 0,
		5, 3, 1, 30, 5, 4, 1, 150, 5, 0, 1, 80,
		6, 4, 1, 102, 6, 2, 1, 7, 6, 0, 1, 40)}, 37)
	allOK(t, p.Task(3, 0, 900))
	solves(t, p, 137)
	shown(t, p, api.Net{Nodes: 8, Supply: []int{0, -3, 0, 0, 0, 1, 1, 1}, Arcs: arcs(
		0, 2, 1000, 0, 2, 3, 2, 0, 3, 1, 2, 0, 4, 1, 16, 0,
		5, 3, 1, 30, 5, 4, 1, 150, 5, 0, 1, 80,
		6, 3, 1, 7, 6, 4, 1, 150, 6, 2, 1, 57, 6, 0, 1, 90,
		7, 4, 1, 100, 7, 0, 1, 900)}, 137)
}

// P11: ahead of the first Solve nothing is shown, whatever is there; and other plans that are solved don't change that.
func TestShowAheadOfSolve(t *testing.T) {
	p, q := full(t), example(t)
	p.Tick()
	q.Solve()
	for _, p := range []*Plan{New(), example(t), p} {
		if s := shows(p); s.net.Nodes != 0 || len(s.net.Supply)+len(s.net.Arcs)+len(s.flow)+len(s.prices) != 0 {
			t.Errorf("P11: ahead of the first Solve: %v", s)
		}
		is(t, "P11: Check of it", Check(p.Show()), api.OK)
	}
}

// P11: a plan without anything has the cluster and the sink; a plan without tasks has no flow; tasks without machines flow over their job.
func TestShowLittle(t *testing.T) {
	p := New()
	solves(t, p, 0)
	shown(t, p, api.Net{Nodes: 2, Supply: []int{0, 0}}, 0)
	allOK(t, p.Rack(99), p.Machine(0, 99, 4))
	shown(t, p, api.Net{Nodes: 2, Supply: []int{0, 0}}, 0)
	solves(t, p, 0)
	shown(t, p, api.Net{Nodes: 4, Supply: make([]int, 4), Arcs: arcs(0, 2, 1000, 0, 2, 3, 4, 0, 3, 1, 4, 0)}, 0)
	allOK(t, p.Remove(api.OfMachine, 0), p.Remove(api.OfRack, 99), p.Job(99, 1000), p.Task(99, 99, 0))
	solves(t, p, 1000)
	shown(t, p, api.Net{Nodes: 4, Supply: []int{0, -1, 0, 1}, Arcs: arcs(2, 1, 16, 0, 3, 2, 1, 1000, 3, 0, 1, 0)}, 1000)
	allOK(t, p.Remove(api.OfTask, 99), p.Remove(api.OfJob, 99))
	solves(t, p, 0)
	shown(t, p, api.Net{Nodes: 2, Supply: []int{0, 0}}, 0)
}

// P11: the arcs are told by rising ids, in whichever order things were made and preferred.
func TestShowTellsByIds(t *testing.T) {
	p := New()
	allOK(t, p.Rack(9), p.Rack(4), p.Machine(8, 4, 2), p.Machine(1, 9, 3), p.Job(7, 100), p.Job(0, 300), p.Task(3, 7, 40), p.Task(2, 0, 50),
		p.Prefer(3, api.OfRack, 9, 5), p.Prefer(3, api.OfRack, 4, 6), p.Prefer(3, api.OfMachine, 8, 7), p.Prefer(3, api.OfMachine, 1, 8))
	p.Tick()
	solves(t, p, 55)
	shown(t, p, api.Net{Nodes: 10, Supply: []int{0, -2, 0, 0, 0, 0, 0, 0, 1, 1}, Arcs: arcs(
		0, 2, 1000, 0, 0, 3, 1000, 0, 3, 4, 3, 0, 4, 1, 3, 0, 2, 5, 2, 0, 5, 1, 2, 0, 6, 1, 16, 0, 7, 1, 16, 0,
		8, 6, 1, 301, 8, 0, 1, 50,
		9, 7, 1, 101, 9, 4, 1, 8, 9, 5, 1, 7, 9, 2, 1, 6, 9, 3, 1, 5, 9, 0, 1, 40)}, 55)
}

// P11: whatever is done behind a Solve, and by whichever other plan, what is shown stays until the next.
func TestShowStays(t *testing.T) {
	r := rand.New(rand.NewSource(41))
	for i := range 100 {
		p, other := New(), New()
		for range 4 {
			for range 40 {
				someCall(r, 6, 100)(p)
			}
			solved(t, p)
			before := copied(p).last
			for range 40 {
				someCall(r, []int{6, 200}[i%2], 2000)(p)
				someCall(r, 6, 100)(other)
				other.Solve()
				if got := shows(p); !reflect.DeepEqual(got, before) {
					t.Fatalf("P11: behind the last Solve %v is shown, want %v", got, before)
				}
			}
		}
	}
}

// P2: what is shown is the caller's: neither what is shown next time nor a Solve sees what is written into it, nor is one of its lists seen in another.
func TestShowIsTheCallers(t *testing.T) {
	r := rand.New(rand.NewSource(42))
	for range 100 {
		p, q := New(), New()
		for range 8 {
			for range 20 {
				call := someCall(r, 8, 100)
				call(p)
				call(q)
			}
			spoil(t, p)
			if a, b := p.Solve(), q.Solve(); a != b {
				t.Fatalf("P2: Solve() = %d where something was written into what was shown, else %d", a, b)
			}
			spoil(t, p)
			same(t, "P2: where something was written into what was shown", p, q)
		}
	}
}

// whole: a list with its spare room.
func whole[T any](list []T) []T { return list[:cap(list)] }

// fill writes all over a list, and over its spare room.
func fill[T any](list []T, with T) {
	copy(whole(list), slices.Repeat([]T{with}, cap(list)))
}

// wholes: copies of the four lists of a showing, spare room too.
func wholes(s showing) [4]any {
	return [4]any{slices.Clone(whole(s.net.Supply)), slices.Clone(whole(s.net.Arcs)), slices.Clone(whole(s.flow)), slices.Clone(whole(s.prices))}
}

// spoil writes all over each list that is shown, and looks whether that is seen in another list, or shown.
func spoil(t *testing.T, p *Plan) {
	t.Helper()
	want := copied(p).last
	for k := range 4 {
		got := shows(p)
		before := wholes(got)
		switch k {
		case 0:
			fill(got.net.Supply, -9)
		case 1:
			fill(got.net.Arcs, api.Arc{From: -9})
		case 2:
			fill(got.flow, -9)
		case 3:
			fill(got.prices, -9)
		}
		after := wholes(got)
		after[k] = before[k]
		if !reflect.DeepEqual(after, before) {
			t.Fatalf("P2: what is written into list %d that is shown is seen in another: %v, want %v", k, after, before)
		}
		if again := shows(p); !reflect.DeepEqual(again, want) {
			t.Fatalf("P2: what is written into list %d that is shown is shown again: %v, want %v", k, again, want)
		}
	}
}
