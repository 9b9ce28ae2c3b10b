package assign

import (
	"testing"

	"assign/api"
)

// busyPlans: plans in which much can go wrong.
func busyPlans(t *testing.T) []*Plan {
	p := full(t)
	allOK(t, p.Prefer(1, api.OfMachine, 3, 5), p.Prefer(1, api.OfRack, 3, 1000), p.Prefer(15, api.OfMachine, 0, 0))
	p.Tick()
	runOn(p, 1, 3)
	runOn(p, 4, 7)
	q := example(t)
	runOn(q, 2, 5)
	q.Tick()
	r := example(t)
	r.Solve()
	allOK(t, r.Task(4, 0, 50))
	return []*Plan{New(), q, p, r}
}

// calls: every call of a plan, with three numbers as its arguments.
func calls(a, b, c int) []func(*Plan) (int, api.Errno) {
	no := func(e api.Errno) (int, api.Errno) { return 0, e }
	return []func(*Plan) (int, api.Errno){
		func(p *Plan) (int, api.Errno) { return no(p.Rack(a)) },
		func(p *Plan) (int, api.Errno) { return no(p.Machine(a, b, c)) },
		func(p *Plan) (int, api.Errno) { return no(p.Job(a, b)) },
		func(p *Plan) (int, api.Errno) { return no(p.Task(a, b, c)) },
		func(p *Plan) (int, api.Errno) { return no(p.Prefer(1, a, b, c)) },
		func(p *Plan) (int, api.Errno) { return no(p.Prefer(a, b, c, 7)) },
		func(p *Plan) (int, api.Errno) { return no(p.Remove(a, b)) },
		func(p *Plan) (int, api.Errno) { return p.Cost(a, b) },
		func(p *Plan) (int, api.Errno) { return p.Where(a) },
	}
}

// P1: at wild arguments no call panics; a refused one answers 0 beside the error and changes nothing.
func TestRefusedCallsChangeNothing(t *testing.T) {
	for _, start := range busyPlans(t) {
		for _, a := range wild {
			for _, b := range wild {
				for _, c := range wild {
					for i, call := range calls(a, b, c) {
						p := copied(start)
						n, e := call(p)
						if e == api.OK {
							continue
						}
						if n != 0 {
							t.Fatalf("P1: call %d with %d, %d, %d: %d beside the error %d", i, a, b, c, n, e)
						}
						same(t, "P1: behind a refusal", p, start)
					}
				}
			}
		}
	}
}

// P2: asking changes nothing, at all arguments.
func TestAskingChangesNothing(t *testing.T) {
	for _, p := range busyPlans(t) {
		before := copied(p)
		for _, a := range wild {
			p.Where(a)
			p.Show()
			for _, b := range wild {
				p.Cost(a, b)
			}
		}
		same(t, "P2: behind questions", p, before)
	}
}

// P2: plans know nothing of one another, and the same calls lead to the same answers.
func TestPlansAreApart(t *testing.T) {
	p, q, r := example(t), New(), example(t)
	p.Tick()
	allOK(t, p.Prefer(1, api.OfRack, 0, 1), p.Remove(api.OfTask, 2))
	same(t, "P2: another plan", q, New())
	same(t, "P2: another plan", r, example(t))
	r.Cost(1, 5)
	r.Tick()
	r.Where(1)
	allOK(t, r.Prefer(1, api.OfRack, 0, 1), r.Remove(api.OfTask, 2))
	same(t, "P2: the same calls", r, p)
	for _, a := range wild {
		for _, b := range wild {
			n, e := p.Cost(a, b)
			if m, f := r.Cost(a, b); m != n || f != e {
				t.Errorf("P2: Cost(%d, %d) = %d, %d, and in a plan alike %d, %d", a, b, n, e, m, f)
			}
		}
	}
}
