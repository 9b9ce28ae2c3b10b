package assign

import (
	"testing"

	"assign/api"
)

// P4: the last cost counts, be it more or less; the first and last cost may be.
func TestPreferInThePlaceOfBefore(t *testing.T) {
	p := example(t)
	for _, c := range []int{1000, 0, 39, 7, 8} {
		allOK(t, p.Prefer(2, api.OfMachine, 5, c))
		costs(t, p, 2, 5, min(c, 40))
		costs(t, p, 2, 6, 40)
	}
	for _, c := range []int{1000, 0, 6, 39} {
		allOK(t, p.Prefer(2, api.OfRack, 0, c))
		costs(t, p, 2, 5, min(c, 8))
		costs(t, p, 2, 6, min(c, 40))
	}
	costs(t, p, 1, 5, 10)
	costs(t, p, 1, 6, 30)
}

// P4: a machine and a rack of one id are two.
func TestPreferTellsKindsApart(t *testing.T) {
	p := New()
	allOK(t, p.Rack(1), p.Rack(2), p.Machine(1, 2, 1), p.Machine(2, 1, 1), p.Job(1, 100), p.Task(1, 1, 90))
	allOK(t, p.Prefer(1, api.OfMachine, 1, 20), p.Prefer(1, api.OfRack, 1, 30))
	costs(t, p, 1, 1, 20)
	costs(t, p, 1, 2, 30)
}

// P4, P1: each wrong input, and which error is first.
func TestPreferErrors(t *testing.T) {
	p := full(t)
	allOK(t, p.Prefer(1, api.OfRack, 0, 3))
	before := copied(p)
	cases := []struct {
		task, kind, id, cost int
		want                 api.Errno
	}{
		{16, 7, 99, -1, api.ErrUnknown},
		{-1, api.OfRack, 0, 0, api.ErrUnknown},
		{100, api.OfRack, 0, 0, api.ErrUnknown},
		{1, api.OfJob, 99, -1, api.ErrKind},
		{1, api.OfJob, 0, 0, api.ErrKind},
		{1, api.OfTask, 1, 0, api.ErrKind},
		{1, 4, 0, 0, api.ErrKind},
		{1, 5, 0, 0, api.ErrKind},
		{1, -1, 0, 0, api.ErrKind},
		{1, 1 << 32, 0, 0, api.ErrKind},
		{1, api.OfMachine, 8, -1, api.ErrUnknown},
		{1, api.OfRack, 4, 1001, api.ErrUnknown},
		{1, api.OfRack, -1, 0, api.ErrUnknown},
		{1, api.OfMachine, -1, 0, api.ErrUnknown},
		{1, api.OfMachine, 7, -1, api.ErrRange},
		{1, api.OfMachine, 7, 1001, api.ErrRange},
		{1, api.OfRack, 0, -1, api.ErrRange},
		{1, api.OfRack, 0, 1001, api.ErrRange},
	}
	for _, c := range cases {
		if e := p.Prefer(c.task, c.kind, c.id, c.cost); e != c.want {
			t.Errorf("P4: Prefer(%d, %d, %d, %d) = %d, want %d", c.task, c.kind, c.id, c.cost, e, c.want)
		}
	}
	same(t, "P1: behind refusals", p, before)
}
