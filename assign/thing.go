package assign

import (
	"cmp"
	"slices"

	"assign/api"
)

// nodeKind: of what kind a thing is, or a node of the network.
type nodeKind int

// The first four count as api's numbers do, so that a kind that is handed in needs no table.
const (
	rackKind nodeKind = iota
	machineKind
	jobKind
	taskKind
	clusterKind
	sinkKind
)

// thing: whatever has a kind and an id; each kind has ids of its own, so only both together name it.
type thing struct {
	kind nodeKind
	id   int
}

// wish: a task, and the machine or rack that it prefers.
type wish struct {
	task, target thing
}

// facts: what was said of a thing when it was made.
type facts struct {
	in    thing // of a machine its rack, of a task its job, of others the cluster
	slots int   // of a machine
	cost  int   // of a job its base cost, of a task its cost for any machine
}

// isCost: whether a number may be a cost.
func isCost(n int) bool {
	return 0 <= n && n <= api.MaxCost
}

// has: whether there is such a thing.
func (p *Plan) has(t thing) bool {
	_, ok := p.things[t]
	return ok
}

// all: the things of a kind by rising ids, for a map has no order of its own.
func (p *Plan) all(k nodeKind) []thing {
	var found []thing
	for t := range p.things {
		if t.kind == k {
			found = append(found, t)
		}
	}
	slices.SortFunc(found, func(a, b thing) int { return cmp.Compare(a.id, b.id) })
	return found
}

// room: whether a new thing may come, if there may be so many of its kind.
func (p *Plan) room(t thing, most int) api.Errno {
	switch {
	case t.id < 0 || t.id > api.MaxID:
		return api.ErrID
	case p.has(t):
		return api.ErrTaken
	case len(p.all(t.kind)) >= most:
		return api.ErrLimit
	}
	return api.OK
}

// busy: whether another thing lies in this one, or belongs to it.
func (p *Plan) busy(t thing) bool {
	for _, f := range p.things {
		if f.in == t {
			return true
		}
	}
	return false
}
