package assign

import (
	"maps"

	"assign/api"
)

// forget takes a thing out of all that is kept, whichever part it has there.
func (p *Plan) forget(t thing) {
	delete(p.things, t)
	delete(p.waited, t)
	maps.DeleteFunc(p.runs, func(task, machine thing) bool { return task == t || machine == t })
	maps.DeleteFunc(p.prefers, func(w wish, _ int) bool { return w.task == t || w.target == t })
}

// costOn: what a task costs on a machine.
func (p *Plan) costOn(task, machine thing) int {
	least := p.things[task].cost
	for _, target := range [...]thing{machine, p.things[machine].in} {
		if c, ok := p.prefers[wish{task, target}]; ok {
			least = min(least, c)
		}
	}
	if now, ok := p.runs[task]; ok && now != machine {
		return least + api.MoveCost
	}
	return least
}

// costOnNone: what a task costs if it is not placed.
func (p *Plan) costOnNone(task thing) int {
	job := p.things[task].in
	c := p.things[job].cost + p.waited[task]
	if _, ok := p.runs[task]; ok {
		return c + api.MoveCost
	}
	return c
}

// settle lets a task run on a machine, or on none if it stays at its job, and tells what that costs.
// A task that runs has waited 0 all along, so only one that comes to a machine has something to lose.
func (p *Plan) settle(task, place thing) int {
	if place.kind != machineKind {
		c := p.costOnNone(task)
		delete(p.runs, task)
		return c
	}
	c := p.costOn(task, place)
	p.runs[task] = place
	delete(p.waited, task)
	return c
}
