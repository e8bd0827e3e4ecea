package steptest

import (
	"slices"
	"strconv"

	"worksteal/api"
	"worksteal/machine"
)

// Result is the code and the value of a machine that is done.
type Result struct{ Code, Value int }

// Actor runs machines one after another: those that are left, the first of which may be at work, and the results of those that are done. It keeps the accesses of the one at work with their times, on which alone depends what this machine does next.
type Actor struct {
	Left     []machine.Machine
	Results  []Result
	accesses string
}

// Scene is actors in one environment.
type Scene struct {
	Env    *machine.Env
	Actors []Actor
}

// Play returns a scene in which each actor has machines to run.
func Play(e *machine.Env, left ...[]machine.Machine) Scene {
	s := Scene{Env: e}
	for _, l := range left {
		s.Actors = append(s.Actors, Actor{Left: l})
	}
	return s
}

// Step returns the scene behind a step of an actor that has machines left. The scene itself stays as it is.
func (s Scene) Step(i int) Scene {
	c := Scene{s.Env.Copy(), slices.Clone(s.Actors)}
	c.Actors[i] = s.Actors[i].step(c.Env)
	return c
}

// step returns an actor behind a step in an environment.
func (a Actor) step(e *machine.Env) Actor {
	x, count := a.Left[0].Copy(), e.Memory.Count()
	done := x.Step(e)
	if done {
		code, value := x.Result()
		return Actor{Left: a.Left[1:], Results: append(slices.Clone(a.Results), Result{code, value})}
	}
	var last api.Access
	if e.Memory.Count() > count {
		last = e.Memory.Last()
	}
	a.accesses += digits(last.Kind, last.Cell, int(last.Old), int(last.New), e.Clock.Now())
	a.Left = append([]machine.Machine{x}, a.Left[1:]...)
	return a
}

// digits returns numbers as a text.
func digits(l ...int) string {
	text := ""
	for _, v := range l {
		text += strconv.Itoa(v) + " "
	}
	return text + ";"
}

// Over reports whether no actor of a scene has a machine left.
func (s Scene) Over() bool {
	return !slices.ContainsFunc(s.Actors, func(a Actor) bool { return len(a.Left) > 0 })
}

// key returns a text on which depends all that can follow, and all that has come of the machines so far.
func (s Scene) key() string {
	key := digits(s.Env.Clock.Now())
	for _, v := range s.Env.Memory.Cells() {
		key += digits(int(v))
	}
	for _, r := range s.Env.Records {
		key += digits(r.Prog, r.Parent, r.PC, r.Left, r.Waiting) + digits(r.Kids...) + strconv.FormatBool(r.Started)
	}
	for _, v := range s.Env.Events {
		key += digits(v.Kind, v.Worker, v.Task, v.Other, v.Level)
	}
	for _, a := range s.Actors {
		key += digits(len(a.Left)) + a.accesses
		for _, r := range a.Results {
			key += digits(r.Code, r.Value)
		}
	}
	return key
}

// Orders plays all orders of the steps of the actors of a scene, and calls look for each scene that there is on the way. What was seen is not played again.
func Orders(s Scene, look func(s Scene)) { orders(s, map[string]bool{}, look) }

// orders plays all orders of the steps of a scene that was not seen.
func orders(s Scene, seen map[string]bool, look func(s Scene)) {
	key := s.key()
	if seen[key] {
		return
	}
	seen[key] = true
	look(s)
	for i, a := range s.Actors {
		if len(a.Left) > 0 {
			orders(s.Step(i), seen, look)
		}
	}
}

// Order plays one order of the steps of the actors of a scene that looks like none, and returns the end. Some actors go on for a while, and others wait for long.
func Order(s Scene, some func(n int) int) Scene {
	for !s.Over() {
		i := some(len(s.Actors))
		for n := 1 + some(4); n > 0 && len(s.Actors[i].Left) > 0; n-- {
			s = s.Step(i)
		}
	}
	return s
}
