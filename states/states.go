// Package states has the events of a case as they stand, and the rules at work
// between them.
package states

import (
	"slices"

	"dossier/api"
	"dossier/graphs"
)

// State is how all events of a graph stand.
type State struct {
	events []*event // in the order of their names
	rules  []rule
}

// Begin has all events as the graph says at first.
func Begin(g graphs.Graph) *State {
	s := &State{}
	for _, e := range g.Events {
		s.events = append(s.events, &event{name: e.Name, roles: e.Roles, mark: e.First})
	}
	for _, r := range g.Rules {
		s.rules = append(s.rules, rule{kind: r.Kind, left: s.find(r.Left), right: s.find(r.Right)})
	}
	return s
}

// find answers nil where the graph has no such event.
func (s *State) find(name string) *event {
	for _, e := range s.events {
		if e.name == name {
			return e
		}
	}
	return nil
}

// Verdict is what is said to a request.
func (s *State) Verdict(role, name string) api.Verdict {
	e := s.find(name)
	switch {
	case e == nil:
		return api.Unknown
	case !slices.Contains(e.roles, role):
		return api.Barred
	case !e.mark.In:
		return api.Out
	case s.isBlocked(e):
		return api.Blocked
	}
	return api.Accepted
}

func (s *State) isBlocked(e *event) bool {
	return slices.ContainsFunc(s.rules, func(r rule) bool {
		return r.right == e && r.blocks()
	})
}

// Do has the event done. Its exclusions come ahead of its inclusions, so that
// an event which both of them name is in; and being due no more comes ahead of
// its responses, so that it may make itself due.
func (s *State) Do(name string) {
	e := s.find(name)
	if e == nil {
		return
	}
	e.finish()
	for _, kind := range [...]graphs.RuleKind{graphs.Exclusion, graphs.Inclusion, graphs.Response} {
		s.follow(e, kind)
	}
}

// follow lets the rules of one kind take effect that the event stands left in.
func (s *State) follow(e *event, kind graphs.RuleKind) {
	for _, r := range s.rules {
		if r.left == e && r.kind == kind {
			r.takeEffect()
		}
	}
}

// Mark is how an event stands, if there is one of this name.
func (s *State) Mark(name string) (api.Mark, bool) {
	e := s.find(name)
	if e == nil {
		return api.Mark{}, false
	}
	return e.mark, true
}

// Enabled has the names, in order, of the events that are accepted of the role.
func (s *State) Enabled(role string) []string {
	var names []string
	for _, e := range s.events {
		if s.Verdict(role, e.name) == api.Accepted {
			names = append(names, e.name)
		}
	}
	return names
}

// Accepting tells whether nothing is left that should still be done.
func (s *State) Accepting() bool {
	return !slices.ContainsFunc(s.events, (*event).isWanted)
}
