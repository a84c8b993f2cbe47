// Package graphs reads the text of a graph and writes it in order.
package graphs

import (
	"cmp"
	"slices"
	"strings"

	"dossier/api"
)

// RuleKind is what a rule does. The kinds are counted in the order in which
// rules between the same two events are written.
type RuleKind uint8

const (
	Condition RuleKind = iota
	Milestone
	Response
	Inclusion
	Exclusion
)

var signs = [...]string{
	Condition: "->*",
	Milestone: "-><>",
	Response:  "*->",
	Inclusion: "->+",
	Exclusion: "->%",
}

// Event is a line that defines an event; First is how it stands at first.
type Event struct {
	Name  string
	Roles []string
	First api.Mark
}

// Rule is a line that sets a rule between two events.
type Rule struct {
	Left, Right string
	Kind        RuleKind
}

// Graph has its events, their roles and its rules in order, each rule once.
type Graph struct {
	Events []Event
	Rules  []Rule
}

// Fault is why a text is refused, and at which byte.
type Fault struct {
	Errno api.Errno
	At    int
}

// Read takes a graph from its text. Its Fault has the Errno OK if the text is
// one of a graph whose written form, too, is within its bound. The graph is cut
// from a copy, so that it may be kept whatever becomes of the text.
func Read(text string) (Graph, Fault) {
	if len(text) > api.MaxText {
		return Graph{}, Fault{Errno: api.ErrLong}
	}
	r := newReader(strings.Clone(text))
	r.lines()
	if r.fault.Errno == api.OK {
		r.fault = wrongName(r.uses)
	}
	if r.fault.Errno != api.OK {
		return Graph{}, r.fault
	}
	g := r.graph
	g.putInOrder()
	if len(g.Text()) > api.MaxText {
		return Graph{}, Fault{Errno: api.ErrLong}
	}
	return g, Fault{}
}

func (g *Graph) putInOrder() {
	slices.SortFunc(g.Events, func(a, b Event) int { return strings.Compare(a.Name, b.Name) })
	for _, e := range g.Events {
		slices.Sort(e.Roles)
	}
	slices.SortFunc(g.Rules, compareRules)
	g.Rules = slices.Compact(g.Rules)
}

func compareRules(a, b Rule) int {
	return cmp.Or(
		strings.Compare(a.Left, b.Left),
		strings.Compare(a.Right, b.Right),
		cmp.Compare(a.Kind, b.Kind),
	)
}

// Text is the graph as it is written.
func (g Graph) Text() string {
	var b strings.Builder
	for _, e := range g.Events {
		b.WriteString(e.line())
	}
	for _, r := range g.Rules {
		b.WriteString(r.line())
	}
	return b.String()
}

func (e Event) line() string {
	line := "event " + e.Name + " by " + strings.Join(e.Roles, ", ")
	if !e.First.In {
		line += " out"
	}
	if e.First.Due {
		line += " due"
	}
	if e.First.Done {
		line += " done"
	}
	return line + ";\n"
}

func (r Rule) line() string {
	return r.Left + " " + signs[r.Kind] + " " + r.Right + ";\n"
}
