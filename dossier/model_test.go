package dossier_test

import (
	"maps"
	"slices"
	"strings"
	"testing"

	"dossier/api"
	"dossier/dossier"
)

// set holds names of events.
type set map[string]bool

// model goes by the document's words in sets of events, read from a written graph.
type model struct {
	roles         map[string][]string
	in, due, done set
	rules         map[string][][2]string // by sign: the left and the right event
}

func newModel(written string) *model {
	m := &model{roles: map[string][]string{}, in: set{}, due: set{}, done: set{}, rules: map[string][][2]string{}}
	for line := range strings.Lines(written) {
		words := strings.Fields(strings.NewReplacer(",", " ", ";", " ").Replace(line))
		if words[0] == "event" {
			m.define(words[1], words[3:])
		} else {
			m.rules[words[1]] = append(m.rules[words[1]], [2]string{words[0], words[2]})
		}
	}
	return m
}

func (m *model) define(name string, behindBy []string) {
	m.in[name] = true
	for _, word := range behindBy {
		switch word {
		case "out":
			m.in[name] = false
		case "due":
			m.due[name] = true
		case "done":
			m.done[name] = true
		default:
			m.roles[name] = append(m.roles[name], word)
		}
	}
}

func (m *model) verdict(role, event string) api.Verdict {
	if m.roles[event] == nil {
		return api.Unknown
	}
	if !slices.Contains(m.roles[event], role) {
		return api.Barred
	}
	if !m.in[event] {
		return api.Out
	}
	for _, pair := range m.rules["->*"] {
		if pair[1] == event && m.in[pair[0]] && !m.done[pair[0]] {
			return api.Blocked
		}
	}
	for _, pair := range m.rules["-><>"] {
		if pair[1] == event && m.in[pair[0]] && m.due[pair[0]] {
			return api.Blocked
		}
	}
	return api.Accepted
}

func (m *model) do(event string) {
	m.done[event], m.due[event] = true, false
	for _, pair := range m.rules["->%"] {
		m.in[pair[1]] = m.in[pair[1]] && pair[0] != event
	}
	for _, pair := range m.rules["->+"] {
		m.in[pair[1]] = m.in[pair[1]] || pair[0] == event
	}
	for _, pair := range m.rules["*->"] {
		m.due[pair[1]] = m.due[pair[1]] || pair[0] == event
	}
}

func (m *model) enabled(role string) []string {
	var names []string
	for _, name := range slices.Sorted(maps.Keys(m.roles)) {
		if m.verdict(role, name) == api.Accepted {
			names = append(names, name)
		}
	}
	return names
}

func (m *model) accepting() bool {
	for name := range m.roles {
		if m.in[name] && m.due[name] {
			return false
		}
	}
	return true
}

// expectLike looks at all that the case tells of how it stands.
func (k *kept) expectLike(m *model, role string) {
	k.t.Helper()
	for name := range m.roles {
		want := api.Mark{Done: m.done[name], In: m.in[name], Due: m.due[name]}
		if got, e := k.Mark(name); got != want || e != api.OK {
			k.t.Errorf("Mark(%q) = %+v, %d, want %+v", name, got, e, want)
		}
	}
	k.expectEnabled(role, m.enabled(role)...)
	k.expectAccepting(m.accepting())
	k.expectHead()
}

// walk sets a case and its model the same requests.
func walk(t testing.TB, graph string, requests [][2]string) {
	t.Helper()
	k := begin(t, graph)
	m := newModel(string(k.log[4 : len(k.log)-4]))
	for _, r := range requests {
		role, event := r[0], r[1]
		k.expectLike(m, role)
		if len(role) > api.MaxName || len(event) > api.MaxName {
			k.refused(role, event, api.ErrLong)
			continue
		}
		if len(k.log)+16+len(role)+len(event) > api.MaxLog {
			k.refused(role, event, api.ErrFull)
			continue
		}
		verdict := m.verdict(role, event)
		record := k.ask(role, event, verdict)
		k.expectLike(m, role)
		k.refused(role, event, api.ErrBusy)
		if e := k.Settle(); e != api.OK {
			t.Fatalf("Settle = %d", e)
		}
		k.log, k.number = append(k.log, record...), k.number+1
		if verdict == api.Accepted {
			m.do(event)
		}
	}
	k.expectLike(m, "r")
	if t.Failed() {
		t.Fatalf("in a case of %q, requests %q", graph, requests)
	}
}

// dice throws numbers that are the same in every run.
type dice uint32

func (d *dice) throw(n int) int {
	*d = *d*1664525 + 1013904223
	return int(*d>>8) % n
}

func (d *dice) oneOf(list ...string) string { return list[d.throw(len(list))] }

func (d *dice) graph(events []string) string {
	text := ""
	for _, name := range events {
		text += "event " + name + " by " + d.oneOf("r", "s", "r, s") + d.oneOf("", "", " out") + d.oneOf("", "", " due") + d.oneOf("", "", " done") + ";"
	}
	for range d.throw(15) {
		text += d.oneOf(events...) + d.oneOf("->*", "-><>", "*->", "->+", "->%") + d.oneOf(events...) + ";"
	}
	return text
}

func TestP8RandomCases(t *testing.T) {
	d := dice(1)
	names := []string{"a", "b", "c", "d", "e"}
	for range 400 {
		graph := d.graph(names[:1+d.throw(len(names))])
		var requests [][2]string
		for range 1 + d.throw(150) {
			requests = append(requests, [2]string{d.oneOf("r", "s", "r", "s", "t"), d.oneOf(append(names, "x", "abcdefgh")...)})
		}
		walk(t, graph, requests)
	}
}

// FuzzP1Case: any text for a graph, and lines of a role and an event for requests.
func FuzzP1Case(f *testing.F) {
	f.Add(loan, "client apply\nclerk check\nboss pay\nboss deny\n")
	f.Add("event a by r due; a *-> a; a ->% a;", "r a\nr a\n\n \nabcdefghi a\n")
	f.Add("event a by out;", "out a")
	f.Fuzz(func(t *testing.T, graph, lines string) {
		_, e, _ := dossier.Print(graph)
		if e != api.OK {
			if c, head, got := dossier.New(graph); c != nil || head != nil || got != e {
				t.Errorf("New(%q): %v, %q, %d, want %d", graph, c, head, got, e)
			}
			return
		}
		var requests [][2]string
		for line := range strings.Lines(lines) {
			role, event, _ := strings.Cut(strings.TrimSuffix(line, "\n"), " ")
			requests = append(requests, [2]string{role, event})
		}
		walk(t, graph, requests)
	})
}
