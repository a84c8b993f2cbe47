package states

import (
	"slices"
	"testing"

	"dossier/api"
	"dossier/graphs"
)

func begin(t *testing.T, text string) *State {
	t.Helper()
	g, fault := graphs.Read(text)
	if fault.Errno != api.OK {
		t.Fatalf("the test's own graph %q: %+v", text, fault)
	}
	return Begin(g)
}

func expectMark(t *testing.T, s *State, name string, want api.Mark) {
	t.Helper()
	if m, ok := s.Mark(name); m != want || !ok {
		t.Errorf("Mark(%q) = %+v, %v, want %+v", name, m, ok, want)
	}
}

// TestEffects has every kind of rule at work alone, on an event that it changes.
func TestEffects(t *testing.T) {
	for _, c := range []struct {
		first, sign string
		want        api.Mark
	}{
		{"", "*->", api.Mark{In: true, Due: true}},
		{"out", "->+", api.Mark{In: true}},
		{"due done", "->%", api.Mark{Due: true, Done: true}},
		{"due", "->*", api.Mark{In: true, Due: true}},
		{"due", "-><>", api.Mark{In: true, Due: true}},
	} {
		s := begin(t, "event a by r; event b by r "+c.first+"; a "+c.sign+" b;")
		s.Do("b1")
		s.Do("a")
		expectMark(t, s, "a", api.Mark{In: true, Done: true})
		expectMark(t, s, "b", c.want)
	}
}

// TestHindrances has every kind of rule beside every way in which its left event may stand.
func TestHindrances(t *testing.T) {
	blocking := map[string][]string{
		"->*":  {"", " due"},
		"-><>": {" due", " due done"},
		"*->":  nil, "->+": nil, "->%": nil,
	}
	for sign, firsts := range blocking {
		for _, first := range []string{"", " due", " done", " due done", " out", " out due", " out done", " out due done"} {
			s := begin(t, "event a by r"+first+"; event b by r; a "+sign+" b;")
			want := api.Accepted
			if slices.Contains(firsts, first) {
				want = api.Blocked
			}
			if v := s.Verdict("r", "b"); v != want {
				t.Errorf("%q%s: Verdict = %d, want %d", sign, first, v, want)
			}
		}
	}
}

func TestNoSuchEvent(t *testing.T) {
	s := begin(t, "event a by r due;")
	if m, ok := s.Mark("r"); m != (api.Mark{}) || ok {
		t.Errorf("Mark of none: %+v, %v", m, ok)
	}
	s.Do("r")
	expectMark(t, s, "a", api.Mark{In: true, Due: true})
	if v := s.Verdict("r", "r"); v != api.Unknown {
		t.Errorf("Verdict of none: %d", v)
	}
}
