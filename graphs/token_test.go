package graphs

import (
	"slices"
	"testing"
)

// kindsOf scans a text to its end.
func kindsOf(text string) (kinds []tokenKind, places []int) {
	for t := scan(text, 0); ; t = scan(text, t.at+len(t.text)) {
		kinds, places = append(kinds, t.kind), append(places, t.at)
		if t.kind == textEnd {
			return kinds, places
		}
	}
}

func TestScan(t *testing.T) {
	for _, c := range []struct {
		text   string
		kinds  []tokenKind
		places []int
	}{
		{"", []tokenKind{textEnd}, []int{0}},
		{" \t\n", []tokenKind{textEnd}, []int{3}},
		{"event by out due done", []tokenKind{eventWord, byWord, outWord, dueWord, doneWord, textEnd}, []int{0, 6, 9, 13, 17, 21}},
		{"events by1 outdue", []tokenKind{nameWord, nameWord, nameWord, textEnd}, []int{0, 7, 11, 17}},
		{"a1b,;", []tokenKind{nameWord, comma, semicolon, textEnd}, []int{0, 3, 4, 5}},
		{"1a", []tokenKind{stray, nameWord, textEnd}, []int{0, 1, 2}},
		{"a*->*b", []tokenKind{nameWord, ruleSign, stray, nameWord, textEnd}, []int{0, 1, 4, 5, 6}},
		{"->*->", []tokenKind{ruleSign, stray, stray, textEnd}, []int{0, 3, 4, 5}},
		{"-><", []tokenKind{stray, stray, stray, textEnd}, []int{0, 1, 2, 3}},
		{"aB", []tokenKind{nameWord, stray, textEnd}, []int{0, 1, 2}},
	} {
		kinds, places := kindsOf(c.text)
		if !slices.Equal(kinds, c.kinds) || !slices.Equal(places, c.places) {
			t.Errorf("scan of %q: kinds %v at %v, want %v at %v", c.text, kinds, places, c.kinds, c.places)
		}
	}
}

func TestSigns(t *testing.T) {
	for text, want := range map[string]RuleKind{
		"->*": Condition, "-><>": Milestone, "*->": Response, "->+": Inclusion, "->%": Exclusion,
	} {
		if got := scan(text, 0); got.kind != ruleSign || got.rule != want || got.text != text {
			t.Errorf("scan of %q: %+v, want the rule %d", text, got, want)
		}
	}
}
