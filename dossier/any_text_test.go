package dossier_test

import (
	"regexp"
	"strings"
	"testing"

	"dossier/api"
	"dossier/dossier"
)

// wholeGraph is the document's form of a graph, a letter for each token:
// E event, B by, O out, D due, X done, N a name, R a rule's sign, ? a stray byte.
var wholeGraph = regexp.MustCompile(`^(?:ENBN(?:,N)*O?D?X?;|NRN;)*$`)

var spelt = map[byte]string{
	'E': "event", 'B': "by", 'O': "out", 'D': "due", 'X': "done",
	'N': "n", 'R': "->%", ',': ",", ';': ";", '?': "-",
}

// beginsGraph tries all that could be lacking behind the last token.
func beginsGraph(tokens string) bool {
	for _, lacking := range []string{"", ";", "N;", "BN;", "NBN;", "RN;"} {
		if wholeGraph.MatchString(tokens + lacking) {
			return true
		}
	}
	return false
}

func spell(tokens, blank string) string {
	var words []string
	for i := range len(tokens) {
		words = append(words, spelt[tokens[i]])
	}
	return strings.Join(words, blank)
}

// expectPlace: the last token is the first that can be refused by P3.
func expectPlace(t *testing.T, tokens, blank string) {
	t.Helper()
	text := spell(tokens, blank)
	last := len(text) - len(spelt[tokens[len(tokens)-1]])
	switch {
	case !beginsGraph(tokens):
		expectRefused(t, text, api.ErrText, last)
		expectRefused(t, text+blank+"event", api.ErrText, last)
	case !wholeGraph.MatchString(tokens):
		expectRefused(t, text, api.ErrText, len(text))
	default:
		if _, e, _ := dossier.Print(text); e != api.OK && e != api.ErrName {
			t.Errorf("Print(%q): error %d in a text that is a graph", text, e)
		}
	}
}

// TestP3EveryBeginning sets each token behind each beginning of a graph of a few tokens.
func TestP3EveryBeginning(t *testing.T) {
	beginnings := []string{""}
	for range 8 {
		var longer []string
		for _, tokens := range beginnings {
			for one := range spelt {
				next := tokens + string(one)
				expectPlace(t, next, " ")
				expectPlace(t, next, "\n\t")
				if beginsGraph(next) && strings.Count(next, "N") <= api.MaxRoles {
					longer = append(longer, next)
				}
			}
		}
		beginnings = longer
	}
}

// TestP1AnyText goes through texts of any bytes: each answer is one that the
// document allows, and what Print wrote it writes again.
func TestP1AnyText(t *testing.T) {
	pieces := []string{"event", "by", "out", "due", "done", "a", "b", "abcdefghi", ",", ";", "->*", "*->", "->+", "->%", "-><>", "-", "*", "<", ">", "7", " ", "\n", "\x00", "\xff", "é", "event a by b;", "a->*b;", "event b by a, b;"}
	state := uint32(1)
	for range 20000 {
		text := ""
		for range state >> 28 {
			state = state*1664525 + 1013904223
			text += pieces[int(state>>16)%len(pieces)]
		}
		state = state*1664525 + 1013904223
		checkAnswer(t, text)
	}
}

func checkAnswer(t *testing.T, text string) {
	t.Helper()
	got, e, at := dossier.Print(text)
	switch {
	case e < api.OK || e > api.ErrName || at < 0 || at > len(text):
		t.Errorf("Print(%q) = %q, %d, %d: no such error or place", text, got, e, at)
	case e != api.OK && got != "":
		t.Errorf("Print(%q) = %q beside the error %d", text, got, e)
	case e == api.OK && at != 0:
		t.Errorf("Print(%q): the place %d without an error", text, at)
	case e == api.OK:
		expectWritten(t, text, got)
	}
}

func FuzzP1Print(f *testing.F) {
	for _, text := range []string{"", loan, loanWritten, "event a by b, b;", "a -> b;", strings.Repeat(" ", api.MaxText+1)} {
		f.Add(text)
	}
	f.Fuzz(checkAnswer)
}
