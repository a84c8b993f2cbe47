package dossier_test

import (
	"fmt"
	"slices"
	"strings"
	"testing"

	"dossier/api"
	"dossier/dossier"
)

const loan = "event apply by client; event check by clerk, boss; event pay by boss out; event deny by boss, clerk; apply ->* check; apply *-> check; check ->+ pay; check -><> pay; pay ->% deny; deny ->% pay;"

const loanWritten = `event apply by client;
event check by boss, clerk;
event deny by boss, clerk;
event pay by boss out;
apply ->* check;
apply *-> check;
check -><> pay;
check ->+ pay;
deny ->% pay;
pay ->% deny;
`

// expectWritten asks for the text and for its written form, which is its own.
func expectWritten(t *testing.T, text, want string) {
	t.Helper()
	for _, s := range []string{text, want} {
		if got, e, at := dossier.Print(s); got != want || e != api.OK || at != 0 {
			t.Errorf("Print(%q) = %q, %d, %d, want %q, OK, 0", s, got, e, at, want)
		}
	}
}

func TestP5Written(t *testing.T) {
	for _, c := range []struct{ text, want string }{
		{loan, loanWritten},
		{"", ""},
		{" \t\n\n", ""},
		{"event a by c;", "event a by c;\n"},
		{"\tevent\na\tby\n\nc ;\n", "event a by c;\n"},
		{"event by1 by events,outs;", "event by1 by events, outs;\n"},
		{"event a by a; event b by a;", "event a by a;\nevent b by a;\n"},
	} {
		expectWritten(t, c.text, c.want)
	}
}

func TestP5FirstMarks(t *testing.T) {
	for _, marks := range []string{"", " out", " due", " done", " out due", " out done", " due done", " out due done"} {
		line := "event a by c" + marks + ";"
		expectWritten(t, line, line+"\n")
	}
}

func TestP5OrderOfNames(t *testing.T) {
	names := []string{"a", "a0", "a10", "a2", "aa", "ab", "b", "b1", "ba", "z"}
	want := ""
	for _, n := range names {
		want += "event " + n + " by r;\n"
	}
	for step := range len(names) {
		text := ""
		for i := range names {
			text = "event " + names[(i+step)%len(names)] + " by r;" + text
		}
		expectWritten(t, text, want)
	}
}

func TestP5OrderOfRoles(t *testing.T) {
	for _, roles := range []string{"a,a1,aa,b", "b,aa,a1,a", "aa,b,a,a1", "a1,a,b,aa"} {
		expectWritten(t, "event e by "+roles+";", "event e by a, a1, aa, b;\n")
	}
	expectWritten(t, "event b by z, y; event a by y, x;", "event a by x, y;\nevent b by y, z;\n")
}

// TestP5OrderOfRules takes left names ahead of right ones, and these ahead of signs.
func TestP5OrderOfRules(t *testing.T) {
	var inOrder []string
	for _, left := range []string{"a", "b"} {
		for _, right := range []string{"a", "b"} {
			for _, sign := range []string{"->*", "-><>", "*->", "->+", "->%"} {
				inOrder = append(inOrder, left+" "+sign+" "+right+";")
			}
		}
	}
	want := "event a by r;\nevent b by r;\n" + strings.Join(inOrder, "\n") + "\n"
	for _, step := range []int{1, 3, 7, 9, 11, 13, 17, 19} {
		text := ""
		for i := range inOrder {
			text += inOrder[(i*step+5)%len(inOrder)]
		}
		expectWritten(t, text+"event b by r;event a by r;", want)
	}
}

func TestP5EqualRulesOnce(t *testing.T) {
	expectWritten(t, "a->*a;event a by r;a*->a;a->*a;a ->* a;a*->a;", "event a by r;\na ->* a;\na *-> a;\n")
	expectWritten(t, "event a by b;"+strings.Repeat("a->%a;", api.MaxRules), "event a by b;\na ->% a;\n")
	expectWritten(t, "event a by r;event b by r;a->*b;b->*a;", "event a by r;\nevent b by r;\na ->* b;\nb ->* a;\n")
}

// tight is a text without needless blanks; its written form has 387 bytes with roles of one byte.
func tight(role1, role2 string) (text, written string) {
	const a, b = "aaaaaaaa", "aaaaaaab"
	text = "event " + a + " by " + role1 + ";event " + b + " by " + role2 + ";"
	written = "event " + a + " by " + role1 + ";\nevent " + b + " by " + role2 + ";\n"
	rules := 0
	for _, pair := range [][2]string{{a, a}, {a, b}, {b, a}, {b, b}} {
		for _, sign := range []string{"->*", "*->", "->+", "->%"} {
			if rules++; rules < 16 {
				text += pair[0] + sign + pair[1] + ";"
				written += pair[0] + " " + sign + " " + pair[1] + ";\n"
			}
		}
	}
	return text, written
}

func TestP5WrittenTooLong(t *testing.T) {
	text, written := tight("rrrrrrrr", "rrrrrrr")
	if len(written) != api.MaxText {
		t.Fatalf("the test's own written form has %d bytes", len(written))
	}
	expectWritten(t, text, written)
	expectWritten(t, text+"aaaaaaaa->*aaaaaaaa;", written)

	text, written = tight("rrrrrrrr", "rrrrrrrr")
	if len(written) != api.MaxText+1 || len(text) > api.MaxText {
		t.Fatalf("the test's own texts have %d and %d bytes", len(text), len(written))
	}
	expectRefused(t, text, api.ErrLong, 0)
	expectRefused(t, written, api.ErrLong, 0)
	expectRefused(t, text+"x", api.ErrText, len(text)+1)
	expectRefused(t, text+"x->*x;", api.ErrName, len(text))
}

// TestP5AllSizes writes graphs of every size that is allowed.
func TestP5AllSizes(t *testing.T) {
	for events := range api.MaxEvents + 1 {
		for roles := 1; roles <= api.MaxRoles; roles++ {
			var lines []string
			for i := range events {
				line := fmt.Sprintf("event e%d by a", i)
				for j := 1; j < roles; j++ {
					line += fmt.Sprintf(", %c", 'a'+j)
				}
				lines = append(lines, line+";\n")
			}
			want := strings.Join(lines, "")
			slices.Reverse(lines)
			expectWritten(t, strings.Join(lines, ""), want)
		}
	}
}
