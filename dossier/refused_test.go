package dossier_test

import (
	"fmt"
	"strings"
	"testing"

	"dossier/api"
	"dossier/dossier"
)

// expectRefused looks at the empty text beside the error too (P1).
func expectRefused(t *testing.T, text string, want api.Errno, place int) {
	t.Helper()
	if got, e, at := dossier.Print(text); got != "" || e != want || at != place {
		t.Errorf("Print(%.80q) = %q, %d, %d, want nothing, %d, %d", text, got, e, at, want, place)
	}
}

func TestP3TextTooLong(t *testing.T) {
	for _, piece := range []string{" ", ";", "a", "\xff", "event a by b;"} {
		long := strings.Repeat(piece, api.MaxText+1)
		expectRefused(t, long[:api.MaxText+1], api.ErrLong, 0)
		expectRefused(t, strings.Repeat(long, 1000), api.ErrLong, 0)
	}
	blanks := strings.Repeat(" ", api.MaxText)
	expectWritten(t, blanks, "")
	line := "event a by c;"
	expectWritten(t, blanks[len(line):]+line, line+"\n")
	expectRefused(t, blanks[len(line):]+" "+line, api.ErrLong, 0)
	expectRefused(t, blanks[1:]+"?", api.ErrText, api.MaxText-1)
}

func TestP3Tokens(t *testing.T) {
	for _, c := range []struct {
		text  string
		place int
	}{
		{"event by by c;", 6}, {"event a by c, by;", 14}, {"event event by c;", 6}, {"event a by done;", 11},
		{"event a by c due out;", 17}, {"event a by c done due;", 18}, {"event a by c done out;", 18},
		{"event a by c out out;", 17}, {"event a by c due due;", 17}, {"event a by c done done;", 18},
		{"event a by c out, d;", 16}, {"event a by c,, d;", 13}, {"event a by c,;", 13}, {"event a by c out1;", 13},
		{"event a, b by c;", 7}, {"event a;", 7}, {"event;", 5}, {"eventa by c;", 7}, {"event a byc;", 8},
		{"event a by c event b by c;", 13}, {"event a by c; b by c;", 16},
		{"a -> b;", 2}, {"a <> b;", 2}, {"a ->< b;", 2}, {"a ->*+ b;", 5}, {"a - >* b;", 2}, {"a -> * b;", 2}, {"a * -> b;", 2},
		{"a ->* b, c;", 7}, {"a ->* b ->* c;", 8}, {"->* b;", 0}, {"a ->* event;", 6}, {"due ->* a;", 0}, {"a->*->b;", 4},
		{";", 0}, {",", 0}, {"event a by c;;", 13}, {"a ->* a;;", 8},
		{"Event a by c;", 0}, {"event A by c;", 6}, {"event aB by c;", 7}, {"event a_b by c;", 7}, {"event 1a by c;", 6}, {"event é by c;", 6},
		{"event a by c;\r\n", 13}, {"event a by c;\x00", 13}, {"event a by c; // no", 14}, {"event\va by c;", 5}, {"event\u00a0a by c;", 5},
	} {
		expectRefused(t, c.text, api.ErrText, c.place)
	}
}

func TestP3EarlyEnd(t *testing.T) {
	for _, whole := range []string{"event a by c , d out due done ;", "a ->* b ;", "a *-> b ;"} {
		tokens := strings.Fields(whole)
		for n := 1; n < len(tokens); n++ {
			text := strings.Join(tokens[:n], " ")
			expectRefused(t, text, api.ErrText, len(text))
			expectRefused(t, text+" \n\t", api.ErrText, len(text)+3)
			expectRefused(t, "event a by c;"+text, api.ErrText, len(text)+13)
		}
	}
	for _, text := range []string{"a -", "a ->", "a -><", "a *", "a *-"} {
		expectRefused(t, text, api.ErrText, 2)
	}
}

func isIn(b byte, set string) bool { return strings.IndexByte(set, b) >= 0 }

// TestP3EveryByte puts each byte where a line, a sign, a name or a mark could begin.
func TestP3EveryByte(t *testing.T) {
	const letters, digits, blanks = "abcdefghijklmnopqrstuvwxyz", "0123456789", " \t\n"
	for n := range 256 {
		b := string([]byte{byte(n)})
		isLetter, isBlank := isIn(byte(n), letters), isIn(byte(n), blanks)
		if isBlank {
			expectWritten(t, b, "")
			expectWritten(t, "event a by c;"+b, "event a by c;\n")
			expectWritten(t, "event a"+b+"by c;", "event a by c;\n")
		} else if isLetter {
			expectRefused(t, b, api.ErrText, 1)
			expectRefused(t, "event a by c;"+b, api.ErrText, 14)
		} else {
			expectRefused(t, b, api.ErrText, 0)
			expectRefused(t, "event a by c;"+b, api.ErrText, 13)
			expectRefused(t, "event "+b+" by c;", api.ErrText, 6)
			expectRefused(t, "event a by "+b+";", api.ErrText, 11)
		}
		if !isBlank {
			expectRefused(t, "a "+b+" b;", api.ErrText, 2)
		}
		if !isBlank && !isIn(byte(n), ",;") {
			expectRefused(t, "event a by c "+b+";", api.ErrText, 13)
		}
		if isLetter || isIn(byte(n), digits) {
			expectWritten(t, "event a"+b+" by c;", "event a"+b+" by c;\n")
		}
	}
}

func TestP3NameTooLong(t *testing.T) {
	const most = "abcdefg8"
	expectWritten(t, "event "+most+" by "+most+";"+most+"->*"+most+";", "event "+most+" by "+most+";\n"+most+" ->* "+most+";\n")
	for _, long := range []string{most + "9", "eventevent", strings.Repeat("z", 380)} {
		expectRefused(t, "event "+long+" by c;", api.ErrSize, 6)
		expectRefused(t, "event a by "+long+";", api.ErrSize, 11)
		expectRefused(t, "event a by c, "+long, api.ErrSize, 14)
		expectRefused(t, long+" a", api.ErrSize, 0)
		expectRefused(t, "a ->* "+long, api.ErrSize, 6)
		expectRefused(t, "event a "+long, api.ErrText, 8)
		expectRefused(t, "a "+long, api.ErrText, 2)
		expectRefused(t, "event a by c "+long, api.ErrText, 13)
	}
}

func TestP3TooManyEvents(t *testing.T) {
	text, want := "", ""
	for i := range api.MaxEvents {
		text += fmt.Sprintf("event a%d by b;", i)
		want += fmt.Sprintf("event a%d by b;\n", i)
	}
	expectWritten(t, text, want)
	expectWritten(t, text+"a0->*a1;", want+"a0 ->* a1;\n")
	expectRefused(t, text+"event z by b;", api.ErrSize, len(text))
	expectRefused(t, text+" event", api.ErrSize, len(text)+1)
	expectRefused(t, text+"a0->*a1;event", api.ErrSize, len(text)+8)
	expectRefused(t, text+"by", api.ErrText, len(text))
	expectRefused(t, text+";event", api.ErrText, len(text))
	expectRefused(t, strings.Repeat("event a by b;", api.MaxEvents+1), api.ErrSize, 130)
}

func TestP3TooManyRoles(t *testing.T) {
	expectWritten(t, "event a by r, s, t, u; event b by r, s, t, u;", "event a by r, s, t, u;\nevent b by r, s, t, u;\n")
	expectRefused(t, "event a by r, s, t, u, v;", api.ErrSize, 23)
	expectRefused(t, "event a by r, s, t, u, v", api.ErrSize, 23)
	expectRefused(t, "event a by r, r, r, r, r;", api.ErrSize, 23)
	expectRefused(t, "event z by r; event a by r, s, t, u, v;", api.ErrSize, 37)
	expectRefused(t, "event a by r, s, t, u, ;", api.ErrText, 23)
	expectRefused(t, "event a by r, s, t, u, out;", api.ErrText, 23)
	expectRefused(t, "event a by r, s, t, u v;", api.ErrText, 22)
	expectRefused(t, "event a by r, s, t, u,", api.ErrText, 22)
}

func TestP3TooManyRules(t *testing.T) {
	text := "event a by b;" + strings.Repeat("a->*a;", api.MaxRules)
	expectWritten(t, text, "event a by b;\na ->* a;\n")
	expectWritten(t, text+"event c by b;", "event a by b;\nevent c by b;\na ->* a;\n")
	expectRefused(t, text+"a->*a;", api.ErrSize, len(text))
	expectRefused(t, text+"a", api.ErrSize, len(text))
	expectRefused(t, text+"\tx ->> y;", api.ErrSize, len(text)+1)
	expectRefused(t, text+"event c by b;a", api.ErrSize, len(text)+13)
	expectRefused(t, text+"due", api.ErrText, len(text))
	expectRefused(t, text+"->*a", api.ErrText, len(text))
}

// TestP3FirstTokenFirst: of several faults the one at the first token is told.
func TestP3FirstTokenFirst(t *testing.T) {
	expectRefused(t, "event abcdefghi by by;", api.ErrSize, 6)
	expectRefused(t, "event by by abcdefghi;", api.ErrText, 6)
	expectRefused(t, "a ->* abcdefghi ?", api.ErrSize, 6)
	expectRefused(t, "a ? abcdefghi;", api.ErrText, 2)
}

func TestP4Names(t *testing.T) {
	for _, c := range []struct {
		text  string
		place int
	}{
		{"event a by c; event a by c;", 20},
		{"event a by c; event b by c; event a by d;", 34},
		{"event a by c, c;", 14},
		{"event a by c, d, c;", 17},
		{"event a by c, d, d, c;", 17},
		{"event a by c; event b by d, c, d;", 31},
		{"event a by c; a ->* b;", 20},
		{"event a by c; b ->* a;", 14},
		{"b ->* a; event a by c;", 0},
		{"a ->* b; event a by c;", 6},
		{"a ->* a;", 0},
		{"event a by c; a ->* c;", 20},
		{"event a by c; x -><> y; event a by c;", 14},
		{"event a by c; event a by d, d; x ->* y;", 20},
		{"event a by d, d; event a by c;", 14},
		{"event a by c; a ->* b; a ->* z; event b by c;", 29},
	} {
		expectRefused(t, c.text, api.ErrName, c.place)
	}
	expectWritten(t, "a *-> b; b ->* a; event b by a; event a by b;", "event a by b;\nevent b by a;\na *-> b;\nb ->* a;\n")
}

// TestP4BehindP3: a token that is refused comes ahead of a name, wherever it stands.
func TestP4BehindP3(t *testing.T) {
	expectRefused(t, "event a by c; event a by c; ;", api.ErrText, 28)
	expectRefused(t, "event a by c, c; event", api.ErrText, 22)
	expectRefused(t, "x ->* y; event abcdefghi by c;", api.ErrSize, 15)
	expectRefused(t, strings.Repeat("a->*a;", api.MaxRules)+"a", api.ErrSize, 6*api.MaxRules)
}
