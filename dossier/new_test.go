package dossier_test

import (
	"bytes"
	"strings"
	"testing"

	"dossier/api"
	"dossier/dossier"
)

func TestP7HeadRecord(t *testing.T) {
	_, head, e := dossier.New("event a by c;")
	want := append([]byte{68, 49, 0, 14}, "event a by c;\n"...)
	if e != api.OK || len(head) != 22 || !bytes.Equal(head[:18], want) || !bytes.Equal(head[18:], number4(wideHash(want))) {
		t.Errorf("New: %v, %d, want %v and its hash", head, e, want)
	}
	longest, written := tight("rrrrrrrr", "rrrrrrr")
	for _, graph := range []string{"", " \n", loan, loanWritten, longest, written} {
		begin(t, graph)
	}
	if k := begin(t, longest); len(k.log) != 408 || k.log[2] != 1 || k.log[3] != 144 {
		t.Errorf("the longest head record has %d bytes, and tells %v", len(k.log), k.log[2:4])
	}
}

// TestP7Refused: New refuses what Print refuses, with its error.
func TestP7Refused(t *testing.T) {
	tooLong, _ := tight("rrrrrrrr", "rrrrrrrr")
	for _, graph := range []string{
		"event", "a -> b;", ";", "\x00", "event a by c;;",
		strings.Repeat(" ", api.MaxText+1), tooLong,
		"event abcdefghi by c;", "event a by r, s, t, u, v;", strings.Repeat("a->*a;", api.MaxRules+1),
		"event a by c; event a by c;", "event a by c, c;", "a ->* b;",
	} {
		_, want, _ := dossier.Print(graph)
		if c, head, e := dossier.New(graph); c != nil || head != nil || e != want || e == api.OK {
			t.Errorf("New(%.40q): %v, %q, %d, want the error %d alone", graph, c, head, e, want)
		}
	}
}

func TestP7FirstMarks(t *testing.T) {
	k := begin(t, "event a by r; event b by r done; event c by r due; event d by r due done; event e by r out; event f by r out done; event g by r out due; event h by r out due done;")
	for event, letters := range map[string]string{"a": "i", "b": "id", "c": "iu", "d": "iud", "e": "", "f": "d", "g": "u", "h": "ud"} {
		k.expectMark(event, letters)
	}
	if e := k.Settle(); e != api.ErrIdle {
		t.Errorf("Settle of a new case: %d", e)
	}
	k.expectHead()
}
