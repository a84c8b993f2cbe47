package dossier_test

import (
	"strings"
	"sync"
	"testing"
	"unsafe"

	"dossier/api"
	"dossier/dossier"
)

// TestP2Memory hands in a text whose bytes the caller changes later.
func TestP2Memory(t *testing.T) {
	for _, text := range []string{loan, loanWritten, "event a by c;\n", "event a by c, c;", "a -> b;"} {
		want, wantErr, wantAt := dossier.Print(text)
		mine := []byte(text)
		got, e, at := dossier.Print(unsafe.String(&mine[0], len(mine)))
		if string(mine) != text {
			t.Errorf("Print wrote into its text %q: %q", text, mine)
		}
		for i := range mine {
			mine[i] = '#'
		}
		if got != want || e != wantErr || at != wantAt {
			t.Errorf("Print(%q): %q, %d, %d once the caller changed the text, want %q, %d, %d", text, got, e, at, want, wantErr, wantAt)
		}
	}
}

// TestP2NewMemory: an answer that says the same as the text or as another answer is still new.
func TestP2NewMemory(t *testing.T) {
	text := strings.Clone(loanWritten)
	first, _, _ := dossier.Print(text)
	second, _, _ := dossier.Print(text)
	given, one, two := unsafe.StringData(text), unsafe.StringData(first), unsafe.StringData(second)
	if one == given || two == given || one == two {
		t.Error("two texts of Print share memory")
	}
}

// TestP2NothingKept: calls at the same time, and refused ones between, change no answer.
func TestP2NothingKept(t *testing.T) {
	var all sync.WaitGroup
	for range 8 {
		all.Go(func() {
			for range 50 {
				expectWritten(t, loan, loanWritten)
				expectRefused(t, "event a by b, b;", api.ErrName, 14)
				expectRefused(t, "a -> b;", api.ErrText, 2)
				expectWritten(t, "event a by c;", "event a by c;\n")
			}
		})
	}
	all.Wait()
}

// TestP2ListsHandedIn: no call writes into a list, nor into its spare room; and none panics (P1).
func TestP2ListsHandedIn(t *testing.T) {
	for _, text := range []string{"", "D1", "D1\x00\x00", "D1\xff\xff" + loanWritten, strings.Repeat("R", api.MaxLog+1)} {
		whole := []byte(text + "spare room")
		list := whole[:len(text)]
		dossier.Hash(list)
		dossier.Recover(list)
		dossier.Audit(list, 0)
		dossier.New(text)
		if string(whole) != text+"spare room" {
			t.Errorf("the list %q was changed: %q", text, whole)
		}
	}
	dossier.Hash(nil)
	dossier.Recover(nil)
	dossier.Audit(nil, 1<<32-1)
}
