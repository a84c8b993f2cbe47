package dossier_test

import (
	"bytes"
	"runtime"
	"strings"
	"sync"
	"testing"
	"time"
	"unsafe"

	"dossier/api"
	"dossier/dossier"
)

// TestP2Memory hands in a text whose bytes the caller changes later.
func TestP2Memory(t *testing.T) {
	for _, text := range []string{loan, loanWritten, "event a by c;\n", "event a by c, c;", "a -> b;"} {
		want, wantErr, wantAt := dossier.Print(text)
		mine := []byte(text)
		got, e, at := dossier.Print(unsafe.String(&mine[0], len(mine)))
		if string(mine) != text {
			t.Errorf("Print wrote into its text %q: %q", text, mine)
		}
		for i := range mine {
			mine[i] = '#'
		}
		if got != want || e != wantErr || at != wantAt {
			t.Errorf("Print(%q): %q, %d, %d once the caller changed the text, want %q, %d, %d", text, got, e, at, want, wantErr, wantAt)
		}
	}
}

// TestP2NewMemory: an answer that says the same as the text or as another answer is still new.
func TestP2NewMemory(t *testing.T) {
	text := strings.Clone(loanWritten)
	first, _, _ := dossier.Print(text)
	second, _, _ := dossier.Print(text)
	given, one, two := unsafe.StringData(text), unsafe.StringData(first), unsafe.StringData(second)
	if one == given || two == given || one == two {
		t.Error("two texts of Print share memory")
	}
}

// TestP2NothingKept: calls at the same time, and refused ones between, change no answer.
func TestP2NothingKept(t *testing.T) {
	var all sync.WaitGroup
	for range 8 {
		all.Go(func() {
			for range 50 {
				expectWritten(t, loan, loanWritten)
				expectRefused(t, "event a by b, b;", api.ErrName, 14)
				expectRefused(t, "a -> b;", api.ErrText, 2)
				expectWritten(t, "event a by c;", "event a by c;\n")
			}
		})
	}
	all.Wait()
}

// TestP2ListsHandedIn: no call writes into a list, nor into its spare room; and none panics (P1).
func TestP2ListsHandedIn(t *testing.T) {
	log := loanLog(t).log
	for _, text := range []string{
		"", "D1", "D1\x00\x00", "D1\xff\xff" + loanWritten, strings.Repeat("R", api.MaxLog+1),
		string(log), string(log[:len(log)-1]), string(log) + "R", string(headRecord("event b by c; event a by c;")),
	} {
		whole := []byte(text + "spare room")
		list := whole[:len(text)]
		dossier.Hash(list)
		dossier.Recover(list)
		dossier.Audit(list, 0)
		dossier.New(text)
		if string(whole) != text+"spare room" {
			t.Errorf("the list %q was changed: %q", text, whole)
		}
	}
	dossier.Hash(nil)
	dossier.Recover(nil)
	dossier.Audit(nil, 1<<32-1)
}

// borrowed is a text whose bytes the caller has a hand on.
func borrowed(text string) (string, []byte) {
	mine := []byte(text)
	return unsafe.String(&mine[0], len(mine)), mine
}

func spoil(b []byte) {
	b = b[:cap(b)]
	for i := range b {
		b[i] = '#'
	}
}

// TestP2CaseKeepsNothing: the caller changes what was handed in, and what came out.
func TestP2CaseKeepsNothing(t *testing.T) {
	graph, graphBytes := borrowed(loan)
	c, head, _ := dossier.New(graph)
	spoil(graphBytes)
	spoil(head)
	k := begin(t, loan)
	k.Case = c
	k.expectHead()
	k.expectEnabled("client", "apply")

	role, roleBytes := borrowed("client")
	event, eventBytes := borrowed("apply")
	want := k.record("client", "apply", api.Accepted)
	_, record, _ := c.Ask(role, event)
	if string(record) != string(want) || string(roleBytes) != "client" || string(eventBytes) != "apply" {
		t.Errorf("Ask of borrowed texts: %q, %q, %q", record, roleBytes, eventBytes)
	}
	spoil(roleBytes)
	spoil(eventBytes)
	spoil(record)
	c.Settle()
	k.log, k.number = append(k.log, want...), 1
	k.expectHead()
	k.expectMark("apply", "id")
	k.expectMark("check", "iu")

	names := k.Enabled("boss")
	names = names[:cap(names)]
	for i := range names {
		names[i] = "#"
	}
	k.expectEnabled("boss", "check", "deny")
	k.settled("clerk", "check", api.Accepted)
}

// TestP2NoCommonPlace: no list that came out changes by what is written into another.
func TestP2NoCommonPlace(t *testing.T) {
	c, head, _ := dossier.New("event a by r;")
	_, again, _ := dossier.New("event a by r;")
	lists := [][]byte{head, again}
	for range 20 {
		_, record, _ := c.Ask("r", "a")
		c.Settle()
		lists = append(lists, record)
	}
	var texts []string
	for _, list := range lists {
		texts = append(texts, string(list))
	}
	for i, list := range lists {
		if string(list) != texts[i] {
			t.Errorf("list %d was changed by another: %q, want %q", i, list, texts[i])
		}
		spoil(list)
	}
	one, two := c.Enabled("r"), c.Enabled("r")
	one = append(one[:0], "#", "#")
	if len(two) != 1 || two[0] != "a" {
		t.Errorf("Enabled: %q changed by %q", two, one)
	}
}

// TestP2CasesAlone: what one case is asked is nothing to another of the same graph.
func TestP2CasesAlone(t *testing.T) {
	one, two := begin(t, loan), begin(t, loan)
	one.settled("client", "apply", api.Accepted)
	one.ask("clerk", "check", api.Accepted)
	two.expectMark("apply", "i")
	two.expectMark("check", "i")
	two.expectHead()
	if e := two.Settle(); e != api.ErrIdle {
		t.Errorf("Settle of what another case was asked: %d", e)
	}
	two.settled("clerk", "check", api.Blocked)
}

// TestP2LogKeepsNothing: the caller changes a log behind Recover, and asks on.
func TestP2LogKeepsNothing(t *testing.T) {
	k := loanLog(t)
	mine := append(bytes.Clone(k.log), "half a record"...)
	c, _, _ := dossier.Recover(mine)
	spoil(mine)
	again := &kept{Case: c, t: t, log: bytes.Clone(k.log), number: k.number}
	again.expectHead()
	again.expectMark("check", "id")
	again.expectEnabled("client", "apply")
	again.settled("client", "apply", api.Accepted)
	again.settled("boss", "pay", api.Blocked)
	expectEnd(t, again.log, len(again.log))
}

// TestP2LogAtOneTime: a log that is read at several places at one time.
func TestP2LogAtOneTime(t *testing.T) {
	k := loanLog(t)
	head := k.Head()
	var all sync.WaitGroup
	for range 8 {
		all.Go(func() {
			for n := range k.log {
				dossier.Recover(k.log[:n])
				if _, n, e := dossier.Audit(k.log, head); n != len(k.log) || e != api.OK {
					t.Errorf("Audit at the same time as others: %d, %d", n, e)
				}
			}
		})
	}
	all.Wait()
}

// TestP1NothingRunsOn: no goroutine is left of calls, whatever they were given.
func TestP1NothingRunsOn(t *testing.T) {
	before := runtime.NumGoroutine()
	full := begin(t, "")
	full.fill(api.MaxLog)
	wrong := bytes.Clone(full.log)
	wrong[8] = 'S'
	for _, log := range [][]byte{nil, headRecord(""), full.log, wrong, append(headRecord(""), make([]byte, 1<<24)...)} {
		for range 50 {
			dossier.Recover(log)
			dossier.Audit(log, 0)
		}
	}
	// One that has closed its channel may need a moment to be gone.
	for range 1000 {
		if runtime.NumGoroutine() <= before {
			return
		}
		time.Sleep(time.Millisecond)
	}
	t.Errorf("%d goroutines, and %d at first", runtime.NumGoroutine(), before)
}
