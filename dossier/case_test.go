package dossier_test

import (
	"bytes"
	"slices"
	"testing"

	"dossier/api"
	"dossier/dossier"
)

// kept is a case beside the log that its caller keeps.
type kept struct {
	*dossier.Case
	t      testing.TB
	log    []byte
	number int
}

// number4 is a number in bytes.
func number4(n uint32) []byte {
	return []byte{byte(n >> 24), byte(n >> 16), byte(n >> 8), byte(n)}
}

func headRecord(written string) []byte {
	head := []byte{'D', '1', byte(len(written) / 256), byte(len(written) % 256)}
	head = append(head, written...)
	return append(head, number4(wideHash(head))...)
}

// begin asks for a case of a graph that is in order.
func begin(t testing.TB, graph string) *kept {
	t.Helper()
	written, e, _ := dossier.Print(graph)
	c, head, f := dossier.New(graph)
	if e != api.OK || f != api.OK || c == nil || !bytes.Equal(head, headRecord(written)) {
		t.Fatalf("New(%q): %v, %q, %d, want %q", graph, c, head, f, headRecord(written))
	}
	return &kept{Case: c, t: t, log: headRecord(written)}
}

// record is what is to be written next, if the request has this verdict.
func (k *kept) record(role, event string, verdict api.Verdict) []byte {
	record := append([]byte{'R'}, number4(uint32(k.number+1))...)
	record = append(record, k.log[len(k.log)-4:]...)
	record = append(append(record, byte(len(role))), role...)
	record = append(append(record, byte(len(event))), event...)
	record = append(record, byte(verdict))
	return append(record, number4(wideHash(record))...)
}

// ask leaves the request unsettled.
func (k *kept) ask(role, event string, want api.Verdict) []byte {
	k.t.Helper()
	expected := k.record(role, event, want)
	v, record, e := k.Ask(role, event)
	if v != want || !bytes.Equal(record, expected) || e != api.OK {
		k.t.Fatalf("Ask(%q, %q) = %d, %q, %d, want %d, %q", role, event, v, record, e, want, expected)
	}
	return expected
}

// settled asks, and settles what was asked.
func (k *kept) settled(role, event string, want api.Verdict) {
	k.t.Helper()
	record := k.ask(role, event, want)
	if e := k.Settle(); e != api.OK {
		k.t.Fatalf("Settle behind Ask(%q, %q) = %d", role, event, e)
	}
	k.log = append(k.log, record...)
	k.number++
	k.expectHead()
}

// refused: Ask tells the error and nothing else (P1).
func (k *kept) refused(role, event string, want api.Errno) {
	k.t.Helper()
	if v, record, e := k.Ask(role, event); v != 0 || record != nil || e != want {
		k.t.Errorf("Ask(%.20q, %.20q) = %d, %q, %d, want the error %d alone", role, event, v, record, e, want)
	}
}

func (k *kept) expectHead() {
	k.t.Helper()
	if h := number4(k.Head()); !bytes.Equal(h, k.log[len(k.log)-4:]) {
		k.t.Errorf("Head() = %v behind a log that ends with %v", h, k.log[len(k.log)-4:])
	}
}

// expectMark: the letters d, i, u stand for done, in, due.
func (k *kept) expectMark(event, letters string) {
	k.t.Helper()
	var want api.Mark
	for _, letter := range letters {
		switch letter {
		case 'd':
			want.Done = true
		case 'i':
			want.In = true
		case 'u':
			want.Due = true
		}
	}
	if m, e := k.Mark(event); m != want || e != api.OK {
		k.t.Errorf("Mark(%q) = %+v, %d, want %+v", event, m, e, want)
	}
}

func (k *kept) expectEnabled(role string, want ...string) {
	k.t.Helper()
	if got := k.Enabled(role); !slices.Equal(got, want) {
		k.t.Errorf("Enabled(%q) = %q, want %q", role, got, want)
	}
}

func (k *kept) expectAccepting(want bool) {
	k.t.Helper()
	if got := k.Accepting(); got != want {
		k.t.Errorf("Accepting() = %v", got)
	}
}
