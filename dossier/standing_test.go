package dossier_test

import (
	"strings"
	"testing"

	"dossier/api"
)

func TestP9Mark(t *testing.T) {
	k := begin(t, "event a by r; event b by s out due done;")
	k.expectMark("a", "i")
	k.expectMark("b", "ud")
	for _, name := range []string{"", "r", "s", "c", "A", "a ", "ab", "event", "\xff", strings.Repeat("a", 1<<20)} {
		if m, e := k.Mark(name); m != (api.Mark{}) || e != api.ErrName {
			t.Errorf("Mark(%.20q) = %+v, %d, want ErrName alone", name, m, e)
		}
	}
	k.settled("r", "a", api.Accepted)
	k.expectMark("a", "id")
	k.expectMark("b", "ud")
}

// TestP9Enabled has one event for each reason not to be enabled, and two without.
func TestP9Enabled(t *testing.T) {
	k := begin(t, "event z by r, s; event y by s; event x by r out; event w by r; event v by r, s; event u by s due; u -><> w;")
	k.expectEnabled("r", "v", "z")
	k.expectEnabled("s", "u", "v", "y", "z")
	for _, role := range []string{"", "t", "R", "r ", "z", "rr", strings.Repeat("r", 1<<20)} {
		k.expectEnabled(role)
	}
	k.settled("s", "u", api.Accepted)
	k.expectEnabled("r", "v", "w", "z")
	k = begin(t, "")
	k.expectEnabled("")
	k.expectEnabled("r")
}

func TestP9OrderOfEnabled(t *testing.T) {
	k := begin(t, "event b1 by r; event aa by r; event b by r; event a10 by r; event a2 by r; event a by r;")
	k.expectEnabled("r", "a", "a10", "a2", "aa", "b", "b1")
}

func TestP9Accepting(t *testing.T) {
	for first, want := range map[string]bool{
		"": true, " done": true, " out": true, " out due": true, " out due done": true, " due": false, " due done": false,
	} {
		k := begin(t, "event a by r; event b by r"+first+"; event c by r;")
		k.expectAccepting(want)
	}
	k := begin(t, "")
	k.expectAccepting(true)
	k = begin(t, "event a by r out due; event b by r; event c by r; event d by r; b ->+ a; c ->% a; d *-> a;")
	k.settled("r", "b", api.Accepted)
	k.expectAccepting(false)
	k.settled("r", "c", api.Accepted)
	k.expectAccepting(true)
	k.settled("r", "d", api.Accepted)
	k.expectAccepting(true)
	k.settled("r", "b", api.Accepted)
	k.settled("r", "a", api.Accepted)
	k.expectAccepting(true)
	k.settled("r", "d", api.Accepted)
	k.expectAccepting(false)
}

// TestP9Head: the hash follows what is settled, whatever the verdict.
func TestP9Head(t *testing.T) {
	k := begin(t, "event a by r;")
	k.expectHead()
	k.ask("r", "a", api.Accepted)
	k.expectHead()
	if e := k.Settle(); e != api.OK {
		t.Fatalf("Settle = %d", e)
	}
	k.log, k.number = append(k.log, k.record("r", "a", api.Accepted)...), 1
	k.expectHead()
	k.settled("s", "a", api.Barred)
	k.settled("s", "x", api.Unknown)
}
