package dossier_test

import (
	"bytes"
	"strings"
	"testing"

	"dossier/api"
)

func TestP8Loan(t *testing.T) {
	k := begin(t, loan)
	k.settled("clerk", "check", api.Blocked)
	k.settled("boss", "apply", api.Barred)
	k.settled("client", "sing", api.Unknown)
	k.settled("boss", "pay", api.Out)
	k.settled("client", "apply", api.Accepted)
	k.expectMark("check", "iu")
	k.expectAccepting(false)
	k.expectEnabled("boss", "check", "deny")
	k.settled("clerk", "check", api.Accepted)
	k.expectAccepting(true)
	k.expectEnabled("boss", "check", "deny", "pay")
	k.settled("client", "apply", api.Accepted)
	k.settled("boss", "pay", api.Blocked)
}

func TestP8Record(t *testing.T) {
	k := begin(t, "event a by c;")
	record := k.ask("c", "a", api.Accepted)
	want := append([]byte{82, 0, 0, 0, 1}, k.log[18:]...)
	want = append(want, 1, 99, 1, 97, 0)
	if len(record) != 18 || !bytes.Equal(record[:14], want) || !bytes.Equal(record[14:], number4(wideHash(want))) {
		t.Errorf("the record %v, want %v and its hash", record, want)
	}
}

// TestP8FirstReason: of several reasons to say no the first one counts.
func TestP8FirstReason(t *testing.T) {
	k := begin(t, "event a by r; event b by s out; event c by s; a ->* b; a ->* c;")
	k.settled("r", "x", api.Unknown)
	k.settled("r", "b", api.Barred)
	k.settled("s", "b", api.Out)
	k.settled("r", "c", api.Barred)
	k.settled("s", "c", api.Blocked)
	k.settled("r", "a", api.Accepted)
	k.settled("s", "c", api.Accepted)
	k.settled("s", "b", api.Out)
}

// TestP8AnyNames: texts that are no names are asked for like others.
func TestP8AnyNames(t *testing.T) {
	k := begin(t, "event a by r; event b by a;")
	for _, text := range []string{"", "r", " a", "a ", "A", "event", "\x00", "\xff\xfe", "a;", "abcdefgh", "ééée"} {
		k.settled("r", text, api.Unknown)
		if text != "r" {
			k.settled(text, "a", api.Barred)
		}
	}
	k.settled("a", "b", api.Accepted)
}

// TestP8Blocked asks for events one after the other; `!` stands behind a blocked one.
func TestP8Blocked(t *testing.T) {
	for rules, asked := range map[string]string{
		"a ->* b;":                    "b! a b",
		"c ->% a; a ->* b;":           "b! c b",
		"c ->+ a; c ->% a; a ->* b;":  "b! c b! a b",
		"c *-> a; a -><> b;":          "b c b! a b",
		"c *-> a; b ->% a; a -><> b;": "c b! a b c b",
		"a ->* c; b ->* c;":           "c! a c! b c",
		"a ->* c; b -><> c; a *-> b;": "c! a c! b c",
		"a ->* b; b ->* a;":           "a! b! c a! b!",
		"b ->* a; b -><> a;":          "b a c b a",
		"a *-> b; a ->+ b; c ->% c;":  "b a b c a",
		"a ->* b; a -><> b; a *-> a;": "b! a b!",
		"a ->* a; a -><> b; a ->% b;": "a! b a!",
		"a ->* b; a ->% a; a -><> b;": "b! a b",
		"a *-> c; c -><> a; c ->* b;": "b! a a! b! c a c b",
		"a *-> b; b -><> c; c ->% b;": "a c! b c a c",
	} {
		k := begin(t, "event a by r; event b by r; event c by r;"+rules)
		for _, event := range strings.Fields(asked) {
			if name, isBlocked := strings.CutSuffix(event, "!"); isBlocked {
				k.settled("r", name, api.Blocked)
			} else {
				k.settled("r", name, api.Accepted)
			}
		}
	}
}

// TestP8OrderOfEffects: several effects of one event on one, in every mix.
func TestP8OrderOfEffects(t *testing.T) {
	for rules, letters := range map[string]string{
		"":                             "",
		"a ->% b;":                     "",
		"a ->+ b;":                     "i",
		"a *-> b;":                     "u",
		"a ->% b; a ->+ b;":            "i",
		"a ->+ b; a ->% b;":            "i",
		"a ->% b; a *-> b;":            "u",
		"a *-> b; a ->% b; a ->+ b;":   "iu",
		"b ->+ b; b *-> b; b ->* a;":   "",
		"a ->+ c; c ->+ b; c *-> b;":   "",
		"a ->+ b; a ->% c; a *-> c;":   "i",
		"c ->* b; c -><> b; a ->+ b; ": "i",
	} {
		k := begin(t, "event a by r; event b by r out; event c by r; "+rules)
		k.settled("r", "a", api.Accepted)
		k.expectMark("b", letters)
		k.expectMark("a", "id")
	}
}

// TestP8ItsOwnEffects: an event whose rules name itself.
func TestP8ItsOwnEffects(t *testing.T) {
	for rules, letters := range map[string]string{
		"":                           "id",
		"a *-> a;":                   "idu",
		"a ->% a;":                   "d",
		"a ->% a; a ->+ a;":          "id",
		"a ->% a; a *-> a;":          "du",
		"a ->+ a; a ->% a; a *-> a;": "idu",
	} {
		for _, first := range []string{"", " due", " done", " due done"} {
			k := begin(t, "event a by r"+first+"; "+rules)
			k.settled("r", "a", api.Accepted)
			k.expectMark("a", letters)
		}
	}
	k := begin(t, "event a by r; a ->* a;")
	k.settled("r", "a", api.Blocked)
	k = begin(t, "event a by r due; a -><> a;")
	k.settled("r", "a", api.Blocked)
	k = begin(t, "event a by r done; a ->* a; a -><> a; a *-> a;")
	k.settled("r", "a", api.Accepted)
	k.settled("r", "a", api.Blocked)
}

// TestP8OtherVerdicts: what is not accepted changes nothing but the log.
func TestP8OtherVerdicts(t *testing.T) {
	k := begin(t, "event a by r; event b by s; event c by r out; event d by r due; a ->* b; b ->% d; c *-> b; d ->* a;")
	for range 2 {
		k.settled("r", "x", api.Unknown)
		k.settled("r", "b", api.Barred)
		k.settled("r", "c", api.Out)
		k.settled("s", "b", api.Blocked)
		k.settled("r", "a", api.Blocked)
		for event, letters := range map[string]string{"a": "i", "b": "i", "c": "", "d": "iu"} {
			k.expectMark(event, letters)
		}
	}
}

func TestP8Unsettled(t *testing.T) {
	k := begin(t, loan)
	record := k.ask("client", "apply", api.Accepted)
	for range 2 {
		k.refused("client", "apply", api.ErrBusy)
		k.refused("client", "abcdefghi", api.ErrBusy)
		k.refused("abcdefghi", "", api.ErrBusy)
		k.expectMark("apply", "i")
		k.expectMark("check", "i")
		k.expectAccepting(true)
		k.expectEnabled("client", "apply")
		k.expectEnabled("boss", "deny")
		k.expectHead()
	}
	if e := k.Settle(); e != api.OK {
		t.Errorf("Settle = %d", e)
	}
	k.log, k.number = append(k.log, record...), 1
	k.expectHead()
	k.expectMark("apply", "id")
	k.expectMark("check", "iu")
	for range 2 {
		if e := k.Settle(); e != api.ErrIdle {
			t.Errorf("Settle of nothing = %d", e)
		}
		k.expectMark("check", "iu")
		k.expectHead()
	}
	k.ask("boss", "sing", api.Unknown)
	k.refused("boss", "check", api.ErrBusy)
}

func TestP8TooLong(t *testing.T) {
	k := begin(t, "event abcdefgh by ijklmnop;")
	for _, long := range []string{"abcdefghi", "\x00\x00\x00\x00\x00\x00\x00\x00\x00", "ééééé", strings.Repeat("x", 256), strings.Repeat("x", 1<<20)} {
		k.refused(long, "abcdefgh", api.ErrLong)
		k.refused("ijklmnop", long, api.ErrLong)
		k.refused(long, long, api.ErrLong)
		if e := k.Settle(); e != api.ErrIdle {
			t.Errorf("Settle behind ErrLong = %d", e)
		}
		k.expectHead()
	}
	k.settled("ijklmnop", "abcdefgh", api.Accepted)
}

// fill has the log end at this length, with requests that change nothing. A
// record has 16 to 32 bytes: what is left must always have room for another.
func (k *kept) fill(length int) {
	k.t.Helper()
	for len(k.log) < length {
		left := length - len(k.log)
		names := min(left, 32) - 16
		if left > 32 && left < 48 {
			names = left - 32
		}
		role := strings.Repeat("#", names/2)
		k.settled(role, strings.Repeat("#", names-len(role)), api.Unknown)
	}
}

func TestP8FullLog(t *testing.T) {
	for _, graph := range []string{"", "event a by c;", loan} {
		for _, short := range []int{0, 1, 15} {
			k := begin(t, graph)
			k.fill(api.MaxLog - short)
			if len(k.log) != api.MaxLog-short {
				t.Fatalf("the test's own log has %d bytes", len(k.log))
			}
			k.refused("", "", api.ErrFull)
			k.refused("client", "apply", api.ErrFull)
			k.refused("abcdefghi", "", api.ErrLong)
			k.refused("", "abcdefghi", api.ErrLong)
			if e := k.Settle(); e != api.ErrIdle {
				t.Errorf("Settle behind ErrFull = %d", e)
			}
			k.expectHead()
		}
	}
}

// TestP8NearlyFull: a short request has room where a longer one has none.
func TestP8NearlyFull(t *testing.T) {
	k := begin(t, "event a by c; event abcdefgh by c;")
	k.fill(api.MaxLog - 18)
	k.refused("c", "abcdefgh", api.ErrFull)
	k.refused("cc", "a", api.ErrFull)
	k.expectMark("a", "i")
	record := k.ask("c", "a", api.Accepted)
	k.refused("c", "abcdefgh", api.ErrBusy)
	if e := k.Settle(); e != api.OK {
		t.Errorf("Settle of what fills the log = %d", e)
	}
	k.log = append(k.log, record...)
	if len(k.log) != api.MaxLog {
		t.Errorf("the full log has %d bytes", len(k.log))
	}
	k.expectMark("a", "id")
	k.expectHead()
	k.refused("", "", api.ErrFull)
}
