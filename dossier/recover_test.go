package dossier_test

import (
	"bytes"
	"strings"
	"testing"

	"dossier/api"
)

// loanLog has requests of every verdict in it.
func loanLog(t testing.TB) *kept {
	k := begin(t, loan)
	k.settled("clerk", "check", api.Blocked)
	k.settled("boss", "apply", api.Barred)
	k.settled("client", "sing", api.Unknown)
	k.settled("boss", "pay", api.Out)
	k.settled("client", "apply", api.Accepted)
	k.settled("clerk", "check", api.Accepted)
	k.settled("\x00\xff", "", api.Unknown)
	k.settled("boss", "pay", api.Accepted)
	return k
}

func TestP10Loan(t *testing.T) {
	k := loanLog(t)
	again := expectEnd(t, k.log, len(k.log))
	if again.number != 8 || again.Head() != k.Head() {
		t.Errorf("%d records were taken up, to the hash %d", again.number, again.Head())
	}
	again.expectMark("apply", "id")
	again.expectMark("check", "id")
	again.expectMark("deny", "")
	again.expectMark("pay", "id")
	again.expectEnabled("boss", "check", "pay")
	again.settled("client", "apply", api.Accepted)
	again.settled("boss", "pay", api.Blocked)
	again.settled("boss", "deny", api.Out)
	expectEnd(t, again.log, len(again.log))
}

func TestP10HeadRecordAlone(t *testing.T) {
	longest, written := tight("rrrrrrrr", "rrrrrrr")
	for _, graph := range []string{"", loan, longest, written, "event a by r out due done;"} {
		k := begin(t, graph)
		again := expectEnd(t, k.log, len(k.log))
		again.settled("abcdefgh", "", api.Unknown)
		expectEnd(t, again.log, len(again.log))
	}
}

func TestP10Cut(t *testing.T) {
	k := loanLog(t)
	r := readLog(k.log)
	if len(r.ends) != 9 {
		t.Fatalf("the test's own log ends its records at %d", r.ends)
	}
	for n := range len(k.log) + 1 {
		if end := r.endWithin(n); end == 0 {
			expectNoLog(t, k.log[:n])
		} else {
			expectEnd(t, k.log[:n:n], end)
		}
	}
	expectNoLog(t, nil)
	expectNoLog(t, []byte{})
}

// TestP10GoesOn: a cut log goes on with the records that were cut off.
func TestP10GoesOn(t *testing.T) {
	k := loanLog(t)
	ends := readLog(k.log).ends
	again := expectEnd(t, k.log[:ends[4]+7], ends[4])
	again.settled("client", "apply", api.Accepted)
	again.settled("clerk", "check", api.Accepted)
	again.settled("\x00\xff", "", api.Unknown)
	again.settled("boss", "pay", api.Accepted)
	if !bytes.Equal(again.log, k.log) {
		t.Errorf("the log went on as %q, not as %q", again.log, k.log)
	}
}

// TestP10NoHeadRecord: head records that have their right hash, but are none.
func TestP10NoHeadRecord(t *testing.T) {
	tooLong, tooLongWritten := tight("rrrrrrrr", "rrrrrrrr")
	for _, text := range []string{
		"event a by c;", "event a by c; \n", " event a by c;\n", "event a by c;\n\n", "event  a by c;\n", "event a by c;\t",
		"event b by c;\nevent a by c;\n", "event a by d, c;\n", "event a by c,d;\n",
		"event a by c;\na ->* a;\na ->* a;\n", "event a by c;\na *-> a;\na ->* a;\n", "a ->* a;\nevent a by c;\n",
		"a ->* a;\n", "event a by c, c;\n", "event a by c;\nevent a by c;\n", "event abcdefghi by c;\n",
		"x", ";", "\n", "\x00", "event a by c due out;\n", "event a by",
		tooLong, tooLongWritten, strings.Repeat(" ", 401), strings.Repeat(" ", 2000), strings.Repeat(" ", 65535),
	} {
		expectNoLog(t, headRecord(text))
	}
	expectEnd(t, headRecord("event a by c;\n"), 22)
	expectEnd(t, headRecord(""), 8)
}

// sealed gives bytes their right hash.
func sealed(b ...byte) []byte { return append(b, number4(wideHash(b))...) }

func TestP10WrongHeadRecord(t *testing.T) {
	log := headRecord("event a by c;\n")
	bare := log[:18]
	for _, other := range []string{"D2", "d1", "R1", "DD", "1D", "\x001", "D\x00"} {
		expectNoLog(t, sealed(append([]byte(other), bare[2:]...)...))
	}
	for _, length := range [][2]byte{{0, 13}, {0, 15}, {14, 0}, {1, 14}, {0, 0}, {255, 255}, {0, 18}} {
		wrong := append([]byte{'D', '1', length[0], length[1]}, bare[4:]...)
		expectNoLog(t, append(wrong, log[18:]...))
		expectNoLog(t, sealed(wrong...))
	}
	for i := range log {
		for bit := range 8 {
			wrong := bytes.Clone(log)
			wrong[i] ^= 1 << bit
			expectNoLog(t, wrong)
		}
	}
	expectNoLog(t, append([]byte{' '}, log...))
	expectNoLog(t, log[1:])
	expectNoLog(t, append(bytes.Clone(bare), 0, 0, 0, 0))
	expectEnd(t, append(bytes.Clone(log), log...), 22)
}

// expectNotTaken: the log ends ahead of a wrong record, whatever stands behind it.
func (k *kept) expectNotTaken(wrong []byte) {
	k.t.Helper()
	end := len(k.log)
	log := append(bytes.Clone(k.log), wrong...)
	expectEnd(k.t, log, end)
	right := k.record("c", "a", api.Accepted)
	expectEnd(k.t, append(bytes.Clone(k.log), right...), end+len(right))
	expectEnd(k.t, append(log, right...), end)
	next := &kept{t: k.t, log: log, number: k.number + 1}
	expectEnd(k.t, append(log, next.record("c", "a", api.Accepted)...), end)
}

// changed is a record with one byte of it other, and its right hash again.
func changed(record []byte, at int, b byte) []byte {
	bare := bytes.Clone(record[:len(record)-4])
	bare[at] = b
	return sealed(bare...)
}

// TestP10WrongRecord: records that have their right hash, but one thing is wrong.
func TestP10WrongRecord(t *testing.T) {
	first := begin(t, "event a by c; event b by c;")
	third := begin(t, "event a by c; event b by c;")
	third.settled("c", "a", api.Accepted)
	third.settled("c", "x", api.Unknown)
	for _, k := range []*kept{first, third} {
		right := k.record("c", "a", api.Accepted)
		for _, mark := range []byte{'S', 'r', 'D', 0, 82 + 128} {
			k.expectNotTaken(changed(right, 0, mark))
		}
		for at := 1; at <= 4; at++ {
			k.expectNotTaken(changed(right, at, right[at]+1))
			k.expectNotTaken(changed(right, at, right[at]-1))
		}
		for at := 5; at <= 8; at++ {
			k.expectNotTaken(changed(right, at, right[at]^1))
			k.expectNotTaken(changed(right, at, right[at]^128))
		}
		for _, verdict := range []byte{1, 2, 3, 4, 5, 128, 255} {
			k.expectNotTaken(changed(right, len(right)-5, verdict))
		}
		k.expectNotTaken(changed(right, 10, 'd'))
		k.expectNotTaken(changed(right, 12, 'x'))
		for at := len(right) - 4; at < len(right); at++ {
			wrong := bytes.Clone(right)
			wrong[at]++
			k.expectNotTaken(wrong)
		}
		k.expectNotTaken([]byte{0})
		k.expectNotTaken(append([]byte("x"), right...))
	}
	third.expectNotTaken(changed(third.record("c", "a", api.Accepted), 4, 1))
	third.expectNotTaken(first.record("c", "a", api.Accepted))
}

// TestP10OtherVerdicts: each verdict is taken where the case says it, and there alone.
func TestP10OtherVerdicts(t *testing.T) {
	k := begin(t, "event a by c; event b by c out; event d by c; b ->+ a; a ->* d;")
	for event, right := range map[string]api.Verdict{"a": api.Accepted, "x": api.Unknown, "b": api.Out, "d": api.Blocked} {
		for verdict := api.Accepted; verdict <= api.Blocked+1; verdict++ {
			record := k.record("c", event, verdict)
			if verdict != right {
				k.expectNotTaken(record)
			} else {
				expectEnd(t, append(bytes.Clone(k.log), record...), len(k.log)+len(record))
			}
		}
	}
	k.expectNotTaken(k.record("e", "a", api.Accepted))
	k.expectNotTaken(k.record("e", "x", api.Barred))
	// The verdict hangs on the records ahead: behind a, d is blocked no more.
	k.settled("c", "a", api.Accepted)
	k.expectNotTaken(k.record("c", "d", api.Blocked))
	record := k.record("c", "d", api.Accepted)
	expectEnd(t, append(bytes.Clone(k.log), record...), len(k.log)+len(record))
}

func TestP10TooLong(t *testing.T) {
	k := begin(t, "event a by c;")
	for _, length := range []int{9, 10, 127, 128, 200, 255} {
		long := strings.Repeat("x", length)
		k.expectNotTaken(k.record(long, "a", api.Barred))
		k.expectNotTaken(k.record("c", long, api.Unknown))
		k.expectNotTaken(k.record(long, long, api.Unknown))
	}
	k.settled("abcdefgh", "abcdefgh", api.Unknown)
	k.settled("", "", api.Unknown)
	expectEnd(t, k.log, len(k.log))
}

// TestP10Bound: a record that ends at the bound is taken, none that ends behind it.
func TestP10Bound(t *testing.T) {
	for _, graph := range []string{"", "event a by c;", loan} {
		for _, left := range []int{0, 1, 15, 16, 17, 18, 31} {
			k := begin(t, graph)
			k.fill(api.MaxLog - left)
			expectEnd(t, k.log, api.MaxLog-left)
			for names := range 17 {
				role := strings.Repeat("#", names/2)
				record := k.record(role, strings.Repeat("#", names-len(role)), api.Unknown)
				want := len(k.log)
				if len(record) <= left {
					want += len(record)
				}
				expectEnd(t, append(bytes.Clone(k.log), record...), want)
			}
		}
	}
	k := begin(t, loan)
	k.fill(api.MaxLog)
	again := expectEnd(t, append(bytes.Clone(k.log), make([]byte, 1<<20)...), api.MaxLog)
	again.refused("", "", api.ErrFull)
	again.refused("client", "apply", api.ErrFull)
}

// TestP10RandomLogs: logs that were changed anyhow, with and without right hashes behind that.
func TestP10RandomLogs(t *testing.T) {
	d := dice(2)
	for range 150 {
		k := d.randomCase(t, d.throw(30))
		expectEnd(t, k.log, len(k.log))
		for range 10 {
			log := d.mangle(k.log)
			expectRead(t, log)
			if len(log) >= 8 {
				expectRead(t, reseal(log))
			}
		}
	}
}

// FuzzP10AnyBytes: any bytes, as they are and with right hashes.
func FuzzP10AnyBytes(f *testing.F) {
	f.Add(loanLog(f).log)
	f.Add(headRecord(""))
	f.Add([]byte("D1\xff\xff"))
	f.Add([]byte{})
	f.Fuzz(func(t *testing.T, log []byte) {
		before := bytes.Clone(log)
		expectRead(t, log)
		if !bytes.Equal(log, before) {
			t.Errorf("the log %q was changed: %q", before, log)
		}
		if len(log) >= 8 {
			expectRead(t, reseal(log))
		}
	})
}

// TestP10TakesNoOther: what a case that was taken up is asked is nothing to another.
func TestP10TakesNoOther(t *testing.T) {
	k := loanLog(t)
	one, two := expectEnd(t, k.log, len(k.log)), expectEnd(t, k.log, len(k.log))
	one.settled("client", "apply", api.Accepted)
	one.ask("boss", "check", api.Accepted)
	two.expectMark("check", "id")
	if e := two.Settle(); e != api.ErrIdle {
		t.Errorf("Settle of what another case was asked: %d", e)
	}
	two.settled("boss", "pay", api.Accepted)
	k.expectMark("check", "id")
	k.expectHead()
}
