package dossier_test

import (
	"bytes"
	"encoding/binary"
	"strings"
	"testing"

	"dossier/api"
	"dossier/dossier"
)

// reading is what the words of P10 make of a list of bytes.
type reading struct {
	ends   []int // of the head record, and of each record behind it that is right
	counts [5]int
	model  *model
}

func (r *reading) end() int { return r.ends[len(r.ends)-1] }

// endWithin is the last end within so many bytes, or 0.
func (r *reading) endWithin(bytes int) int {
	last := 0
	for _, end := range r.ends {
		if end <= bytes {
			last = end
		}
	}
	return last
}

// readLog answers a reading without an end if there is no right head record.
func readLog(log []byte) *reading {
	r := &reading{}
	if len(log) < 8 || log[0] != 68 || log[1] != 49 {
		return r
	}
	size := int(log[2])*256 + int(log[3])
	if len(log) < size+8 || !isSealed(log[:size+8]) {
		return r
	}
	text := string(log[4 : size+4])
	if written, e, _ := dossier.Print(text); e != api.OK || written != text {
		return r
	}
	r.ends, r.model = []int{size + 8}, newModel(text)
	for r.takeNext(log) {
	}
	return r
}

// lastHash is the number in the last four bytes.
func lastHash(log []byte) uint32 { return binary.BigEndian.Uint32(log[len(log)-4:]) }

func isSealed(b []byte) bool {
	at := len(b) - 4
	return bytes.Equal(b[at:], number4(wideHash(b[:at])))
}

// takeNext goes by one record, if there is one that is right.
func (r *reading) takeNext(log []byte) bool {
	at := r.end()
	rest := log[at:]
	size := recordSize(rest)
	if size == 0 || at+size > api.MaxLog || rest[0] != 82 || !isSealed(rest[:size]) {
		return false
	}
	if !bytes.Equal(rest[1:5], number4(uint32(len(r.ends)))) || !bytes.Equal(rest[5:9], log[at-4:at]) {
		return false
	}
	role := string(rest[10 : 10+int(rest[9])])
	event := string(rest[11+len(role) : size-5])
	verdict := r.model.verdict(role, event)
	if len(role) > api.MaxName || len(event) > api.MaxName || api.Verdict(rest[size-5]) != verdict {
		return false
	}
	if verdict == api.Accepted {
		r.model.do(event)
	}
	r.counts[verdict]++
	r.ends = append(r.ends, at+size)
	return true
}

// recordSize is 0 if the bytes do not reach to a record's end.
func recordSize(b []byte) int {
	if len(b) < 10 || len(b) < 11+int(b[9]) {
		return 0
	}
	size := 16 + int(b[9]) + int(b[10+int(b[9])])
	if len(b) < size {
		return 0
	}
	return size
}

// expectRead holds Recover and Audit against the reading, and answers the case
// that was taken up, if there is one.
func expectRead(t testing.TB, log []byte) *kept {
	t.Helper()
	r := readLog(log)
	if r.ends == nil {
		expectNoLog(t, log)
		return nil
	}
	end := r.end()
	c, n, e := dossier.Recover(log)
	if c == nil || n != end || e != api.OK {
		t.Fatalf("Recover(%q): %v, %d, %d, want a case and %d", log, c, n, e, end)
	}
	k := &kept{Case: c, t: t, log: bytes.Clone(log[:end]), number: len(r.ends) - 1}
	for _, role := range []string{"r", "s", "boss", "client", ""} {
		k.expectLike(r.model, role)
	}
	if e := c.Settle(); e != api.ErrIdle {
		t.Errorf("Settle of a case that was taken up: %d", e)
	}
	report := api.Report{Counts: r.counts, Head: c.Head()}
	if end == len(log) {
		expectAudit(t, log, c.Head(), report, end, api.OK)
		expectAudit(t, log, c.Head()+1, api.Report{}, end, api.ErrHead)
	} else {
		expectAudit(t, log, c.Head(), api.Report{}, end, api.ErrLog)
		expectAudit(t, log, c.Head()+1, api.Report{}, end, api.ErrLog)
	}
	return k
}

// expectNoLog: with ErrLog comes nothing else, and no place but 0.
func expectNoLog(t testing.TB, log []byte) {
	t.Helper()
	if c, n, e := dossier.Recover(log); c != nil || n != 0 || e != api.ErrLog {
		t.Errorf("Recover(%.500q): %v, %d, %d, want ErrLog alone", log, c, n, e)
	}
	expectAudit(t, log, 0, api.Report{}, 0, api.ErrLog)
	if len(log) >= 4 {
		expectAudit(t, log, lastHash(log), api.Report{}, 0, api.ErrLog)
	}
}

func expectAudit(t testing.TB, log []byte, head uint32, want api.Report, wantPlace int, wantErr api.Errno) {
	t.Helper()
	report, n, e := dossier.Audit(log, head)
	if report != want || n != wantPlace || e != wantErr {
		t.Errorf("Audit(%.500q, %d): %+v, %d, %d, want %+v, %d, %d", log, head, report, n, e, want, wantPlace, wantErr)
	}
}

// expectEnd: the log is right just so far, by the test's own word too.
func expectEnd(t testing.TB, log []byte, want int) *kept {
	t.Helper()
	k := expectRead(t, log)
	if k == nil || len(k.log) != want {
		t.Fatalf("the log %q is not right up to %d", log, want)
	}
	return k
}

// randomCase has any requests of any graph settled.
func (d *dice) randomCase(t testing.TB, requests int) *kept {
	names := []string{"a", "b", "c", "d", "e"}
	k := begin(t, d.graph(names[:1+d.throw(len(names))]))
	m := newModel(string(k.log[4 : len(k.log)-4]))
	for range requests {
		role, event := d.oneOf("r", "s", "r", "s", "t", ""), d.oneOf(append(names, "x", "\xff", "abcdefgh")...)
		verdict := m.verdict(role, event)
		k.settled(role, event, verdict)
		if verdict == api.Accepted {
			m.do(event)
		}
	}
	return k
}

// mangle changes a log in one of many ways; it may be right behind that.
func (d *dice) mangle(log []byte) []byte {
	log = bytes.Clone(log)
	switch at := d.throw(len(log)); d.throw(6) {
	case 0:
		return log[:at]
	case 1:
		log[at] ^= byte(1 << d.throw(8))
	case 2:
		log[at] = byte(d.throw(256))
	case 3:
		return append(log[:at], log[min(len(log), at+1+d.throw(40)):]...)
	case 4:
		return append(log[:at:at], log[max(0, at-d.throw(40)):]...)
	case 5:
		return append(log, d.oneOf("R", "\x00", "D1", strings.Repeat("R", 40), string(log[:at]))...)
	}
	return log
}

// reseal gives the head record and all records the hashes that are right for
// what else stands in them.
func reseal(log []byte) []byte {
	log = bytes.Clone(log)
	at := 8 + int(log[2])<<8 + int(log[3])
	if at > len(log) {
		return log
	}
	copy(log[at-4:], number4(wideHash(log[:at-4])))
	for size := recordSize(log[at:]); size > 0; size = recordSize(log[at:]) {
		copy(log[at+5:], log[at-4:at])
		copy(log[at+size-4:], number4(wideHash(log[at:at+size-4])))
		at += size
	}
	return log
}
