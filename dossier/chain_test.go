package dossier_test

import (
	"bytes"
	"encoding/binary"
	"math/rand/v2"
	"slices"
	"testing"

	"dossier/api"
	"dossier/dossier"
)

// TestP12KeptLog: what was kept comes to the case as it stands, and each
// beginning of it to the case as it stood behind one of its records.
func TestP12KeptLog(t *testing.T) {
	d := dice(3)
	for range 40 {
		k := d.randomCase(t, d.throw(40))
		again := expectEnd(t, k.log, len(k.log))
		if _, n, e := dossier.Audit(k.log, k.Head()); n != len(k.log) || e != api.OK {
			t.Errorf("Audit of the log that was kept: %d, %d", n, e)
		}
		expectSame(t, again.Case, k.Case)
		r := readLog(k.log)
		for range 20 {
			n := r.ends[0] + d.throw(len(k.log)-r.ends[0]+1)
			expectEnd(t, k.log[:n], r.endWithin(n))
		}
	}
}

// expectSame: two cases tell the same, and answer the same to what is asked next.
func expectSame(t *testing.T, one, two *dossier.Case) {
	t.Helper()
	if one.Head() != two.Head() || one.Accepting() != two.Accepting() {
		t.Errorf("two cases tell the heads %d, %d", one.Head(), two.Head())
	}
	for _, event := range []string{"a", "b", "c", "d", "e", "x"} {
		m, e := one.Mark(event)
		n, f := two.Mark(event)
		v, record, g := one.Ask("r", event)
		w, other, h := two.Ask("r", event)
		if m != n || e != f || v != w || !bytes.Equal(record, other) || g != h || one.Settle() != two.Settle() {
			t.Errorf("two cases answer otherwise of %q", event)
		}
	}
}

// TestP12Unsettled: what was not settled is not in the case, unless its record was written.
func TestP12Unsettled(t *testing.T) {
	k := loanLog(t)
	record := k.ask("client", "apply", api.Accepted)
	again := expectEnd(t, k.log, len(k.log))
	again.expectMark("check", "id")
	again.settled("client", "apply", api.Accepted)
	for n := range len(record) {
		expectEnd(t, append(bytes.Clone(k.log), record[:n]...), len(k.log))
	}
	again = expectEnd(t, append(bytes.Clone(k.log), record...), len(k.log)+len(record))
	again.expectMark("check", "iud")
	k.expectMark("check", "id")
}

// lastOther has the records, without their hashes, at which two logs differ last.
func lastOther(one, two []byte) ([]byte, []byte) {
	a, b := pieces(one), pieces(two)
	for len(a) > 0 && len(b) > 0 {
		i, j := len(a)-1, len(b)-1
		if !bytes.Equal(a[i], b[j]) {
			return a[i][:len(a[i])-4], b[j][:len(b[j])-4]
		}
		a, b = a[:i], b[:j]
	}
	return nil, nil
}

// pieces has the head record and the records of a log that is right.
func pieces(log []byte) [][]byte {
	var list [][]byte
	at := 0
	for _, end := range readLog(log).ends {
		list = append(list, log[at:end])
		at = end
	}
	return list
}

// expectChained: two logs that are accepted with one hash are the same, or have
// two byte strings in them that are not the same and have the same Hash.
func expectChained(t *testing.T, one, two []byte, head uint32) bool {
	t.Helper()
	_, _, e := dossier.Audit(one, head)
	_, _, f := dossier.Audit(two, head)
	if e != api.OK || f != api.OK || bytes.Equal(one, two) {
		return false
	}
	a, b := lastOther(one, two)
	if bytes.Equal(a, b) || dossier.Hash(a) != dossier.Hash(b) {
		t.Errorf("accepted with one hash, but without two byte strings that have one Hash:\n%q\n%q", one, two)
	}
	return true
}

// twins looks for two requests whose first records end with the same hash.
func (k *kept) twins(verdict api.Verdict) (one, two []byte) {
	k.t.Helper()
	bare := k.record("........", "........", verdict)
	bare = bare[:len(bare)-4]
	numbers := rand.New(rand.NewPCG(1, 2))
	seen := map[uint32][]byte{}
	for range 1 << 20 {
		binary.BigEndian.PutUint64(bare[10:], numbers.Uint64())
		binary.BigEndian.PutUint64(bare[19:], numbers.Uint64())
		before := seen[dossier.Hash(bare)]
		if before != nil && !bytes.Equal(before, bare) {
			return sealed(before...), sealed(bare...)
		}
		seen[dossier.Hash(bare)] = bytes.Clone(bare)
	}
	k.t.Fatal("no two records with one Hash were found")
	return nil, nil
}

// TestP12OneHash: two logs are accepted with one hash, and have two records with
// one Hash at the place where they differ last.
func TestP12OneHash(t *testing.T) {
	k := begin(t, "event a by c;")
	one, two := k.twins(api.Unknown)
	first := &kept{t: t, log: append(bytes.Clone(k.log), one...), number: 1}
	second := &kept{t: t, log: append(bytes.Clone(k.log), two...), number: 1}
	for range 3 {
		if !expectChained(t, first.log, second.log, lastHash(first.log)) {
			t.Fatalf("the logs %q and %q are not both accepted with one hash", first.log, second.log)
		}
		record := first.record("c", "a", api.Accepted)
		for _, k := range []*kept{first, second} {
			k.log = append(k.log, record...)
			k.number++
		}
	}
}

// TestP12OtherPiece: a head record or record with another byte in it and its own
// right hash; what stands behind it is as it was, so that the log ends with the
// same hash.
func TestP12OtherPiece(t *testing.T) {
	k := loanLog(t)
	list := pieces(k.log)
	for i, piece := range list[:len(list)-1] {
		for at := range len(piece) - 4 {
			for _, bit := range []byte{1, 2, 16, 128} {
				other := slices.Clone(list)
				other[i] = changed(piece, at, piece[at]^bit)
				if expectChained(t, k.log, bytes.Join(other, nil), k.Head()) {
					t.Errorf("accepted with the byte %d of the piece %d changed", at, i)
				}
			}
		}
	}
}

// TestP12OtherGraph: the same records behind a graph for which they are right too.
func TestP12OtherGraph(t *testing.T) {
	one, two := begin(t, "event a by c;"), begin(t, "event a by c; event b by c;")
	for range 3 {
		one.settled("c", "a", api.Accepted)
		two.settled("c", "a", api.Accepted)
	}
	mixed := append(bytes.Clone(two.log[:36]), one.log[22:]...)
	for _, log := range [][]byte{two.log, mixed, reseal(mixed)} {
		if expectChained(t, one.log, log, one.Head()) {
			t.Errorf("%q is accepted with the hash of %q", log, one.log)
		}
	}
}

// TestP12RandomLogs: no other log is accepted with the hash of one, but for two
// byte strings that have one Hash.
func TestP12RandomLogs(t *testing.T) {
	d := dice(5)
	for range 100 {
		k := d.randomCase(t, d.throw(12))
		for range 20 {
			other := d.mangle(k.log)
			expectChained(t, k.log, other, k.Head())
			if len(other) >= 8 {
				expectChained(t, k.log, reseal(other), k.Head())
			}
		}
		expectChained(t, k.log, d.randomCase(t, d.throw(12)).log, k.Head())
	}
}
