package dossier_test

import (
	"bytes"
	"testing"

	"dossier/api"
	"dossier/dossier"
)

func TestP11Report(t *testing.T) {
	k := begin(t, loan)
	expectAudit(t, k.log, k.Head(), api.Report{Head: k.Head()}, len(k.log), api.OK)
	k = loanLog(t)
	expectAudit(t, k.log, k.Head(), api.Report{Counts: [5]int{3, 2, 1, 1, 1}, Head: k.Head()}, len(k.log), api.OK)
	k.settled("boss", "deny", api.Out)
	expectAudit(t, k.log, k.Head(), api.Report{Counts: [5]int{3, 2, 1, 2, 1}, Head: k.Head()}, len(k.log), api.OK)
	k = begin(t, "")
	k.fill(api.MaxLog)
	expectAudit(t, k.log, k.Head(), api.Report{Counts: [5]int{1: k.number}, Head: k.Head()}, api.MaxLog, api.OK)
}

func TestP11OtherHead(t *testing.T) {
	for _, k := range []*kept{begin(t, loan), loanLog(t)} {
		for bit := range 32 {
			expectAudit(t, k.log, k.Head()^1<<bit, api.Report{}, len(k.log), api.ErrHead)
		}
		expectAudit(t, k.log, 0, api.Report{}, len(k.log), api.ErrHead)
		expectAudit(t, k.log, dossier.Hash(k.log), api.Report{}, len(k.log), api.ErrHead)
	}
	k := loanLog(t)
	expectAudit(t, k.log, lastHash(headRecord(loanWritten)), api.Report{}, len(k.log), api.ErrHead)
}

// TestP11NotAll: something is wrong or behind, and ErrLog comes ahead of ErrHead.
func TestP11NotAll(t *testing.T) {
	k := loanLog(t)
	r := readLog(k.log)
	for n := range len(k.log) {
		end := r.endWithin(n)
		heads := []uint32{k.Head(), k.Head() + 1}
		if end > 0 {
			heads = append(heads, lastHash(k.log[:end]))
		}
		other := bytes.Clone(k.log)
		other[n] ^= 16
		for _, head := range heads {
			expectAudit(t, other, head, api.Report{}, end, api.ErrLog)
			if n != end || n == 0 {
				expectAudit(t, k.log[:n], head, api.Report{}, end, api.ErrLog)
			}
		}
	}
	for _, more := range []string{"\x00", "R", "D1", "\n", string(k.log), string(k.log[r.ends[0]:r.ends[1]]), string(k.log[r.ends[7]:])} {
		log := append(bytes.Clone(k.log), more...)
		expectAudit(t, log, k.Head(), api.Report{}, len(k.log), api.ErrLog)
		expectAudit(t, log, k.Head()+1, api.Report{}, len(k.log), api.ErrLog)
	}
}

// TestP11Places: records that are right, but stand at other places.
func TestP11Places(t *testing.T) {
	k := loanLog(t)
	ends := readLog(k.log).ends
	for order, right := range map[string]int{
		"10234567": 0, "02134567": 1, "1234567": 0, "0124567": 3, "001234567": 1, "0123456776": 8, "01234576": 6, "7": 0, "0123456701234567": 8,
	} {
		log := bytes.Clone(k.log[:ends[0]])
		for _, digit := range order {
			log = append(log, k.log[ends[digit-'0']:ends[digit-'0'+1]]...)
		}
		expectAudit(t, log, k.Head(), api.Report{}, ends[right], api.ErrLog)
	}
	expectAudit(t, k.log[:ends[5]], k.Head(), api.Report{}, ends[5], api.ErrHead)
}

// TestP11AboveBound: records behind the bound are right in all but that.
func TestP11AboveBound(t *testing.T) {
	k := begin(t, "event a by c;")
	k.fill(api.MaxLog - 10)
	right, head := len(k.log), k.Head()
	for range 5 {
		k.log = append(k.log, k.record("c", "a", api.Accepted)...)
		k.number++
		expectAudit(t, k.log, lastHash(k.log), api.Report{}, right, api.ErrLog)
		expectAudit(t, k.log, head, api.Report{}, right, api.ErrLog)
	}
}
