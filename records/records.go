// Package records has the bytes of a log's records, each chained to the one
// before by a hash.
package records

import "dossier/api"

const (
	headMark   = "D1"
	recordMark = "R"
)

// How many bytes a record has beside its texts.
const (
	aheadOfTexts = 9 // the mark, the number, the hash of the record before
	behindTexts  = 5 // the verdict, the hash
	shortest     = aheadOfTexts + 2 + behindTexts
)

// Hash is a number out of bytes.
func Hash(b []byte) uint32 {
	h := uint32(7)
	for _, one := range b {
		h = h*1000003 + uint32(one) + 1
	}
	return h
}

// End is how a log ends, which is all that its next record hangs on.
type End struct {
	Number uint32 // of the last record; 0 behind the head record
	Length int    // of the whole log, in bytes
	Hash   uint32 // with which the last record ends
}

// Begin makes the head record of a log from its written graph.
func Begin(written string) ([]byte, End) {
	head := append([]byte(headMark), byte(len(written)>>8), byte(len(written)))
	head, hash := seal(append(head, written...))
	return head, End{Length: len(head), Hash: hash}
}

// Next makes the record of a request, and tells how the log ends with it.
func (e End) Next(role, event string, verdict api.Verdict) ([]byte, End) {
	record := appendNumber([]byte(recordMark), e.Number+1)
	record = appendNumber(record, e.Hash)
	record = appendText(record, role)
	record = appendText(record, event)
	record, hash := seal(append(record, byte(verdict)))
	return record, End{Number: e.Number + 1, Length: e.Length + len(record), Hash: hash}
}

// seal sets the hash of the bytes behind them.
func seal(record []byte) ([]byte, uint32) {
	hash := Hash(record)
	return appendNumber(record, hash), hash
}

func appendNumber(b []byte, n uint32) []byte {
	return append(b, byte(n>>24), byte(n>>16), byte(n>>8), byte(n))
}

func appendText(b []byte, text string) []byte {
	return append(append(b, byte(len(text))), text...)
}
