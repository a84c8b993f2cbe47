package records

import (
	"bytes"
	"strings"
	"testing"
)

func TestWritten(t *testing.T) {
	long := strings.Repeat("x", 0x0123)
	for log, want := range map[string]string{
		"D1\x00\x00":                   "",
		"D1\x00\x00hash":               "",
		"D1\x00\x03abc":                "abc",
		"D1\x00\x03abcdef":             "abc",
		"D1\x01\x23" + long + "behind": long,
	} {
		if text, ok := Written([]byte(log)); text != want || !ok {
			t.Errorf("Written(%q) = %q, %v", log, text, ok)
		}
	}
	for _, log := range []string{"", "D", "D1", "D1\x00", "D1\x00\x01", "D1\x00\x03ab", "D1\x01\x03abc", "D1\xff\xffabc"} {
		if text, ok := Written([]byte(log)); text != "" || ok {
			t.Errorf("Written(%q) = %q, %v", log, text, ok)
		}
	}
}

// split has all that is found in a log, and sees that there was room for it.
func split(t *testing.T, log []byte) []Record {
	t.Helper()
	var list []Record
	found := Split(log)
	room := cap(found)
	for record := range found {
		list = append(list, record)
	}
	if len(list) > room {
		t.Errorf("Split(%q) has room for %d of %d records", log, room, len(list))
	}
	return list
}

func TestSplit(t *testing.T) {
	long := strings.Repeat("e", 255)
	all := []Record{
		{Role: "", Event: "", Bytes: []byte("R********\x00\x00V****")},
		{Role: "", Event: "", Bytes: []byte("S........\x00\x00v....")},
		{Role: "boss", Event: "pay", Bytes: []byte("R********\x04boss\x03payV****")},
		{Role: "", Event: "\xff\x00", Bytes: []byte("R********\x00\x02\xff\x00V****")},
		{Role: "r", Event: long, Bytes: []byte("R********\x01r\xff" + long + "V****")},
		{Role: long, Event: "", Bytes: []byte("R********\xff" + long + "\x00V****")},
	}
	var log []byte
	var ends []int
	for _, one := range all {
		log = append(log, one.Bytes...)
		ends = append(ends, len(log))
	}
	for n := range len(log) + 1 {
		list := split(t, log[:n:n])
		whole := 0
		for whole < len(ends) && ends[whole] <= n {
			whole++
		}
		if len(list) != whole {
			t.Fatalf("Split of %d bytes: %d records, want %d", n, len(list), whole)
		}
		for i, r := range list {
			if r.Role != all[i].Role || r.Event != all[i].Event || !bytes.Equal(r.Bytes, all[i].Bytes) {
				t.Errorf("Split: record %d is %q", i, r)
			}
		}
	}
}

func TestSplitShortest(t *testing.T) {
	if list := split(t, make([]byte, 16*100)); len(list) != 100 {
		t.Errorf("Split of the shortest records: %d of 100", len(list))
	}
}
