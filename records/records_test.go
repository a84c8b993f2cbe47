package records

import (
	"bytes"
	"testing"

	"dossier/api"
)

func TestHash(t *testing.T) {
	for text, want := range map[string]uint32{"": 7, "\x00": 7000022, "\xff": 7000277, "\x00\x00": 3541274883} {
		if h := Hash([]byte(text)); h != want {
			t.Errorf("Hash(%q) = %d, want %d", text, h, want)
		}
	}
}

// sealed writes the hash out by hand.
func sealed(text string) []byte {
	h := Hash([]byte(text))
	return append([]byte(text), byte(h>>24), byte(h>>16), byte(h>>8), byte(h))
}

func TestBegin(t *testing.T) {
	long := string(make([]byte, 0x0123))
	for written, text := range map[string]string{
		"":                "D1\x00\x00",
		"event a by c;\n": "D1\x00\x0eevent a by c;\n",
		long:              "D1\x01\x23" + long,
	} {
		head, end := Begin(written)
		if !bytes.Equal(head, sealed(text)) || end != (End{Length: len(text) + 4, Hash: Hash([]byte(text))}) {
			t.Errorf("Begin(%q): %q, %+v", written, head, end)
		}
	}
}

func TestNext(t *testing.T) {
	record, end := End{Number: 0x010203fe, Length: 22, Hash: 0x87654321}.Next("\xff\x00", "pay", api.Blocked)
	text := "R\x01\x02\x03\xff\x87\x65\x43\x21\x02\xff\x00\x03pay\x04"
	if !bytes.Equal(record, sealed(text)) || end != (End{Number: 0x010203ff, Length: 43, Hash: Hash([]byte(text))}) {
		t.Errorf("Next: %q, %+v, want %q", record, end, sealed(text))
	}
}
