package dossier_test

import (
	"bytes"
	"math/big"
	"testing"

	"dossier/dossier"
)

func TestP6Examples(t *testing.T) {
	for _, c := range []struct {
		bytes []byte
		want  uint32
	}{
		{nil, 7}, {[]byte{}, 7}, {[]byte{0}, 7000022}, {[]byte{255}, 7000277}, {[]byte{0, 0}, 3541274883},
	} {
		if h := dossier.Hash(c.bytes); h != c.want {
			t.Errorf("Hash(%v) = %d, want %d", c.bytes, h, c.want)
		}
	}
}

// wideHash goes by the words of P6 in numbers without an end, cut to 32 bits at last.
func wideHash(b []byte) uint32 {
	h := big.NewInt(7)
	for _, one := range b {
		h.Mul(h, big.NewInt(1000003))
		h.Add(h, big.NewInt(int64(one)+1))
	}
	return uint32(h.Mod(h, big.NewInt(1<<32)).Uint64())
}

func TestP6AllBytes(t *testing.T) {
	var all []byte
	for n := range 256 {
		all = append(all, byte(n))
		for _, b := range [][]byte{{byte(n)}, {byte(n), 0}, {0, byte(n)}, all, bytes.Repeat([]byte{byte(n)}, 50)} {
			if h := dossier.Hash(b); h != wideHash(b) {
				t.Errorf("Hash(%v) = %d, want %d", b, h, wideHash(b))
			}
		}
	}
	long := bytes.Repeat(all, 1000)
	if dossier.Hash(long) != dossier.Hash(bytes.Clone(long)) || dossier.Hash(long) == dossier.Hash(long[1:]) {
		t.Error("Hash of many bytes")
	}
}
