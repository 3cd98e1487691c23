package tests

import (
	"bytes"
	"crypto/sha256"
	"encoding/binary"
	"encoding/hex"
	"testing"
)

// source gives bytes that look like chance and are the same in every run.
type source struct {
	seed  string
	count uint64
	left  []byte
}

func (s *source) take(n int) []byte {
	for len(s.left) < n {
		sum := sha256.Sum256(binary.BigEndian.AppendUint64([]byte(s.seed), s.count))
		s.count++
		s.left = append(s.left, sum[:]...)
	}
	out := bytes.Clone(s.left[:n])
	s.left = s.left[n:]
	return out
}

func fromHex(t *testing.T, text string) []byte {
	t.Helper()
	out, err := hex.DecodeString(text)
	if err != nil {
		t.Fatal(err)
	}
	return out
}

func same(t *testing.T, what string, got, want []byte) {
	t.Helper()
	if !bytes.Equal(got, want) {
		t.Errorf("%s: %x, not %x", what, got, want)
	}
}

func empty(t *testing.T, what string, got []byte) {
	t.Helper()
	if len(got) != 0 {
		t.Errorf("%s: %x, not empty", what, got)
	}
}

// edges are the blocks of n bytes at which carries, turns and parity go wrong first.
func edges(n int) [][]byte {
	out := [][]byte{make([]byte, n), bytes.Repeat([]byte{0xFF}, n), bytes.Repeat([]byte{1}, n), bytes.Repeat([]byte{0xFE}, n)}
	for bit := range 8 * n {
		out = append(out, flipped(make([]byte, n), bit))
	}
	return out
}

// flipped counts bits from the highest of the first byte, here from 0.
func flipped(b []byte, bit int) []byte {
	out := bytes.Clone(b)
	out[bit/8] ^= 0x80 >> (bit % 8)
	return out
}

func xorOf(a, b []byte) []byte {
	out := bytes.Clone(a)
	for i := range out {
		out[i] ^= b[i]
	}
	return out
}

// leavesAlone tells that a call answers alike twice, writes neither to its
// arguments nor behind their ends, and answers with memory of its own.
func leavesAlone(t *testing.T, what string, call func(args [][]byte) []byte, args ...[]byte) {
	t.Helper()
	var roomy, whole, before [][]byte
	for _, a := range args {
		w := append(bytes.Clone(a), bytes.Repeat([]byte{0xA5}, 64)...)
		whole = append(whole, w)
		before = append(before, bytes.Clone(w))
		roomy = append(roomy, w[:len(a)])
	}
	first := call(roomy)
	kept := bytes.Clone(first)
	second := call(roomy)
	same(t, what+": second call", second, kept)
	first = first[:cap(first)]
	for i := range first {
		first[i] ^= 0xFF
	}
	same(t, what+": second answer once the first is overwritten", second, kept)
	for i := range whole {
		same(t, what+": argument", whole[i], before[i])
	}
	same(t, what+": third call", call(roomy), kept)
}
