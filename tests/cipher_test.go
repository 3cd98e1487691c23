package tests

import (
	"bytes"
	"crypto/aes"
	"crypto/cipher"
	"crypto/des"
	"math/bits"
	"testing"

	"loop.example/s01728/impl"
)

type blockCipher struct {
	name     string
	key      int
	block    int
	call     func(key []byte, block []byte, dec bool) []byte
	standard func(key []byte) (cipher.Block, error)
}

func ciphers() []blockCipher {
	return []blockCipher{
		{"Des", 8, 8, impl.Des, des.NewCipher},
		{"Tdea", 16, 8, impl.Tdea, standardTdea},
		{"Aes", 16, 16, impl.Aes, aes.NewCipher},
	}
}

func standardTdea(key []byte) (cipher.Block, error) {
	return des.NewTripleDESCipher(append(bytes.Clone(key), key[:8]...))
}

func keysAndBlocks(c blockCipher, each func(key, block []byte)) {
	chance := &source{seed: c.name}
	for range 300 {
		each(chance.take(c.key), chance.take(c.block))
	}
	for _, key := range edges(c.key) {
		each(key, chance.take(c.block))
		each(key, make([]byte, c.block))
	}
	for _, block := range edges(c.block) {
		each(chance.take(c.key), block)
		each(make([]byte, c.key), block)
	}
}

// Promise 1.
func TestDecUndoesAndIsUndone(t *testing.T) {
	for _, c := range ciphers() {
		keysAndBlocks(c, func(key, block []byte) {
			there := c.call(key, block, false)
			same(t, c.name+" there and back", c.call(key, there, true), block)
			back := c.call(key, block, true)
			same(t, c.name+" back and there", c.call(key, back, false), block)
		})
	}
}

func TestCiphersAreTheStandardOnes(t *testing.T) {
	for _, c := range ciphers() {
		keysAndBlocks(c, func(key, block []byte) {
			standard, err := c.standard(key)
			if err != nil {
				t.Fatal(err)
			}
			want := make([]byte, c.block)
			standard.Encrypt(want, block)
			same(t, c.name, c.call(key, block, false), want)
			standard.Decrypt(want, block)
			same(t, c.name+" with dec", c.call(key, block, true), want)
		})
	}
}

func TestPublishedAnswers(t *testing.T) {
	rows := []struct {
		call             func(key []byte, block []byte, dec bool) []byte
		key, plain, made string
	}{
		{impl.Des, "133457799bbcdff1", "0123456789abcdef", "85e813540f0ab405"},
		{impl.Des, "0101010101010101", "8000000000000000", "95f8a5e5dd31d900"},
		{impl.Des, "8001010101010101", "0000000000000000", "95a8d72813daa94d"},
		{impl.Aes, "2b7e151628aed2a6abf7158809cf4f3c", "3243f6a8885a308d313198a2e0370734", "3925841d02dc09fbdc118597196a0b32"},
		{impl.Aes, "000102030405060708090a0b0c0d0e0f", "00112233445566778899aabbccddeeff", "69c4e0d86a7b0430d8cdb78070b4c55a"},
	}
	for _, r := range rows {
		key, plain, made := fromHex(t, r.key), fromHex(t, r.plain), fromHex(t, r.made)
		same(t, "key "+r.key, r.call(key, plain, false), made)
		same(t, "key "+r.key+" with dec", r.call(key, made, true), plain)
	}
}

func TestTdeaIsThreeTimesDes(t *testing.T) {
	chance := &source{seed: "three"}
	for range 100 {
		one, two, block := chance.take(8), chance.take(8), chance.take(8)
		want := impl.Des(one, impl.Des(two, impl.Des(one, block, false), true), false)
		same(t, "Tdea", impl.Tdea(append(bytes.Clone(one), two...), block, false), want)
		same(t, "equal halves", impl.Tdea(append(bytes.Clone(one), one...), block, false), impl.Des(one, block, false))
	}
}

// Promise 2.
func TestParityBitsCountForNothing(t *testing.T) {
	for _, c := range ciphers()[:2] {
		chance := &source{seed: "parity of " + c.name}
		for _, key := range append(edges(c.key), chance.take(c.key), chance.take(c.key)) {
			block := chance.take(c.block)
			for _, dec := range []bool{false, true} {
				want := c.call(key, block, dec)
				same(t, c.name+" under OddParity", c.call(impl.OddParity(key), block, dec), want)
				for at := range key {
					same(t, c.name+" with a parity bit turned", c.call(flipped(key, 8*at+7), block, dec), want)
				}
			}
		}
	}
}

func TestEveryOtherKeyBitCounts(t *testing.T) {
	for _, c := range ciphers() {
		chance := &source{seed: "key bits of " + c.name}
		key, block := chance.take(c.key), chance.take(c.block)
		for bit := range 8 * c.key {
			if c.name != "Aes" && bit%8 == 7 {
				continue
			}
			for _, dec := range []bool{false, true} {
				if bytes.Equal(c.call(flipped(key, bit), block, dec), c.call(key, block, dec)) {
					t.Errorf("%s (dec %v): bit %d of the key counts for nothing", c.name, dec, bit+1)
				}
			}
		}
	}
}

func TestOddParityOfEveryByte(t *testing.T) {
	all := make([]byte, 256)
	for i := range all {
		all[i] = byte(i)
	}
	odd := impl.OddParity(all)
	if len(odd) != len(all) {
		t.Fatalf("%d bytes, not %d", len(odd), len(all))
	}
	for i, b := range odd {
		if bits.OnesCount8(b)%2 != 1 || b&^1 != all[i]&^1 {
			t.Errorf("%02x becomes %02x", i, b)
		}
	}
	same(t, "twice", impl.OddParity(odd), odd)
}

func TestOddParityLengths(t *testing.T) {
	empty(t, "nil", impl.OddParity(nil))
	empty(t, "none", impl.OddParity([]byte{}))
	most := make([]byte, impl.MaxData)
	same(t, "MaxData bytes", impl.OddParity(most), bytes.Repeat([]byte{1}, impl.MaxData))
	empty(t, "one more", impl.OddParity(make([]byte, impl.MaxData+1)))
}

func TestCiphersRefuseOtherLengths(t *testing.T) {
	lengths := []int{0, 1, 7, 8, 9, 15, 16, 17, 23, 24, 25, 32, impl.MaxData, impl.MaxData + 1}
	for _, c := range ciphers() {
		for _, key := range lengths {
			for _, block := range lengths {
				for _, dec := range []bool{false, true} {
					got := c.call(make([]byte, key), make([]byte, block), dec)
					if key == c.key && block == c.block {
						if len(got) != c.block {
							t.Errorf("%s of right lengths: %d bytes", c.name, len(got))
						}
						continue
					}
					empty(t, c.name, got)
				}
			}
		}
		empty(t, c.name+" of nil", c.call(nil, nil, false))
		empty(t, c.name+" of nil with dec", c.call(nil, nil, true))
	}
}

func TestCiphersLeaveTheirArgumentsAlone(t *testing.T) {
	chance := &source{seed: "alone"}
	for _, c := range ciphers() {
		for _, dec := range []bool{false, true} {
			call := func(args [][]byte) []byte { return c.call(args[0], args[1], dec) }
			leavesAlone(t, c.name, call, chance.take(c.key), chance.take(c.block))
		}
	}
	parity := func(args [][]byte) []byte { return impl.OddParity(args[0]) }
	leavesAlone(t, "OddParity", parity, chance.take(16))
	leavesAlone(t, "OddParity of what is odd", parity, impl.OddParity(chance.take(16)))
}
