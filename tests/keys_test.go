package tests

import (
	"bytes"
	"crypto/aes"
	"crypto/des"
	"math"
	"testing"

	"loop.example/s01728/impl"
)

const allOnes = 1<<21 - 1

// counters are 0, each of the 21 bits alone, all of them, and some between.
func counters() []int {
	out := []int{0, allOnes, allOnes - 1, 3, 0x10001, 0x0FFFFF, 0x155555, 0x0AAAAA, 0xFF00, 0x1F0000}
	for bit := range 21 {
		out = append(out, 1<<bit)
	}
	return out
}

// withCounter leaves the serial number's other 59 bits as they are.
func withCounter(ksn []byte, counter int) []byte {
	out := bytes.Clone(ksn)
	out[7] = out[7]&0xE0 | byte(counter>>16)
	out[8], out[9] = byte(counter>>8), byte(counter)
	return out
}

func masked(key []byte) []byte {
	half := []byte{0xC0, 0xC0, 0xC0, 0xC0, 0, 0, 0, 0}
	return xorOf(key, append(bytes.Clone(half), half...))
}

func standardInitial(t *testing.T, bdk, ksn []byte) []byte {
	t.Helper()
	r := withCounter(ksn, 0)[:8]
	out := make([]byte, 16)
	for i, key := range [][]byte{bdk, masked(bdk)} {
		standard, err := standardTdea(key)
		if err != nil {
			t.Fatal(err)
		}
		standard.Encrypt(out[8*i:], r)
	}
	return out
}

func standardKey(t *testing.T, bdk, ksn []byte, counter int) []byte {
	t.Helper()
	key := standardInitial(t, bdk, ksn)
	walked := 0
	for bit := 20; bit >= 0; bit-- {
		if counter>>bit&1 == 0 {
			continue
		}
		walked |= 1 << bit
		r := withCounter(ksn, walked)[2:]
		key = append(standardHalf(t, masked(key), r), standardHalf(t, key, r)...)
	}
	return key
}

func standardHalf(t *testing.T, key, r []byte) []byte {
	t.Helper()
	standard, err := des.NewCipher(key[:8])
	if err != nil {
		t.Fatal(err)
	}
	out := make([]byte, 8)
	standard.Encrypt(out, xorOf(r, key[8:]))
	return xorOf(out, key[8:])
}

// Promise 6.
func TestDukptKeyOfCounterZeroIsDukptInitial(t *testing.T) {
	chance := &source{seed: "counter zero"}
	for range 50 {
		bdk, ksn := chance.take(16), chance.take(10)
		initial := impl.DukptInitial(bdk, ksn)
		if len(initial) != 16 {
			t.Fatalf("DukptInitial has %d bytes", len(initial))
		}
		same(t, "DukptKey", impl.DukptKey(bdk, withCounter(ksn, 0)), initial)
		for _, counter := range counters() {
			same(t, "DukptInitial under another counter", impl.DukptInitial(bdk, withCounter(ksn, counter)), initial)
		}
	}
}

// Promise 6.
func TestDukptKeyHangsOnTheCountersBits(t *testing.T) {
	chance := &source{seed: "counters"}
	for range 10 {
		bdk, ksn := chance.take(16), chance.take(10)
		seen := map[string]int{}
		for _, counter := range counters() {
			key := impl.DukptKey(bdk, withCounter(ksn, counter))
			if other, ok := seen[string(key)]; ok {
				t.Errorf("counters %x and %x have one key", counter, other)
			}
			seen[string(key)] = counter
		}
		base := impl.DukptKey(bdk, ksn)
		for bit := range 21 {
			if bytes.Equal(impl.DukptKey(bdk, flipped(ksn, 79-bit)), base) {
				t.Errorf("bit %d of the counter counts for nothing", bit)
			}
		}
	}
}

func TestDukptWalksByTheStandardCiphers(t *testing.T) {
	chance := &source{seed: "dukpt"}
	for range 10 {
		bdk, ksn := chance.take(16), chance.take(10)
		same(t, "DukptInitial", impl.DukptInitial(bdk, ksn), standardInitial(t, bdk, ksn))
		for _, counter := range counters() {
			same(t, "DukptKey", impl.DukptKey(bdk, withCounter(ksn, counter)), standardKey(t, bdk, ksn, counter))
		}
	}
	for _, bdk := range edges(16) {
		ksn := chance.take(10)
		counter := int(ksn[7]&31)<<16 | int(ksn[8])<<8 | int(ksn[9])
		same(t, "DukptKey of an edge", impl.DukptKey(bdk, ksn), standardKey(t, bdk, ksn, counter))
	}
}

func TestDukptPublishedAnswers(t *testing.T) {
	bdk := fromHex(t, "0123456789abcdeffedcba9876543210")
	for _, r := range []struct{ ksn, want string }{
		{"ffff9876543210e00001", "042666b49184cfa368de9628d0397bc9"},
		{"ffff9876543210e00002", "c46551cef9fd24b0aa9ad834130d3bc7"},
		{"ffff9876543210e00003", "0df3d9422aca56e547676d07ad6badfa"},
		{"ffff9876543210e00004", "279c0f6aeed0be652b2c733e1383ae91"},
	} {
		same(t, r.ksn, impl.DukptKey(bdk, fromHex(t, r.ksn)), fromHex(t, r.want))
	}
}

func TestDukptInitialHangsOnTheOtherBits(t *testing.T) {
	chance := &source{seed: "other bits"}
	bdk, ksn := chance.take(16), chance.take(10)
	base := impl.DukptInitial(bdk, ksn)
	for bit := range 80 {
		alike := bytes.Equal(impl.DukptInitial(bdk, flipped(ksn, bit)), base)
		if alike != (bit >= 80-21) {
			t.Errorf("bit %d of the serial number from the left: alike is %t", bit, alike)
		}
	}
}

func TestDukptRefuses(t *testing.T) {
	for name, call := range map[string]func(bdk []byte, ksn []byte) []byte{"DukptInitial": impl.DukptInitial, "DukptKey": impl.DukptKey} {
		for _, bdk := range []int{0, 1, 8, 10, 15, 17, 24, 32} {
			empty(t, name+" of another key", call(make([]byte, bdk), make([]byte, 10)))
		}
		for _, ksn := range []int{0, 1, 8, 9, 11, 16, 20} {
			empty(t, name+" of another serial number", call(make([]byte, 16), bytes.Repeat([]byte{0xFF}, ksn)))
		}
		empty(t, name+" of nil", call(nil, nil))
	}
}

func TestVariantTurnsOneByteOfEachHalf(t *testing.T) {
	chance := &source{seed: "variant"}
	for _, key := range append(edges(16), chance.take(16), chance.take(16)) {
		for _, r := range []struct {
			use  int
			mask string
		}{{impl.UsePin, "00000000000000ff00000000000000ff"}, {impl.UseMac, "000000000000ff00000000000000ff00"}} {
			same(t, "Variant", impl.Variant(key, r.use), xorOf(key, fromHex(t, r.mask)))
		}
	}
}

func TestVariantRefuses(t *testing.T) {
	for _, use := range []int{math.MinInt, -1, 0, impl.UseBdk, 4, 257, 258, math.MaxInt} {
		empty(t, "another use", impl.Variant(make([]byte, 16), use))
	}
	for _, use := range []int{impl.UsePin, impl.UseMac} {
		for _, length := range []int{0, 8, 15, 17, 24} {
			empty(t, "another key", impl.Variant(make([]byte, length), use))
		}
		empty(t, "nil", impl.Variant(nil, use))
	}
}

func uses() []int {
	return []int{impl.UsePin, impl.UseMac, impl.UseBdk}
}

// Promise 5.
func TestUnwrapOfWrap(t *testing.T) {
	chance := &source{seed: "unwrap of wrap"}
	for _, use := range uses() {
		for gen := range 256 {
			master, key := chance.take(16), chance.take(16)
			block := impl.Wrap(master, impl.KeyInfo{Use: use, Gen: gen, Key: key})
			if len(block) != impl.BlockLen {
				t.Fatalf("a key block of %d bytes", len(block))
			}
			o := impl.Unwrap(master, block)
			if o.Code != impl.OpenOK || o.Info.Use != use || o.Info.Gen != gen {
				t.Errorf("use %d and generation %d come back as %v", use, gen, o)
			}
			same(t, "key", o.Info.Key, key)
			same(t, "Wrap of what Unwrap tells", impl.Wrap(master, o.Info), block)
		}
	}
	for _, key := range edges(16) {
		block := impl.Wrap(key, impl.KeyInfo{Use: impl.UseBdk, Gen: 255, Key: key})
		same(t, "key of an edge", impl.Unwrap(key, block).Info.Key, key)
	}
}

func TestWrapByTheStandardCipher(t *testing.T) {
	chance := &source{seed: "wrap"}
	for _, use := range uses() {
		for _, gen := range []int{0, 1, 127, 128, 255} {
			master, key := chance.take(16), chance.take(16)
			head := []byte{'K', byte(use), byte(gen), 16}
			tag := standardCmac(t, standardCmac(t, master, []byte("M")), append(bytes.Clone(head), key...))
			standard, err := aes.NewCipher(standardCmac(t, master, []byte("E")))
			if err != nil {
				t.Fatal(err)
			}
			sealed := make([]byte, 16)
			standard.Encrypt(sealed, xorOf(key, tag))
			want := bytes.Join([][]byte{head, tag, sealed}, nil)
			same(t, "Wrap", impl.Wrap(master, impl.KeyInfo{Use: use, Gen: gen, Key: key}), want)
		}
	}
}

func TestWrapRefuses(t *testing.T) {
	master, key := make([]byte, 16), make([]byte, 16)
	for _, use := range []int{math.MinInt, -1, 0, 4, 255, 257, 256 + impl.UseMac, math.MaxInt} {
		empty(t, "another use", impl.Wrap(master, impl.KeyInfo{Use: use, Key: key}))
	}
	for _, use := range uses() {
		for _, gen := range []int{math.MinInt, -256, -1, 256, 257, math.MaxInt} {
			empty(t, "another generation", impl.Wrap(master, impl.KeyInfo{Use: use, Gen: gen, Key: key}))
		}
		for _, length := range []int{0, 8, 15, 17, 24, 32} {
			empty(t, "another key", impl.Wrap(master, impl.KeyInfo{Use: use, Key: make([]byte, length)}))
			empty(t, "another master", impl.Wrap(make([]byte, length), impl.KeyInfo{Use: use, Key: key}))
		}
		empty(t, "nil key", impl.Wrap(master, impl.KeyInfo{Use: use}))
	}
	empty(t, "nil", impl.Wrap(nil, impl.KeyInfo{}))
}

func refuses(t *testing.T, what string, o impl.Opened, code int) {
	t.Helper()
	if o.Code != code || o.Info.Use != 0 || o.Info.Gen != 0 || len(o.Info.Key) != 0 {
		t.Errorf("%s: %v, not code %d alone", what, o, code)
	}
}

// formOf is the code of a block of the right length that is no block of its tag.
func formOf(block []byte) int {
	if block[0] != 'K' || block[1] < impl.UsePin || block[1] > impl.UseBdk || block[3] != 16 {
		return impl.OpenForm
	}
	return impl.OpenTag
}

// Promise 5: what is no Wrap is not taken.
func TestUnwrapRefusesAChangedByte(t *testing.T) {
	chance := &source{seed: "changed"}
	for _, use := range uses() {
		master := chance.take(16)
		block := impl.Wrap(master, impl.KeyInfo{Use: use, Gen: 200, Key: chance.take(16)})
		for bit := range 8 * impl.BlockLen {
			other := flipped(block, bit)
			refuses(t, "a bit turned", impl.Unwrap(master, other), formOf(other))
		}
		for at := range 4 {
			for value := range 256 {
				other := bytes.Clone(block)
				other[at] = byte(value)
				if !bytes.Equal(other, block) {
					refuses(t, "a byte of the head", impl.Unwrap(master, other), formOf(other))
				}
			}
		}
		for bit := range 128 {
			refuses(t, "another master", impl.Unwrap(flipped(master, bit), block), impl.OpenTag)
		}
	}
}

// Promise 5: a tag that is right for the head alone, or for the key as it lies
// sealed, does not open a block.
func TestUnwrapRefusesForgedBlocks(t *testing.T) {
	chance := &source{seed: "forged"}
	master, key := chance.take(16), chance.take(16)
	block := impl.Wrap(master, impl.KeyInfo{Use: impl.UseMac, Gen: 1, Key: key})
	km := impl.Cmac(master, []byte("M"))
	for _, told := range [][]byte{block[:4], append(bytes.Clone(block[:4]), block[20:]...), key} {
		other := bytes.Join([][]byte{block[:4], impl.Cmac(km, told), block[20:]}, nil)
		refuses(t, "forged tag", impl.Unwrap(master, other), impl.OpenTag)
	}
	second := impl.Wrap(master, impl.KeyInfo{Use: impl.UseMac, Gen: 2, Key: key})
	refuses(t, "tag of another", impl.Unwrap(master, bytes.Join([][]byte{block[:20], second[20:]}, nil)), impl.OpenTag)
	refuses(t, "head of another", impl.Unwrap(master, bytes.Join([][]byte{second[:4], block[4:]}, nil)), impl.OpenTag)
	for range 100 {
		other := append([]byte{'K', impl.UsePin, 0, 16}, chance.take(32)...)
		refuses(t, "chance", impl.Unwrap(master, other), impl.OpenTag)
	}
}

func TestUnwrapRefusesOtherLengths(t *testing.T) {
	master := make([]byte, 16)
	block := impl.Wrap(master, impl.KeyInfo{Use: impl.UsePin, Key: make([]byte, 16)})
	for length := range impl.BlockLen {
		refuses(t, "a shorter block", impl.Unwrap(master, block[:length]), impl.OpenForm)
	}
	refuses(t, "a longer block", impl.Unwrap(master, append(bytes.Clone(block), 0)), impl.OpenForm)
	refuses(t, "two blocks", impl.Unwrap(master, append(bytes.Clone(block), block...)), impl.OpenForm)
	for _, length := range []int{0, 8, 15, 17, 24, 32} {
		refuses(t, "another master", impl.Unwrap(make([]byte, length), block), impl.OpenForm)
	}
	refuses(t, "nil", impl.Unwrap(nil, nil), impl.OpenForm)
}

func TestKeysLeaveTheirArgumentsAlone(t *testing.T) {
	chance := &source{seed: "keys alone"}
	initial := func(args [][]byte) []byte { return impl.DukptInitial(args[0], args[1]) }
	leavesAlone(t, "DukptInitial", initial, chance.take(16), chance.take(10))
	for _, counter := range []int{0, 1, allOnes} {
		key := func(args [][]byte) []byte { return impl.DukptKey(args[0], args[1]) }
		leavesAlone(t, "DukptKey", key, chance.take(16), withCounter(chance.take(10), counter))
	}
	for _, use := range []int{impl.UsePin, impl.UseMac} {
		variant := func(args [][]byte) []byte { return impl.Variant(args[0], use) }
		leavesAlone(t, "Variant", variant, chance.take(16))
	}
	for _, use := range uses() {
		wrap := func(args [][]byte) []byte { return impl.Wrap(args[0], impl.KeyInfo{Use: use, Gen: 9, Key: args[1]}) }
		leavesAlone(t, "Wrap", wrap, chance.take(16), chance.take(16))
		master := chance.take(16)
		unwrap := func(args [][]byte) []byte { return impl.Unwrap(args[0], args[1]).Info.Key }
		leavesAlone(t, "Unwrap", unwrap, master, impl.Wrap(master, impl.KeyInfo{Use: use, Key: chance.take(16)}))
	}
}
