package tests

import (
	"bytes"
	"crypto/aes"
	"crypto/cipher"
	"testing"

	"loop.example/s01728/impl"
)

// Promise 3.
func TestCbcDecUndoesCbc(t *testing.T) {
	chance := &source{seed: "cbc"}
	for blocks := range impl.MaxData/8 + 1 {
		if blocks > 40 && blocks < impl.MaxData/8-2 {
			continue
		}
		key, iv, data := chance.take(16), chance.take(8), chance.take(8*blocks)
		there := impl.Cbc(key, iv, data, false)
		if len(there) != len(data) {
			t.Fatalf("%d bytes become %d", len(data), len(there))
		}
		same(t, "there and back", impl.Cbc(key, iv, there, true), data)
		same(t, "back and there", impl.Cbc(key, iv, impl.Cbc(key, iv, data, true), false), data)
	}
}

func TestCbcIsTheStandardOne(t *testing.T) {
	chance := &source{seed: "standard cbc"}
	for _, length := range []int{0, 8, 16, 24, 80, impl.MaxData} {
		key, iv, data := chance.take(16), chance.take(8), chance.take(length)
		standard, err := standardTdea(key)
		if err != nil {
			t.Fatal(err)
		}
		want := make([]byte, length)
		cipher.NewCBCEncrypter(standard, iv).CryptBlocks(want, data)
		same(t, "Cbc", impl.Cbc(key, iv, data, false), want)
		cipher.NewCBCDecrypter(standard, iv).CryptBlocks(want, data)
		same(t, "Cbc with dec", impl.Cbc(key, iv, data, true), want)
	}
}

func TestCbcChains(t *testing.T) {
	chance := &source{seed: "cbc chains"}
	key, iv, data := chance.take(16), chance.take(8), chance.take(24)
	var want []byte
	before := iv
	for at := 0; at < len(data); at += 8 {
		before = impl.Tdea(key, xorOf(data[at:at+8], before), false)
		want = append(want, before...)
	}
	same(t, "Cbc", impl.Cbc(key, iv, data, false), want)
}

func TestCbcRefuses(t *testing.T) {
	for _, dec := range []bool{false, true} {
		for _, key := range []int{0, 8, 15, 17, 24} {
			empty(t, "key", impl.Cbc(make([]byte, key), make([]byte, 8), make([]byte, 8), dec))
		}
		for _, iv := range []int{0, 7, 9, 16} {
			empty(t, "iv", impl.Cbc(make([]byte, 16), make([]byte, iv), make([]byte, 8), dec))
		}
		for _, data := range []int{0, 1, 4, 7, 9, 15, impl.MaxData - 1, impl.MaxData + 1, impl.MaxData + 8, 2 * impl.MaxData} {
			empty(t, "data", impl.Cbc(make([]byte, 16), make([]byte, 8), make([]byte, data), dec))
		}
		empty(t, "nil", impl.Cbc(nil, nil, nil, dec))
		if got := impl.Cbc(make([]byte, 16), make([]byte, 8), make([]byte, impl.MaxData), dec); len(got) != impl.MaxData {
			t.Errorf("MaxData bytes become %d", len(got))
		}
	}
}

// Promise 4.
func TestRetailMacWithEqualHalvesIsChainedDes(t *testing.T) {
	chance := &source{seed: "retail"}
	for _, blocks := range []int{1, 2, 3, 7, 20, impl.MaxData / 8} {
		half, data := chance.take(8), chance.take(8*blocks)
		want := chainedDes(half, data)
		key := append(bytes.Clone(half), half...)
		same(t, "RetailMac", impl.RetailMac(key, data), want)
		last := impl.Cbc(key, make([]byte, 8), data, false)[8*(blocks-1):]
		same(t, "last block of Cbc", last, want)
	}
}

func chainedDes(key, data []byte) []byte {
	h := make([]byte, 8)
	for at := 0; at < len(data); at += 8 {
		h = impl.Des(key, xorOf(data[at:at+8], h), false)
	}
	return h
}

func TestRetailMacEndsWithBothHalves(t *testing.T) {
	chance := &source{seed: "both halves"}
	for range 50 {
		one, two, data := chance.take(8), chance.take(8), chance.take(32)
		want := impl.Des(one, impl.Des(two, chainedDes(one, data), true), false)
		same(t, "RetailMac", impl.RetailMac(append(bytes.Clone(one), two...), data), want)
	}
}

func TestRetailMacFillsUpWithZeros(t *testing.T) {
	chance := &source{seed: "filled"}
	for length := range 26 {
		key, data := chance.take(16), chance.take(length)
		full := bytes.Clone(data)
		for len(full) == 0 || len(full)%8 != 0 {
			full = append(full, 0)
		}
		want := impl.Des(key[:8], impl.Des(key[8:], chainedDes(key[:8], full), true), false)
		same(t, "RetailMac", impl.RetailMac(key, data), want)
	}
	key, block := chance.take(16), chance.take(8)
	if bytes.Equal(impl.RetailMac(key, block), impl.RetailMac(key, append(bytes.Clone(block), make([]byte, 8)...))) {
		t.Error("a block of zeros behind whole blocks counts for nothing")
	}
}

func TestParityBitsCountForNothingInModes(t *testing.T) {
	chance := &source{seed: "parity of modes"}
	key, iv, data := chance.take(16), chance.take(8), chance.take(24)
	for at := range key {
		other := flipped(key, 8*at+7)
		same(t, "RetailMac", impl.RetailMac(other, data), impl.RetailMac(key, data))
		same(t, "Cbc", impl.Cbc(other, iv, data, false), impl.Cbc(key, iv, data, false))
		same(t, "CheckValue", impl.CheckValue(other), impl.CheckValue(key))
	}
}

func TestCmacPublishedAnswers(t *testing.T) {
	key := fromHex(t, "2b7e151628aed2a6abf7158809cf4f3c")
	data := fromHex(t, "6bc1bee22e409f96e93d7e117393172aae2d8a571e03ac9c9eb76fac45af8e51"+
		"30c81c46a35ce411e5fbc1191a0a52eff69f2445df4f9b17ad2b417be66c3710")
	for _, r := range []struct {
		length int
		want   string
	}{
		{0, "bb1d6929e95937287fa37d129b756746"},
		{16, "070a16b46b4d4144f79bdd9dd04a287c"},
		{40, "dfa66747de9ae63030ca32611497c827"},
		{64, "51f0bebf7e3b9d92fc49741779363cfe"},
	} {
		same(t, "Cmac", impl.Cmac(key, data[:r.length]), fromHex(t, r.want))
	}
}

func TestCmacByTheStandardCipher(t *testing.T) {
	chance := &source{seed: "cmac"}
	lengths := []int{impl.MaxData - 17, impl.MaxData - 16, impl.MaxData - 1, impl.MaxData}
	for length := range 50 {
		lengths = append(lengths, length)
	}
	for _, length := range lengths {
		key, data := chance.take(16), chance.take(length)
		same(t, "Cmac", impl.Cmac(key, data), standardCmac(t, key, data))
	}
}

func standardCmac(t *testing.T, key, data []byte) []byte {
	t.Helper()
	standard, err := aes.NewCipher(key)
	if err != nil {
		t.Fatal(err)
	}
	mask := make([]byte, 16)
	standard.Encrypt(mask, mask)
	mask = twice(mask)
	full := bytes.Clone(data)
	if len(data) == 0 || len(data)%16 != 0 {
		mask = twice(mask)
		full = append(full, 0x80)
		for len(full)%16 != 0 {
			full = append(full, 0)
		}
	}
	tail := full[len(full)-16:]
	copy(tail, xorOf(tail, mask))
	h := make([]byte, 16)
	for at := 0; at < len(full); at += 16 {
		standard.Encrypt(h, xorOf(full[at:at+16], h))
	}
	return h
}

func twice(v []byte) []byte {
	out := make([]byte, len(v))
	for i := range v {
		out[i] = v[i] << 1
		if i+1 < len(v) {
			out[i] |= v[i+1] >> 7
		}
	}
	if v[0] >= 0x80 {
		out[len(out)-1] ^= 0x87
	}
	return out
}

func TestCmacTellsFilledFromWhole(t *testing.T) {
	key := make([]byte, 16)
	short := make([]byte, 15)
	if bytes.Equal(impl.Cmac(key, short), impl.Cmac(key, append(bytes.Clone(short), 0x80))) {
		t.Error("a block that was filled up has the MAC of the whole one")
	}
}

func TestMacsRefuse(t *testing.T) {
	for name, mac := range map[string]func(key []byte, data []byte) []byte{"RetailMac": impl.RetailMac, "Cmac": impl.Cmac} {
		for _, key := range []int{0, 1, 8, 15, 17, 24, 32} {
			empty(t, name+" under another key", mac(make([]byte, key), make([]byte, 8)))
		}
		empty(t, name+" of nil", mac(nil, nil))
		if len(mac(make([]byte, 16), nil)) == 0 || len(mac(make([]byte, 16), make([]byte, impl.MaxData))) == 0 {
			t.Errorf("%s: refuses no data or MaxData bytes", name)
		}
		empty(t, name+" of one more", mac(make([]byte, 16), make([]byte, impl.MaxData+1)))
	}
}

func TestCheckValueIsOfZeros(t *testing.T) {
	chance := &source{seed: "check"}
	for range 50 {
		key := chance.take(16)
		same(t, "CheckValue", impl.CheckValue(key), impl.Tdea(key, make([]byte, 8), false)[:3])
	}
	same(t, "published", impl.CheckValue(fromHex(t, "0123456789abcdeffedcba9876543210")), fromHex(t, "08d7b4"))
	for _, key := range []int{0, 8, 15, 17, 24} {
		empty(t, "another key", impl.CheckValue(make([]byte, key)))
	}
	empty(t, "nil", impl.CheckValue(nil))
}

func TestModesLeaveTheirArgumentsAlone(t *testing.T) {
	chance := &source{seed: "modes alone"}
	for _, length := range []int{0, 8, 40} {
		for _, dec := range []bool{false, true} {
			cbc := func(args [][]byte) []byte { return impl.Cbc(args[0], args[1], args[2], dec) }
			leavesAlone(t, "Cbc", cbc, chance.take(16), chance.take(8), chance.take(length))
		}
	}
	for _, length := range []int{0, 1, 8, 15, 16, 40} {
		retail := func(args [][]byte) []byte { return impl.RetailMac(args[0], args[1]) }
		leavesAlone(t, "RetailMac", retail, chance.take(16), chance.take(length))
		cmac := func(args [][]byte) []byte { return impl.Cmac(args[0], args[1]) }
		leavesAlone(t, "Cmac", cmac, chance.take(16), chance.take(length))
	}
	check := func(args [][]byte) []byte { return impl.CheckValue(args[0]) }
	leavesAlone(t, "CheckValue", check, chance.take(16))
}
