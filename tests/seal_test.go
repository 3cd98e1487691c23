package tests

import (
	"bytes"
	"crypto/des"
	"slices"
	"strings"
	"testing"

	"loop.example/s01728/impl"
)

// standardMac is the document's MAC by the library's DES.
func standardMac(t *testing.T, key, data []byte) []byte {
	t.Helper()
	one, err := des.NewCipher(key[:8])
	if err != nil {
		t.Fatal(err)
	}
	two, err := des.NewCipher(key[8:])
	if err != nil {
		t.Fatal(err)
	}
	full := bytes.Clone(data)
	for len(full) == 0 || len(full)%8 != 0 {
		full = append(full, 0)
	}
	h := make([]byte, 8)
	for at := 0; at < len(full); at += 8 {
		one.Encrypt(h, xorOf(full[at:at+8], h))
	}
	two.Decrypt(h, h)
	one.Encrypt(h, h)
	return h
}

// stamped is what Seal is to answer, under a key in the clear.
func stamped(t *testing.T, key []byte, mti string, fields ...impl.Field) []byte {
	t.Helper()
	m := impl.Msg{Mti: mti}
	no := 64
	for _, field := range fields {
		if field.No == 64 || field.No == 128 {
			continue
		}
		if field.No > 64 {
			no = 128
		}
		m.Fields = append(m.Fields, field)
	}
	m.Fields = append(m.Fields, impl.Field{No: no, Data: make([]byte, 8)})
	whole := []byte(wire(m))
	ahead := whole[:len(whole)-8]
	return append(bytes.Clone(ahead), standardMac(t, key, ahead)...)
}

func opens(t *testing.T, what string, master, key, data []byte, want bool) {
	t.Helper()
	if got := impl.Opens(master, key, data); got != want {
		t.Errorf("%s: Opens of %q is %v", what, data, got)
	}
}

// Promise 11: messages with and without the fields 64, 70 and 128 are among these.
func TestOpensTakesSeal(t *testing.T) {
	chance := &source{seed: "seal"}
	for _, m := range messages(chance) {
		master, block, key := macKey(chance)
		data := impl.Seal(master, block, m)
		same(t, "Seal", data, stamped(t, key, m.Mti, m.Fields...))
		opens(t, "Seal", master, block, data, true)
		if d := impl.Decode(data); d.MacAt != len(data)-8 {
			t.Errorf("the MAC of %q is at %d", data, d.MacAt)
		}
	}
}

// Promise 11.
func TestOpensRefusesABitTurned(t *testing.T) {
	chance := &source{seed: "seal bits"}
	for i, m := range messages(chance) {
		if i%7 != 0 {
			continue
		}
		master, block, _ := macKey(chance)
		data := impl.Seal(master, block, m)
		for bit := 8 * (len(data) - 8); bit < 8*len(data); bit++ {
			opens(t, "a bit of the MAC", master, block, flipped(data, bit), false)
		}
		for bit := 0; bit < 8*(len(data)-8); bit += 5 {
			opens(t, "a bit ahead of the MAC", master, block, flipped(data, bit), false)
		}
	}
}

func TestSealChoosesTheFieldOfItsMac(t *testing.T) {
	chance := &source{seed: "fields of macs"}
	master, block, key := macKey(chance)
	stan, task := f(11, "000007"), f(70, "101")
	low, high := f(64, "lowlowlo"), f(128, "highhigh")
	for _, r := range []struct {
		fields, kept []impl.Field
		last         int
	}{
		{nil, nil, 64},
		{[]impl.Field{stan}, []impl.Field{stan}, 64},
		{[]impl.Field{stan, low}, []impl.Field{stan}, 64},
		{[]impl.Field{stan, high}, []impl.Field{stan}, 64},
		{[]impl.Field{stan, low, high}, []impl.Field{stan}, 64},
		{[]impl.Field{task}, []impl.Field{task}, 128},
		{[]impl.Field{stan, task}, []impl.Field{stan, task}, 128},
		{[]impl.Field{stan, low, task}, []impl.Field{stan, task}, 128},
		{[]impl.Field{stan, low, task, high}, []impl.Field{stan, task}, 128},
		{[]impl.Field{low}, nil, 64},
		{[]impl.Field{high}, nil, 64},
		// What is left out may stand anywhere and hold anything.
		{[]impl.Field{high, low, stan}, []impl.Field{stan}, 64},
		{[]impl.Field{high, stan, f(64, ""), task, f(128, "x"), low}, []impl.Field{stan, task}, 128},
	} {
		data := impl.Seal(master, block, impl.Msg{Mti: "0100", Fields: r.fields})
		want := []byte(wire(impl.Msg{Mti: "0100", Fields: append(slices.Clone(r.kept), f(r.last, "MACMACMA"))}))
		want = append(want[:len(want)-8], standardMac(t, key, want[:len(want)-8])...)
		same(t, "Seal", data, want)
		opens(t, "Seal", master, block, data, true)
	}
}

func TestSealRefuses(t *testing.T) {
	chance := &source{seed: "no seal"}
	master, block, key := macKey(chance)
	good := impl.Msg{Mti: "0100", Fields: []impl.Field{f(11, "000007")}}
	for _, mti := range append(spoilt("0100"), "", "010", "01000") {
		empty(t, "another type", impl.Seal(master, block, impl.Msg{Mti: mti}))
	}
	for _, fields := range [][]impl.Field{
		{f(11, "00007")}, {f(11, "00000x")}, {f(5, "1")}, {f(1, "")}, {f(0, "")}, {f(-64, "")}, {f(129, "")},
		{f(70, "101"), f(11, "000007")}, {f(11, "000007"), f(11, "000007")}, {f(39, "00"), f(11, "000007")},
		{f(48, strings.Repeat("x", 201))}, {f(2, "411111111111")}, {f(100, "1")},
	} {
		empty(t, "fields that Encode refuses", impl.Seal(master, block, impl.Msg{Mti: "0100", Fields: fields}))
	}
	for _, use := range []int{impl.UsePin, impl.UseBdk} {
		other := impl.Wrap(master, impl.KeyInfo{Use: use, Key: key})
		empty(t, "another use", impl.Seal(master, other, good))
		opens(t, "another use", master, other, stamped(t, key, good.Mti, good.Fields...), false)
	}
	for at := range impl.BlockLen {
		other := flipped(block, 8*at+at%8)
		empty(t, "a byte of the key block", impl.Seal(master, other, good))
		opens(t, "a byte of the key block", master, other, stamped(t, key, good.Mti, good.Fields...), false)
	}
	for _, length := range []int{0, 15, 17} {
		empty(t, "another master", impl.Seal(make([]byte, length), block, good))
		empty(t, "another key block", impl.Seal(master, make([]byte, length), good))
	}
	empty(t, "nothing", impl.Seal(nil, nil, impl.Msg{}))
}

func TestOpensRefusesWhatHasNoMac(t *testing.T) {
	chance := &source{seed: "no opens"}
	master, block, key := macKey(chance)
	_, other, _ := macKey(chance)
	data := impl.Seal(master, block, impl.Msg{Mti: "0100", Fields: []impl.Field{f(11, "000007"), f(52, "PINBLOCK")}})
	opens(t, "right", master, block, data, true)
	opens(t, "another key", master, other, data, false)
	opens(t, "another master", flipped(master, 3), block, data, false)
	opens(t, "no master", nil, block, data, false)
	opens(t, "no key", master, nil, data, false)
	for cut := range data {
		opens(t, "cut short", master, block, data[:cut], false)
	}
	opens(t, "a byte more", master, block, append(bytes.Clone(data), 0), false)
	for _, m := range []impl.Msg{{Mti: "0100"}, {Mti: "0100", Fields: []impl.Field{f(11, "000007")}}, {Mti: "0800", Fields: []impl.Field{f(70, "101")}}} {
		opens(t, "no MAC", master, block, []byte(wire(m)), false)
	}
	// The last 8 bytes are a MAC of what stands ahead, but are not in a field for one.
	ahead := []byte(wire(impl.Msg{Mti: "0100", Fields: []impl.Field{f(52, "")}}))
	opens(t, "a MAC in field 52", master, block, append(ahead, standardMac(t, key, ahead)...), false)
	// A MAC in 64 with a field behind it is none: the last field counts.
	ahead = []byte(wire(impl.Msg{Mti: "0100", Fields: []impl.Field{f(64, ""), f(70, "")}}))
	middle := append(append(bytes.Clone(ahead), standardMac(t, key, ahead)...), "101"...)
	opens(t, "a MAC ahead of field 70", master, block, middle, false)
	for _, no := range []int{64, 128} {
		ahead = []byte(wire(impl.Msg{Mti: "0100", Fields: []impl.Field{f(11, "000007"), f(no, "")}}))
		opens(t, "a MAC in either field", master, block, append(ahead, standardMac(t, key, ahead)...), true)
	}
	ahead = []byte(wire(impl.Msg{Mti: "0100", Fields: []impl.Field{f(64, "anything"), f(128, "")}}))
	opens(t, "both fields", master, block, append(ahead, standardMac(t, key, ahead)...), true)
	opens(t, "nothing", master, block, nil, false)
	opens(t, "far too much", master, block, make([]byte, 3*impl.MaxData), false)
}

func TestRouteOfTakesTheLongestPrefix(t *testing.T) {
	routes := []impl.Route{{Prefix: "4", Link: 1}, {Prefix: "411", Link: 2}, {Prefix: "41", Link: 3}, {Prefix: "411", Link: 4}, {Prefix: "52", Link: -7}}
	for _, r := range []struct {
		pan  string
		want int
	}{
		{"4", 1}, {"40", 1}, {"41", 3}, {"410", 3}, {"411", 2}, {"4110", 2}, {"4111111111111", 2},
		{"5", -1}, {"52", -7}, {"", -1}, {"14", -1}, {"x41", -1},
	} {
		checked(t, "RouteOf "+r.pan, impl.RouteOf(routes, r.pan), r.want)
	}
	checked(t, "no routes", impl.RouteOf(nil, "4111111111111"), -1)
	routes[0].Prefix = ""
	for pan, want := range map[string]int{"": 1, "9": 1, "4": 1, "41": 3, "411": 2} {
		checked(t, "an empty prefix, "+pan, impl.RouteOf(routes, pan), want)
	}
	checked(t, "two empty prefixes", impl.RouteOf([]impl.Route{{Link: 5}, {Link: 6}}, "1"), 5)
	checked(t, "link 0", impl.RouteOf([]impl.Route{{Prefix: "1"}}, "1"), 0)
}

func TestRouteOfLooksAtMaxRoutes(t *testing.T) {
	routes := slices.Repeat([]impl.Route{{Prefix: "5", Link: 1}}, impl.MaxRoutes-1)
	last := append(routes, impl.Route{Prefix: "4", Link: 2})
	checked(t, "the last of MaxRoutes", impl.RouteOf(last, "4111"), 2)
	for more := range 3 {
		behind := slices.Concat(last, slices.Repeat([]impl.Route{{Prefix: "41", Link: 3}}, more))
		checked(t, "routes behind MaxRoutes, none better", impl.RouteOf(behind, "4111"), 2)
		behind = slices.Concat(routes, slices.Repeat([]impl.Route{{Prefix: "5", Link: 1}}, more+1), []impl.Route{{Prefix: "6", Link: 4}, {Link: 5}})
		checked(t, "routes behind MaxRoutes alone", impl.RouteOf(behind, "6"), -1)
	}
}

func TestSealLeavesItsArgumentsAlone(t *testing.T) {
	chance := &source{seed: "seal alone"}
	for _, m := range messages(chance) {
		master, block, _ := macKey(chance)
		held := [][]byte{master, block}
		for _, field := range m.Fields {
			held = append(held, field.Data)
		}
		call := func(args [][]byte) []byte {
			// Room behind the last field is where a careless append would write.
			roomy := make([]impl.Field, len(m.Fields), len(m.Fields)+4)
			copy(roomy, m.Fields)
			for i := range roomy {
				roomy[i].Data = args[2+i]
			}
			data := impl.Seal(args[0], args[1], impl.Msg{Mti: m.Mti, Fields: roomy})
			if !alike(impl.Msg{Fields: roomy}, impl.Msg{Fields: m.Fields}) || roomy[:cap(roomy)][len(roomy)].No != 0 {
				t.Error("Seal writes to the fields")
			}
			return data
		}
		leavesAlone(t, "Seal", call, held...)
	}
}
