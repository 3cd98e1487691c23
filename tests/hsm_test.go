package tests

import (
	"bytes"
	"strconv"
	"testing"

	"loop.example/s01728/impl"
)

// pinCase is a right order and what it was made of.
type pinCase struct {
	master []byte
	order  impl.Order
	pin    string
	source []byte
	toKey  []byte
}

// newPinCase has one generation for both key blocks, so that source and
// destination differ in nothing but the key where both are zone keys.
func newPinCase(t *testing.T, chance *source, use, fromFmt, toFmt, length int) pinCase {
	t.Helper()
	c := pinCase{master: chance.take(16), pin: digits(chance, length), toKey: chance.take(16)}
	fromKey := chance.take(16)
	c.source = fromKey
	gen := int(chance.take(1)[0])
	c.order = impl.Order{
		From:    impl.Wrap(c.master, impl.KeyInfo{Use: use, Gen: gen, Key: fromKey}),
		FromFmt: fromFmt,
		To:      impl.Wrap(c.master, impl.KeyInfo{Use: impl.UsePin, Gen: gen, Key: c.toKey}),
		ToFmt:   toFmt,
		Pan:     digits(chance, 13+length%7),
		Draws:   chance.take(20),
	}
	if use == impl.UseBdk {
		c.order.Ksn = chance.take(10)
		c.source = serialPinKey(t, fromKey, c.order.Ksn)
	}
	clear := impl.MakePin(fromFmt, c.pin, c.order.Pan, chance.take(10)).Block
	c.order.Block = underStandard(t, c.source, clear, false)
	return c
}

func serialPinKey(t *testing.T, bdk, ksn []byte) []byte {
	t.Helper()
	counter := int(ksn[7]&31)<<16 | int(ksn[8])<<8 | int(ksn[9])
	return xorOf(standardKey(t, bdk, ksn, counter), fromHex(t, "00000000000000ff00000000000000ff"))
}

func underStandard(t *testing.T, key, block []byte, dec bool) []byte {
	t.Helper()
	standard, err := standardTdea(key)
	if err != nil {
		t.Fatal(err)
	}
	out := make([]byte, 8)
	if dec {
		standard.Decrypt(out, block)
	} else {
		standard.Encrypt(out, block)
	}
	return out
}

func eachPinCase(t *testing.T, seed string, each func(c pinCase)) {
	t.Helper()
	chance := &source{seed: seed}
	for _, use := range []int{impl.UsePin, impl.UseBdk} {
		for _, fromFmt := range []int{0, 3} {
			for _, toFmt := range []int{0, 3} {
				for length := 4; length <= 12; length++ {
					each(newPinCase(t, chance, use, fromFmt, toFmt, length))
				}
			}
		}
	}
}

func notMoved(t *testing.T, what string, m impl.Moved, code int) {
	t.Helper()
	if m.Code != code || len(m.Block) != 0 || m.Used != 0 {
		t.Errorf("%s: %v, not code %d alone", what, m, code)
	}
}

// Promise 8: zone keys and keys by serial number, each format to each.
func TestTranslateKeepsThePin(t *testing.T) {
	eachPinCase(t, "translate", func(c pinCase) {
		moved := impl.Translate(c.master, c.order)
		if moved.Code != impl.HsmOK || len(moved.Block) != 8 {
			t.Fatalf("an order from format %d to %d: %v", c.order.FromFmt, c.order.ToFmt, moved)
		}
		clear := underStandard(t, c.toKey, moved.Block, true)
		if read := impl.ReadPin(c.order.ToFmt, clear, c.order.Pan); read.Code != impl.PinOK || read.Pin != c.pin {
			t.Errorf("PIN %s is read as %v behind Translate", c.pin, read)
		}
		made := impl.MakePin(c.order.ToFmt, c.pin, c.order.Pan, c.order.Draws)
		same(t, "clear block", clear, made.Block)
		if moved.Used != made.Used {
			t.Errorf("%d draws are used, not %d", moved.Used, made.Used)
		}
	})
}

// Promise 8: blocks of any bits are taken just if they read as a PIN.
func TestTranslateTakesWhatReads(t *testing.T) {
	taken := 0
	eachPinCase(t, "bits", func(c pinCase) {
		clear := underStandard(t, c.source, c.order.Block, true)
		for bit := range 64 {
			other := flipped(clear, bit)
			o := c.order
			o.Block = underStandard(t, c.source, other, false)
			moved := impl.Translate(c.master, o)
			read := impl.ReadPin(o.FromFmt, other, o.Pan)
			if read.Code != impl.PinOK {
				notMoved(t, "a block that does not read", moved, impl.HsmPin)
				continue
			}
			taken++
			want := impl.MakePin(o.ToFmt, read.Pin, o.Pan, o.Draws).Block
			same(t, "a block that reads", moved.Block, underStandard(t, c.toKey, want, false))
		}
	})
	if taken == 0 {
		t.Error("no block with a bit turned was taken")
	}
}

func TestTranslateTellsOneDestinationFromAnother(t *testing.T) {
	chance := &source{seed: "slots"}
	c := newPinCase(t, chance, impl.UsePin, 0, 0, 6)
	for _, from := range []int{0, 1, 255} {
		for _, to := range []int{0, 1, 255} {
			o := c.order
			o.From = impl.Wrap(c.master, impl.KeyInfo{Use: impl.UsePin, Gen: from, Key: c.source})
			o.To = impl.Wrap(c.master, impl.KeyInfo{Use: impl.UsePin, Gen: to, Key: c.toKey})
			want := impl.MakePin(0, c.pin, o.Pan, nil).Block
			same(t, "other generations", impl.Translate(c.master, o).Block, underStandard(t, c.toKey, want, false))
			o.To = o.From
			same(t, "back to the source", impl.Translate(c.master, o).Block, o.Block)
		}
	}
}

func TestTranslateTakesNoMoreDrawsThanItNeeds(t *testing.T) {
	eachPinCase(t, "order's draws", func(c pinCase) {
		need := 0
		if c.order.ToFmt == 3 {
			need = 14 - len(c.pin)
		}
		whole := impl.Translate(c.master, c.order)
		just := c.order
		just.Draws = just.Draws[:need]
		moved := impl.Translate(c.master, just)
		if moved.Code != impl.HsmOK || moved.Used != need {
			t.Fatalf("just %d draws: %v", need, moved)
		}
		same(t, "with more draws", whole.Block, moved.Block)
		for fewer := range need {
			just.Draws = c.order.Draws[:fewer]
			notMoved(t, "too few draws", impl.Translate(c.master, just), impl.HsmDraws)
		}
	})
}

type spoiler struct {
	name  string
	spoil func(o *impl.Order)
}

// spoilers has for each code what makes an order answer with it, whatever else
// is right; they change fields that those of other codes leave alone.
func spoilers(c pinCase) map[int][]spoiler {
	wrap := func(use int) []byte {
		return impl.Wrap(c.master, impl.KeyInfo{Use: use, Gen: 3, Key: c.toKey})
	}
	ksns := []spoiler{
		{"a serial number of 9 bytes", func(o *impl.Order) { o.Ksn = make([]byte, 9) }},
		{"a serial number of 11 bytes", func(o *impl.Order) { o.Ksn = make([]byte, 11) }},
	}
	if len(c.order.Ksn) > 0 {
		ksns = append(ksns, spoiler{"a base key without a serial number", func(o *impl.Order) { o.Ksn = nil }})
	} else {
		ksns = append(ksns, spoiler{"a zone key with a serial number", func(o *impl.Order) { o.Ksn = make([]byte, 10) }},
			spoiler{"a zone key with a byte", func(o *impl.Order) { o.Ksn = make([]byte, 1) }})
	}
	return map[int][]spoiler{
		impl.HsmFrom: {
			{"no source", func(o *impl.Order) { o.From = nil }},
			{"a source for MACs", func(o *impl.Order) { o.From = wrap(impl.UseMac) }},
			{"a source with a bit turned", func(o *impl.Order) { o.From = flipped(o.From, 287) }},
		},
		impl.HsmTo: {
			{"no destination", func(o *impl.Order) { o.To = nil }},
			{"a destination for MACs", func(o *impl.Order) { o.To = wrap(impl.UseMac) }},
			{"a base key as destination", func(o *impl.Order) { o.To = wrap(impl.UseBdk) }},
			{"a destination with a bit turned", func(o *impl.Order) { o.To = flipped(o.To, 287) }},
		},
		impl.HsmKsn: ksns,
		impl.HsmPin: {
			{"a block of 7 bytes", func(o *impl.Order) { o.Block = o.Block[:7] }},
			{"a block of 9 bytes", func(o *impl.Order) { o.Block = append(bytes.Clone(o.Block), 0) }},
			{"another source format", func(o *impl.Order) { o.FromFmt = 3 - o.FromFmt }},
			{"a format that is none", func(o *impl.Order) { o.FromFmt = 1 }},
			{"a destination format that is none", func(o *impl.Order) { o.ToFmt = 4 }},
			{"a PAN of 12 digits", func(o *impl.Order) { o.Pan = "411111111111" }},
		},
		impl.HsmDraws: {
			{"no draws", func(o *impl.Order) { o.Draws = nil }},
			{"a draw too few", func(o *impl.Order) { o.Draws = o.Draws[:13-len(c.pin)] }},
		},
	}
}

func TestTranslateTellsTheFirstOfTwoFaults(t *testing.T) {
	chance := &source{seed: "two faults"}
	for _, use := range []int{impl.UsePin, impl.UseBdk} {
		for _, fromFmt := range []int{0, 3} {
			c := newPinCase(t, chance, use, fromFmt, 3, 5)
			for first := impl.HsmFrom; first <= impl.HsmDraws; first++ {
				for _, a := range spoilers(c)[first] {
					o := c.order
					a.spoil(&o)
					notMoved(t, a.name, impl.Translate(c.master, o), first)
					for second := first + 1; second <= impl.HsmDraws; second++ {
						for _, b := range spoilers(c)[second] {
							both := o
							b.spoil(&both)
							notMoved(t, a.name+" and "+b.name, impl.Translate(c.master, both), first)
						}
					}
				}
			}
		}
	}
}

func TestTranslateRefusesOtherKeyBlocks(t *testing.T) {
	eachPinCase(t, "key blocks", func(c pinCase) {
		if len(c.pin) != 4 {
			return
		}
		for at := range impl.BlockLen {
			o := c.order
			o.From = flipped(o.From, 8*at+at%8)
			notMoved(t, "source with byte "+strconv.Itoa(at)+" changed", impl.Translate(c.master, o), impl.HsmFrom)
			o.From, o.To = c.order.From, flipped(o.To, 8*at+at%8)
			notMoved(t, "destination with byte "+strconv.Itoa(at)+" changed", impl.Translate(c.master, o), impl.HsmTo)
			o.To = c.order.To[:at]
			notMoved(t, "a shorter destination", impl.Translate(c.master, o), impl.HsmTo)
			o.From = c.order.From[:at]
			notMoved(t, "a shorter source", impl.Translate(c.master, o), impl.HsmFrom)
		}
		for _, length := range []int{0, 8, 15, 17, 32} {
			notMoved(t, "another master", impl.Translate(make([]byte, length), c.order), impl.HsmFrom)
		}
		notMoved(t, "a bit of the master", impl.Translate(flipped(c.master, 77), c.order), impl.HsmFrom)
		notMoved(t, "nothing", impl.Translate(c.master, impl.Order{}), impl.HsmFrom)
	})
	notMoved(t, "nothing at all", impl.Translate(nil, impl.Order{}), impl.HsmFrom)
}

func TestTranslateRefusesOtherPins(t *testing.T) {
	eachPinCase(t, "other pins", func(c pinCase) {
		if len(c.pin) != 7 {
			return
		}
		for length := range 24 {
			o := c.order
			o.Block = make([]byte, length)
			copy(o.Block, c.order.Block)
			if length != 8 {
				notMoved(t, "a block of another length", impl.Translate(c.master, o), impl.HsmPin)
			}
		}
		for _, format := range otherFormats() {
			o := c.order
			o.FromFmt = format
			notMoved(t, "another format", impl.Translate(c.master, o), impl.HsmPin)
			o.FromFmt, o.ToFmt = c.order.FromFmt, format
			notMoved(t, "to another format", impl.Translate(c.master, o), impl.HsmPin)
		}
		for _, pan := range []string{"", "411111111111", "41111111111111111111", "411111111111a", "-411111111111"} {
			o := c.order
			o.Pan = pan
			notMoved(t, "PAN "+strconv.Quote(pan), impl.Translate(c.master, o), impl.HsmPin)
		}
		for length := range 24 {
			o := c.order
			o.Ksn = make([]byte, length)
			if length != len(c.order.Ksn) {
				notMoved(t, "another serial number", impl.Translate(c.master, o), impl.HsmKsn)
			}
		}
	})
}

func TestTranslateHangsOnTheSerialNumber(t *testing.T) {
	chance := &source{seed: "serial"}
	c := newPinCase(t, chance, impl.UseBdk, 0, 0, 12)
	bdk := impl.Unwrap(c.master, c.order.From).Info.Key
	for _, counter := range counters() {
		o := c.order
		o.Ksn = withCounter(o.Ksn, counter)
		clear := impl.MakePin(0, c.pin, o.Pan, nil).Block
		o.Block = underStandard(t, serialPinKey(t, bdk, o.Ksn), clear, false)
		same(t, "another counter", impl.Translate(c.master, o).Block, underStandard(t, c.toKey, clear, false))
		o.Block = underStandard(t, bdk, clear, false)
		notMoved(t, "under the base key itself", impl.Translate(c.master, o), impl.HsmPin)
	}
}

func TestTranslateLeavesItsArgumentsAlone(t *testing.T) {
	eachPinCase(t, "translate alone", func(c pinCase) {
		call := func(args [][]byte) []byte {
			o := c.order
			o.From, o.To, o.Block, o.Draws, o.Ksn = args[1], args[2], args[3], args[4], args[5]
			return impl.Translate(args[0], o).Block
		}
		leavesAlone(t, "Translate", call, c.master, c.order.From, c.order.To, c.order.Block, c.order.Draws, c.order.Ksn)
	})
}

func macKey(chance *source) (master, block, key []byte) {
	master, key = chance.take(16), chance.take(16)
	return master, impl.Wrap(master, impl.KeyInfo{Use: impl.UseMac, Gen: int(chance.take(1)[0]), Key: key}), key
}

func macLengths() []int {
	return []int{0, 1, 7, 8, 9, 15, 16, 100, impl.MaxData - 1, impl.MaxData}
}

// Promise 9.
func TestCheckMacTakesMakeMac(t *testing.T) {
	chance := &source{seed: "macs"}
	for _, length := range macLengths() {
		master, block, key := macKey(chance)
		data := chance.take(length)
		made := impl.MakeMac(master, block, data)
		if made.Code != impl.HsmOK || len(made.Mac) != 8 {
			t.Fatalf("MakeMac of %d bytes: %v", length, made)
		}
		same(t, "MakeMac", made.Mac, impl.RetailMac(key, data))
		if code := impl.CheckMac(master, block, data, made.Mac); code != impl.HsmOK {
			t.Errorf("CheckMac of %d bytes: %d", length, code)
		}
	}
}

// Promise 9.
func TestCheckMacRefusesABitTurned(t *testing.T) {
	chance := &source{seed: "mac bits"}
	for _, length := range macLengths() {
		master, block, _ := macKey(chance)
		data := chance.take(length)
		mac := impl.MakeMac(master, block, data).Mac
		for bit := range 64 {
			checked(t, "a bit of the MAC", impl.CheckMac(master, block, data, flipped(mac, bit)), impl.HsmMac)
		}
		for bit := range min(8*length, 200) {
			checked(t, "a bit of the data", impl.CheckMac(master, block, flipped(data, bit), mac), impl.HsmMac)
		}
		for cut := range mac {
			checked(t, "a shorter MAC", impl.CheckMac(master, block, data, mac[:cut]), impl.HsmMac)
		}
		checked(t, "a longer MAC", impl.CheckMac(master, block, data, append(bytes.Clone(mac), 0)), impl.HsmMac)
		checked(t, "a MAC twice", impl.CheckMac(master, block, data, append(bytes.Clone(mac), mac...)), impl.HsmMac)
		checked(t, "no MAC", impl.CheckMac(master, block, data, nil), impl.HsmMac)
	}
}

func checked(t *testing.T, what string, got, want int) {
	t.Helper()
	if got != want {
		t.Errorf("%s: code %d, not %d", what, got, want)
	}
}

func noMac(t *testing.T, what string, master, block, data []byte, code int) {
	t.Helper()
	made := impl.MakeMac(master, block, data)
	if made.Code != code || len(made.Mac) != 0 {
		t.Errorf("%s: %v, not code %d alone", what, made, code)
	}
	for _, length := range []int{0, 8} {
		checked(t, what, impl.CheckMac(master, block, data, make([]byte, length)), code)
	}
}

func TestModuleMacsRefuse(t *testing.T) {
	chance := &source{seed: "no macs"}
	master, block, key := macKey(chance)
	long := make([]byte, impl.MaxData+1)
	for _, data := range [][]byte{nil, chance.take(20), long} {
		for _, use := range []int{impl.UsePin, impl.UseBdk} {
			noMac(t, "another use", master, impl.Wrap(master, impl.KeyInfo{Use: use, Key: key}), data, impl.HsmFrom)
		}
		for at := range impl.BlockLen {
			noMac(t, "byte "+strconv.Itoa(at)+" changed", master, flipped(block, 8*at+at%8), data, impl.HsmFrom)
			noMac(t, "a shorter key block", master, block[:at], data, impl.HsmFrom)
		}
		noMac(t, "a longer key block", master, append(bytes.Clone(block), 0), data, impl.HsmFrom)
		noMac(t, "a bare key", master, key, data, impl.HsmFrom)
		for _, length := range []int{0, 15, 17, 32} {
			noMac(t, "another master", make([]byte, length), block, data, impl.HsmFrom)
		}
		noMac(t, "nil", nil, nil, data, impl.HsmFrom)
	}
	noMac(t, "a byte too much", master, block, long, impl.HsmMac)
	noMac(t, "far too much", master, block, make([]byte, 10*impl.MaxData), impl.HsmMac)
	checked(t, "the MAC of what is not too much", impl.CheckMac(master, block, long, impl.MakeMac(master, block, long[1:]).Mac), impl.HsmMac)
}

func TestModuleMacsLeaveTheirArgumentsAlone(t *testing.T) {
	chance := &source{seed: "macs alone"}
	for _, length := range []int{0, 5, 8, 21} {
		master, block, _ := macKey(chance)
		made := func(args [][]byte) []byte { return impl.MakeMac(args[0], args[1], args[2]).Mac }
		data := chance.take(length)
		leavesAlone(t, "MakeMac", made, master, block, data)
		check := func(args [][]byte) []byte {
			return []byte{byte(impl.CheckMac(args[0], args[1], args[2], args[3]))}
		}
		leavesAlone(t, "CheckMac", check, master, block, data, impl.MakeMac(master, block, data).Mac)
	}
}
