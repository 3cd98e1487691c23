package tests

import (
	"bytes"
	"slices"
	"strconv"
	"strings"
	"testing"

	"loop.example/s01728/impl"
)

func f(no int, data string) impl.Field {
	return impl.Field{No: no, Data: []byte(data)}
}

// board is a switch's config and, in the clear, the keys of its links. Link 0
// has a zone key and format 0, link 1 a zone key and format 3, link 2 a base
// key and format 0, link 3 a base key and format 3; a PAN that begins with 4 to
// 7 goes to link 0 to 3.
type board struct {
	t      *testing.T
	chance *source
	config impl.Config
	pins   [][]byte
	macs   [][]byte
	gens   []int
}

func newBoard(t *testing.T, seed string, room int) *board {
	b := &board{t: t, chance: &source{seed: seed}}
	b.config.Master = b.chance.take(16)
	b.config.Room = room
	for link, use := range []int{impl.UsePin, impl.UsePin, impl.UseBdk, impl.UseBdk} {
		b.addLink(use, 3*(link%2))
		b.config.Routes = append(b.config.Routes, impl.Route{Prefix: strconv.Itoa(4 + link), Link: link})
	}
	return b
}

func (b *board) addLink(use, format int) {
	pin, mac, gen := b.chance.take(16), b.chance.take(16), 1+int(b.chance.take(1)[0])%250
	b.pins, b.macs, b.gens = append(b.pins, pin), append(b.macs, mac), append(b.gens, gen)
	b.config.Links = append(b.config.Links, impl.Link{PinKey: b.block(use, gen, pin), MacKey: b.block(impl.UseMac, gen, mac), Format: format})
}

func (b *board) block(use, gen int, key []byte) []byte {
	block := impl.Wrap(b.config.Master, impl.KeyInfo{Use: use, Gen: gen, Key: key})
	if len(block) == 0 {
		b.t.Fatalf("no key block of use %d and generation %d", use, gen)
	}
	return block
}

// pin is a field 52 as a link makes it, its serial number empty for a zone key.
func (b *board) pin(link int, pin, pan string, ksn []byte) impl.Field {
	key := b.pins[link]
	if len(ksn) > 0 {
		key = serialPinKey(b.t, key, ksn)
	}
	clear := impl.MakePin(b.config.Links[link].Format, pin, pan, b.chance.take(10)).Block
	return impl.Field{No: 52, Data: underStandard(b.t, key, clear, false)}
}

func message(link int, data []byte) impl.Event {
	return impl.Event{Kind: impl.EvMessage, Link: link, Data: data}
}

func tick(n int) impl.Event {
	return impl.Event{Kind: impl.EvTick, N: n}
}

func drawn(data []byte) impl.Event {
	return impl.Event{Kind: impl.EvDraws, Data: data}
}

// from is a message that a link sends under its first MAC key.
func (b *board) from(link int, mti string, fields ...impl.Field) impl.Event {
	return b.under(b.macs[link], link, mti, fields...)
}

func (b *board) under(key []byte, link int, mti string, fields ...impl.Field) impl.Event {
	return message(link, stamped(b.t, key, mti, fields...))
}

// ask is an authorization without a PIN.
func (b *board) ask(link int, pan, stan string) impl.Event {
	return b.from(link, "0100", f(2, pan), f(11, stan))
}

func (b *board) reply(link int, number string) impl.Event {
	return b.from(link, "0110", f(11, number), f(39, "00"))
}

// newKey is a message that brings a key block, sealed with a key in the clear.
func (b *board) newKey(under []byte, link int, stan string, block []byte) impl.Event {
	return b.under(under, link, "0800", f(11, stan), impl.Field{No: 48, Data: block}, f(70, "101"))
}

// sent is a message that the switch is to send; promise 13 is that it opens
// under its key.
func (b *board) sent(key []byte, link int, mti string, fields ...impl.Field) impl.Sent {
	data := stamped(b.t, key, mti, fields...)
	opens(b.t, "to be sent", b.config.Master, b.block(impl.UseMac, 0, key), data, true)
	return impl.Sent{Link: link, Data: data}
}

// answer is the switch's own answer to a type, 0100 or 0800; stan may be empty.
func (b *board) answer(key []byte, link int, mti, stan, code string) impl.Sent {
	var fields []impl.Field
	if stan != "" {
		fields = append(fields, f(11, stan))
	}
	fields = append(fields, f(39, code))
	if mti == "0800" {
		fields = append(fields, f(70, "101"))
	}
	return b.sent(key, link, mti[:2]+"10", fields...)
}

// lines are written as in "00@0 000007 68@1 000001": a code, a link, a number,
// and - for no number.
func lines(t *testing.T, text string) []impl.Line {
	t.Helper()
	words := strings.Fields(text)
	var out []impl.Line
	for i := 0; i+1 < len(words); i += 2 {
		code, link, _ := strings.Cut(words[i], "@")
		c, err := strconv.Atoi(code)
		if err != nil {
			t.Fatal(err)
		}
		l, err := strconv.Atoi(link)
		if err != nil {
			t.Fatal(err)
		}
		out = append(out, impl.Line{Code: c, Link: l, Stan: strings.Trim(words[i+1], "-")})
	}
	return out
}

func written(list []impl.Line) string {
	var words []string
	for _, l := range list {
		words = append(words, strconv.Itoa(l.Code)+"@"+strconv.Itoa(l.Link)+" "+strconv.Quote(l.Stan))
	}
	return strings.Join(words, " ")
}

func checkOutcome(t *testing.T, what string, got, want impl.Outcome) {
	t.Helper()
	if got.Code != want.Code || got.Pending != want.Pending || !slices.Equal(got.Gens, want.Gens) {
		t.Errorf("%s: code %d, %d wait, generations %v, not %d, %d, %v", what, got.Code, got.Pending, got.Gens, want.Code, want.Pending, want.Gens)
	}
	if !slices.Equal(got.Lines, want.Lines) {
		t.Errorf("%s: lines %s, not %s", what, written(got.Lines), written(want.Lines))
	}
	if len(got.Sent) != len(want.Sent) {
		t.Errorf("%s: %d messages are sent, not %d", what, len(got.Sent), len(want.Sent))
		return
	}
	for i, sent := range got.Sent {
		if sent.Link != want.Sent[i].Link || !bytes.Equal(sent.Data, want.Sent[i].Data) {
			t.Errorf("%s: message %d is %q to %d, not %q to %d", what, i, sent.Data, sent.Link, want.Sent[i].Data, want.Sent[i].Link)
		}
	}
}

// runs tells that a script goes as it should, on links whose generations are
// those of the beginning unless want has others.
func (b *board) runs(what string, events []impl.Event, want impl.Outcome) {
	b.t.Helper()
	if want.Gens == nil {
		want.Gens = b.gens
	}
	checkOutcome(b.t, what, impl.Run(b.config, events), want)
}
