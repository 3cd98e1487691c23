package tests

import (
	"bytes"
	"slices"
	"strconv"
	"testing"

	"loop.example/s01728/impl"
)

// refusal is a message that comes in on link 0 and is not taken, and what is
// to be told of it; right is false for one under no key of the link.
type refusal struct {
	what   string
	mti    string
	fields []impl.Field
	code   int
	right  bool
}

func (r refusal) stan() string {
	for _, field := range r.fields {
		if field.No == 11 {
			return string(field.Data)
		}
	}
	return ""
}

// refusals are refused whatever waits, for any draws and any key of now.
func (b *board) refusals() []refusal {
	pan, stan, task := f(2, toOne), f(11, "000099"), f(70, "101")
	next := impl.Field{No: 48, Data: b.block(impl.UseMac, b.gens[0]+1, b.chance.take(16))}
	good := b.pin(0, somePin, toOne, nil)
	out := []refusal{
		{"no fields", "0100", nil, 30, true},
		{"no PAN", "0100", []impl.Field{stan}, 30, true},
		{"no number", "0100", []impl.Field{pan}, 30, true},
		{"neither, but a PIN", "0100", []impl.Field{f(4, "000000001000"), good}, 30, true},
		{"no route", "0100", []impl.Field{f(2, toNone), stan}, 15, true},
		{"no route, and a PIN", "0100", []impl.Field{f(2, toNone), stan, good}, 15, true},
		{"an answer without fields", "0110", nil, 30, true},
		{"an answer without a code", "0110", []impl.Field{stan}, 30, true},
		{"an answer without a number", "0110", []impl.Field{f(39, "00")}, 30, true},
		{"an answer to nothing", "0110", []impl.Field{stan, f(39, "00")}, 68, true},
		{"an answer to number 0", "0110", []impl.Field{f(11, "000000"), f(39, "00")}, 68, true},
		{"a key without fields", "0800", nil, 30, true},
		{"a key without a number", "0800", []impl.Field{f(48, "x"), task}, 30, true},
		{"no key", "0800", []impl.Field{stan, task}, 30, true},
		{"no task", "0800", []impl.Field{stan, f(48, "x")}, 30, true},
		{"another task", "0800", []impl.Field{stan, f(48, "x"), f(70, "102")}, 30, true},
		{"task 001", "0800", []impl.Field{stan, f(48, "x"), f(70, "001")}, 30, true},
		{"a key that is none", "0800", []impl.Field{stan, f(48, "x"), task}, 12, true},
		{"an empty key", "0800", []impl.Field{stan, f(48, ""), task}, 12, true},
	}
	for _, mti := range []string{"0000", "0101", "0120", "0200", "0210", "0420", "0801", "0810", "1100", "9999"} {
		out = append(out, refusal{"another type", mti, []impl.Field{pan, stan, f(39, "00"), f(48, "x"), task}, 12, true},
			refusal{"another type without fields", mti, nil, 12, true})
	}
	for _, mti := range []string{"0100", "0110", "0800", "0420", "0810"} {
		for _, fields := range [][]impl.Field{nil, {stan}, {pan, stan, f(39, "00"), good, f(53, "0123456789"), task},
			{pan, stan, f(39, "00"), next, task}} {
			out = append(out, refusal{"under no key", mti, fields, 63, false})
		}
	}
	return out
}

// event seals a refusal with the key given, or with another if it is not right.
func (b *board) event(r refusal, key []byte) impl.Event {
	if !r.right {
		key = flipped(key, 30)
	}
	return b.under(key, 0, r.mti, r.fields...)
}

// toldOf is what comes of a refusal that is answered with a key.
func (b *board) toldOf(r refusal, key []byte) ([]impl.Sent, []impl.Line) {
	line := []impl.Line{{Code: r.code, Link: 0, Stan: r.stan()}}
	if r.mti != "0100" && r.mti != "0800" {
		return nil, line
	}
	return []impl.Sent{b.answer(key, 0, r.mti, r.stan(), strconv.Itoa(r.code))}, line
}

func TestRefusals(t *testing.T) {
	b := newBoard(t, "refusals", 5)
	for _, r := range b.refusals() {
		sent, list := b.toldOf(r, b.macs[0])
		b.runs(r.what+" "+r.mti, []impl.Event{b.event(r, b.macs[0])}, impl.Outcome{Sent: sent, Lines: list})
	}
}

// Promise 12: wherever in a script a message comes that is not right or not
// taken, all goes on as if it had not come.
func TestRefusedMessagesMoveNothing(t *testing.T) {
	b := newBoard(t, "move nothing", 2)
	next := b.chance.take(16)
	script := []impl.Event{
		drawn(b.chance.take(10)), b.pinned("000001"), drawn(b.chance.take(17)),
		b.newKey(b.macs[0], 0, "000002", b.block(impl.UseMac, b.gens[0]+1, next)),
		b.under(next, 0, "0100", f(2, toOne), f(11, "000003"), b.pin(0, somePin, toOne, nil)),
		b.reply(1, "000002"), tick(impl.Timeout), b.pinned("000004"), tick(1), b.reply(1, "000003"), b.reply(1, "000001"),
	}
	whole := impl.Run(b.config, script)
	if whole.Code != 0 || len(whole.Sent) != 6 || whole.Gens[0] != b.gens[0]+1 {
		t.Fatalf("the script alone: %v", whole)
	}
	const renewedAt = 4
	for at := range len(script) + 1 {
		ahead := impl.Run(b.config, script[:at])
		key := b.macs[0]
		if at >= renewedAt {
			key = next
		}
		for _, r := range b.refusals() {
			sent, list := b.toldOf(r, key)
			events := slices.Insert(slices.Clone(script), at, b.event(r, key))
			checkOutcome(t, r.what+" "+r.mti+" at "+strconv.Itoa(at), impl.Run(b.config, events), impl.Outcome{
				Sent:    slices.Concat(ahead.Sent, sent, whole.Sent[len(ahead.Sent):]),
				Lines:   slices.Concat(ahead.Lines, list, whole.Lines[len(ahead.Lines):]),
				Pending: whole.Pending, Gens: whole.Gens})
		}
	}
}

// Promise 12: right messages of each type with a bit of the MAC turned, in the
// MAC of another link, and with none.
func TestMessagesThatDoNotOpen(t *testing.T) {
	b := newBoard(t, "not open", 5)
	draws := b.chance.take(9)
	block := b.block(impl.UseMac, b.gens[0]+1, b.chance.take(16))
	script := []impl.Event{drawn(draws), b.ask(1, toZero, "000005")}
	before := impl.Run(b.config, script)
	for _, r := range []refusal{
		{"ask", "0100", []impl.Field{f(2, toOne), f(11, "000006"), b.pin(0, somePin, toOne, nil)}, 63, false},
		{"reply", "0110", []impl.Field{f(11, "000001"), f(39, "00")}, 63, false},
		{"key", "0800", []impl.Field{f(11, "000007"), {No: 48, Data: block}, f(70, "101")}, 63, false},
		{"other", "0420", []impl.Field{f(11, "000008")}, 63, false},
	} {
		right := stamped(t, b.macs[0], r.mti, r.fields...)
		if out := impl.Run(b.config, append(slices.Clone(script), message(0, right))); out.Lines[1].Code == 63 {
			t.Errorf("%s: not right as it is", r.what)
		}
		bad := [][]byte{[]byte(wire(impl.Msg{Mti: r.mti, Fields: r.fields})), stamped(t, b.macs[1], r.mti, r.fields...)}
		for bit := 8 * (len(right) - 8); bit < 8*len(right); bit++ {
			bad = append(bad, flipped(right, bit))
		}
		sent, list := b.toldOf(r, b.macs[0])
		for _, data := range bad {
			checkOutcome(t, r.what, impl.Run(b.config, append(slices.Clone(script), message(0, data))), impl.Outcome{
				Sent: slices.Concat(before.Sent, sent), Lines: slices.Concat(before.Lines, list),
				Pending: before.Pending, Gens: before.Gens})
		}
	}
}

// Promise 12: what Decode refuses is noted, and no more.
func TestMessagesThatAreNone(t *testing.T) {
	b := newBoard(t, "none", 5)
	right := b.pinned("000009").Data
	bad := [][]byte{nil, []byte("0100"), []byte("0110"), []byte("0800"), []byte("x"), append(bytes.Clone(right), 0), make([]byte, impl.MaxData), bytes.Repeat([]byte("0"), impl.MaxData)}
	for cut := range right {
		bad = append(bad, right[:cut])
	}
	for link := range b.config.Links {
		for _, data := range bad {
			b.runs("no message", []impl.Event{drawn(make([]byte, 9)), message(link, data)}, impl.Outcome{Lines: []impl.Line{{Code: 30, Link: link}}})
		}
	}
}

// asked is an authorization on link 0 to be spoilt: its PIN block goes to link
// 1, which takes draws.
type asked struct {
	key    []byte
	fields []impl.Field
	room   int
	draws  []byte
}

func (b *board) asked() asked {
	return asked{key: b.macs[0], room: 1, draws: make([]byte, 9),
		fields: []impl.Field{f(2, toOne), f(11, "000010"), b.pin(0, somePin, toOne, nil)}}
}

func (b *board) outcomeOf(a asked) impl.Outcome {
	c := b.config
	c.Room = a.room
	return impl.Run(c, []impl.Event{drawn(a.draws), b.under(a.key, 0, "0100", a.fields...)})
}

// Of each two faults of an authorization the one that stands first is told.
func TestTheOrderOfRefusals(t *testing.T) {
	b := newBoard(t, "order of refusals", 1)
	noDraws := func(a *asked) { a.draws = nil }
	serial := func(a *asked) { a.fields = append(a.fields, f(53, "0123456789")) }
	toBase := func(a *asked) { a.fields = sets(a.fields, 2, []byte(toTwo)) }
	badPin := func(a *asked) { a.fields = sets(a.fields, 52, []byte("notablok")) }
	full := func(a *asked) { a.room = 0 }
	noRoute := func(a *asked) { a.fields = sets(a.fields, 2, []byte(toNone)) }
	noStan := func(a *asked) { a.fields = sets(a.fields, 11, nil) }
	noPan := func(a *asked) { a.fields = sets(a.fields, 2, nil) }
	noKey := func(a *asked) { a.key = b.macs[1] }
	// In the order in which they are told, the first first.
	order := []struct {
		what  string
		code  int
		spoil func(a *asked)
	}{
		{"not right", 63, noKey}, {"no PAN", 30, noPan}, {"no number", 30, noStan}, {"no route", 15, noRoute}, {"no room", 91, full},
		{"to a base key", 96, toBase}, {"a serial number", 96, serial}, {"no PIN block", 55, badPin}, {"no draws", 96, noDraws},
	}
	if out := b.outcomeOf(b.asked()); len(out.Lines) != 1 || out.Lines[0].Code != 0 {
		t.Fatalf("refused as it is: %v", out)
	}
	for i, first := range order {
		for j, second := range order[i:] {
			a := b.asked()
			// The later one first: that a PAN is not there leaves none to change.
			if j > 0 {
				second.spoil(&a)
			}
			first.spoil(&a)
			stan := refusal{fields: a.fields}.stan()
			checkOutcome(t, first.what+" and "+second.what, b.outcomeOf(a), impl.Outcome{
				Sent:  []impl.Sent{b.answer(b.macs[0], 0, "0100", stan, strconv.Itoa(first.code))},
				Lines: []impl.Line{{Code: first.code, Link: 0, Stan: stan}}, Gens: b.gens})
		}
	}
}

func TestTheOrderOfRefusalsOfOtherTypes(t *testing.T) {
	b := newBoard(t, "order of others", 1)
	stan, key := f(11, "000011"), f(48, "nokey")
	next := impl.Field{No: 48, Data: b.block(impl.UsePin, b.gens[0]+1, make([]byte, 16))}
	for _, r := range []refusal{
		{"not right, no fields", "0800", nil, 63, false},
		{"not right, no key block", "0800", []impl.Field{stan, key, f(70, "101")}, 63, false},
		{"no number, no key block", "0800", []impl.Field{key, f(70, "101")}, 30, true},
		{"no task, no key block", "0800", []impl.Field{stan, key}, 30, true},
		{"another task, another use", "0800", []impl.Field{stan, next, f(70, "201")}, 30, true},
		{"another use", "0800", []impl.Field{stan, next, f(70, "101")}, 12, true},
		{"not right, no fields", "0110", nil, 63, false},
		{"not right, no entry", "0110", []impl.Field{stan, f(39, "00")}, 63, false},
		{"no code, no entry", "0110", []impl.Field{stan}, 30, true},
		{"not right, another type", "0400", []impl.Field{stan}, 63, false},
		{"another type, no number", "0400", nil, 12, true},
	} {
		sent, list := b.toldOf(r, b.macs[0])
		b.runs(r.what, []impl.Event{b.event(r, b.macs[0])}, impl.Outcome{Sent: sent, Lines: list})
	}
}

// An answer without a code, or of another link, leaves the entry where it is.
func TestRefusedAnswersLeaveTheEntry(t *testing.T) {
	b := newBoard(t, "entry left", 1)
	ask := b.ask(0, toOne, "000012")
	events := []impl.Event{ask, b.from(1, "0110", f(11, "000001")), b.from(1, "0110", f(39, "00")), b.reply(0, "000001"),
		b.under(b.macs[0], 1, "0110", f(11, "000001"), f(39, "00")), b.from(1, "0120", f(11, "000001"), f(39, "00")), ask}
	first := impl.Outcome{Pending: 1,
		Sent:  []impl.Sent{b.sent(b.macs[1], 1, "0100", f(2, toOne), f(11, "000001")), b.answer(b.macs[0], 0, "0100", "000012", "91")},
		Lines: lines(t, "0@0 000012 30@1 000001 30@1 - 68@0 000001 63@1 000001 12@1 000001 91@0 000012")}
	b.runs("left", events, first)
	first.Sent = append(first.Sent, b.sent(b.macs[0], 0, "0110", f(11, "000012"), f(39, "00")))
	first.Lines = append(first.Lines, impl.Line{Link: 1, Stan: "000001"})
	first.Pending = 0
	b.runs("then taken", append(events, b.reply(1, "000001")), first)
}
