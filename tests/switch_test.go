package tests

import (
	"bytes"
	"slices"
	"strconv"
	"testing"

	"loop.example/s01728/impl"
)

const (
	toZero  = "4000000000000002"
	toOne   = "5100000000000000008"
	toTwo   = "6011000000004"
	toNone  = "9999999999999"
	somePin = "90417"
)

func six(number int) string {
	text := "00000" + strconv.Itoa(number)
	return text[len(text)-6:]
}

// sets is a copy of the fields with one of them set, or left out for nil.
func sets(fields []impl.Field, no int, data []byte) []impl.Field {
	var out []impl.Field
	for _, field := range fields {
		if field.No != no {
			out = append(out, field)
		} else if data != nil {
			out = append(out, impl.Field{No: no, Data: data})
		}
	}
	return out
}

// fullFields are all fields, of chance, but the PAN, the number, the PIN block
// and the serial number, which are given; an empty serial number is left out.
func (b *board) fullFields(pan, stan string, pin impl.Field, ksn []byte) []impl.Field {
	var out []impl.Field
	for _, spec := range fieldSpecs() {
		field := impl.Field{No: spec.no, Data: spec.fill(b.chance, (spec.least+spec.most)/2)}
		switch spec.no {
		case 2:
			field = f(2, pan)
		case 11:
			field = f(11, stan)
		case 52:
			field = pin
		case 53:
			field.Data = ksn
		}
		if spec.no != 53 || len(ksn) > 0 {
			out = append(out, field)
		}
	}
	return out
}

// Promises 13 and 14: every kind of source to either format, all fields there.
func TestAuthorizationsGoThereAndBack(t *testing.T) {
	for source := range 4 {
		for to := range 2 {
			for length := 4; length <= 12; length++ {
				b := newBoard(t, "there and back"+strconv.Itoa(source), 3)
				b.chance.take(100*to + length)
				b.goesThereAndBack(source, to, digits(b.chance, length))
			}
		}
	}
}

func (b *board) goesThereAndBack(source, to int, pin string) {
	b.t.Helper()
	pan := strconv.Itoa(4+to) + digits(b.chance, 12+len(pin)%7)
	var ksn []byte
	if source >= 2 {
		ksn = b.chance.take(10)
	}
	fields := b.fullFields(pan, "004711", b.pin(source, pin, pan, ksn), ksn)
	draws := b.chance.take(20)
	clear := impl.MakePin(b.config.Links[to].Format, pin, pan, draws).Block
	on := sets(sets(sets(fields, 53, nil), 52, underStandard(b.t, b.pins[to], clear, false)), 11, []byte("000001"))
	events := []impl.Event{drawn(draws), b.from(source, "0100", fields...)}
	want := impl.Outcome{Sent: []impl.Sent{b.sent(b.macs[to], to, "0100", on...)}, Lines: []impl.Line{{Link: source, Stan: "004711"}}, Pending: 1}
	b.runs("sent on", events, want)
	back := b.fullFields(pan, "000001", f(52, "anything"), b.chance.take(10))
	want.Sent = append(want.Sent, b.sent(b.macs[source], source, "0110", sets(back, 11, []byte("004711"))...))
	want.Lines = append(want.Lines, impl.Line{Link: to, Stan: "000001"}, impl.Line{Code: 68, Link: to, Stan: "000001"})
	want.Pending = 0
	again := b.from(to, "0110", back...)
	b.runs("given back, once", append(events, again, again), want)
}

// Promise 14: an answer of another link, of another number, and a second one.
func TestAnswersComeBackOnce(t *testing.T) {
	b := newBoard(t, "answers", 5)
	asks := []impl.Event{b.ask(2, toZero, "000900"), b.ask(3, toOne, "000900"), b.ask(2, toOne, "000002")}
	events := append(asks,
		b.reply(1, "000001"), b.reply(0, "000002"), b.reply(0, "000900"), b.reply(2, "000001"), b.reply(1, "000004"),
		b.reply(1, "000002"), b.reply(1, "000002"), b.reply(0, "000001"), b.reply(1, "000003"), b.reply(0, "000001"))
	b.runs("answers", events, impl.Outcome{
		Sent: []impl.Sent{
			b.sent(b.macs[0], 0, "0100", f(2, toZero), f(11, "000001")),
			b.sent(b.macs[1], 1, "0100", f(2, toOne), f(11, "000002")),
			b.sent(b.macs[1], 1, "0100", f(2, toOne), f(11, "000003")),
			b.sent(b.macs[3], 3, "0110", f(11, "000900"), f(39, "00")),
			b.sent(b.macs[2], 2, "0110", f(11, "000900"), f(39, "00")),
			b.sent(b.macs[2], 2, "0110", f(11, "000002"), f(39, "00")),
		},
		Lines: lines(t, "0@2 000900 0@3 000900 0@2 000002 68@1 000001 68@0 000002 68@0 000900 68@2 000001 68@1 000004"+
			" 0@1 000002 68@1 000002 0@0 000001 0@1 000003 68@0 000001"),
	})
}

func TestALinkMayBeItsOwnRoute(t *testing.T) {
	b := newBoard(t, "own route", 1)
	b.runs("to itself", []impl.Event{b.ask(0, toZero, "123456"), b.reply(0, "123456"), b.reply(0, "000001")}, impl.Outcome{
		Sent: []impl.Sent{
			b.sent(b.macs[0], 0, "0100", f(2, toZero), f(11, "000001")),
			b.sent(b.macs[0], 0, "0110", f(11, "123456"), f(39, "00")),
		},
		Lines: lines(t, "0@0 123456 68@0 123456 0@0 000001"),
	})
}

// A field 53 goes whether or not there is a field 52; beside a zone key's PIN
// block it is a fault.
func TestSerialNumbersAreNotSentOn(t *testing.T) {
	b := newBoard(t, "serial numbers", 9)
	ksn := b.chance.take(10)
	serial := impl.Field{No: 53, Data: ksn}
	clear := impl.MakePin(0, somePin, toZero, nil).Block
	moved := impl.Field{No: 52, Data: underStandard(t, b.pins[0], clear, false)}
	for _, r := range []struct {
		link     int
		more, on []impl.Field
		refused  bool
	}{
		{0, nil, nil, false},
		{0, []impl.Field{serial}, nil, false},
		{2, nil, nil, false},
		{2, []impl.Field{serial}, nil, false},
		{2, []impl.Field{b.pin(2, somePin, toZero, ksn), serial}, []impl.Field{moved}, false},
		{2, []impl.Field{b.pin(2, somePin, toZero, ksn)}, nil, true},
		{1, []impl.Field{b.pin(1, somePin, toZero, nil)}, []impl.Field{moved}, false},
		{1, []impl.Field{b.pin(1, somePin, toZero, nil), serial}, nil, true},
	} {
		ask := []impl.Event{b.from(r.link, "0100", append([]impl.Field{f(2, toZero), f(11, "000031")}, r.more...)...)}
		if r.refused {
			b.runs("refused", ask, impl.Outcome{Sent: []impl.Sent{b.answer(b.macs[r.link], r.link, "0100", "000031", "96")},
				Lines: []impl.Line{{Code: 96, Link: r.link, Stan: "000031"}}})
			continue
		}
		b.runs("sent on", ask, impl.Outcome{Pending: 1,
			Sent:  []impl.Sent{b.sent(b.macs[0], 0, "0100", append([]impl.Field{f(2, toZero), f(11, "000001")}, r.on...)...)},
			Lines: []impl.Line{{Link: r.link, Stan: "000031"}}})
	}
}

// pinned is an authorization from link 0 to link 1, which takes 9 draws, and
// how it goes on with those.
func (b *board) pinned(stan string) impl.Event {
	return b.from(0, "0100", f(2, toOne), f(11, stan), b.pin(0, somePin, toOne, nil))
}

func (b *board) pinnedOn(number string, draws []byte) impl.Sent {
	made := impl.MakePin(3, somePin, toOne, draws)
	if made.Code != impl.PinOK {
		b.t.Fatalf("no PIN block: %v", made)
	}
	return b.sent(b.macs[1], 1, "0100", f(2, toOne), f(11, number), impl.Field{No: 52, Data: underStandard(b.t, b.pins[1], made.Block, false)})
}

func TestDrawsAreTakenFromTheFront(t *testing.T) {
	b := newBoard(t, "front", 9)
	draws := b.chance.take(27)
	none := b.answer(b.macs[0], 0, "0100", "000050", "96")
	ask := b.pinned("000050")
	b.runs("just as many", []impl.Event{drawn(draws[:9]), ask}, impl.Outcome{Pending: 1,
		Sent: []impl.Sent{b.pinnedOn("000001", draws)}, Lines: lines(t, "0@0 000050")})
	b.runs("one fewer", []impl.Event{drawn(draws[:8]), ask}, impl.Outcome{
		Sent: []impl.Sent{none}, Lines: lines(t, "96@0 000050")})
	b.runs("refused, and the last one comes later", []impl.Event{ask, drawn(draws[:8]), ask, drawn(draws[8:9]), ask, ask}, impl.Outcome{Pending: 1,
		Sent: []impl.Sent{none, none, b.pinnedOn("000001", draws), none}, Lines: lines(t, "96@0 000050 96@0 000050 0@0 000050 96@0 000050")})
	b.runs("three times", []impl.Event{drawn(draws[:20]), ask, ask, drawn(nil), drawn(draws[20:]), ask, ask}, impl.Outcome{Pending: 3,
		Sent:  []impl.Sent{b.pinnedOn("000001", draws), b.pinnedOn("000002", draws[9:]), b.pinnedOn("000003", draws[18:]), none},
		Lines: lines(t, "0@0 000050 0@0 000050 0@0 000050 96@0 000050")})
}

// Draws are used only by what is sent on, and only by format 3.
func TestDrawsAreLeftByWhatIsRefused(t *testing.T) {
	b := newBoard(t, "draws left", 1)
	draws := b.chance.take(18)
	bad := b.from(0, "0100", f(2, toOne), f(11, "000051"), f(52, "notablok"))
	toFormat0 := b.from(1, "0100", f(2, toZero), f(11, "000052"), b.pin(1, somePin, toZero, nil))
	zeroOn := impl.Field{No: 52, Data: underStandard(t, b.pins[0], impl.MakePin(0, somePin, toZero, nil).Block, false)}
	ask := b.pinned("000053")
	events := []impl.Event{drawn(draws), bad, toFormat0, ask, b.reply(0, "000001"), ask, ask, b.reply(1, "000002"), bad, ask}
	b.runs("draws left", events, impl.Outcome{Pending: 1,
		Sent: []impl.Sent{
			b.answer(b.macs[0], 0, "0100", "000051", "55"),
			b.sent(b.macs[0], 0, "0100", f(2, toZero), f(11, "000001"), zeroOn),
			b.answer(b.macs[0], 0, "0100", "000053", "91"),
			b.sent(b.macs[1], 1, "0110", f(11, "000052"), f(39, "00")),
			b.pinnedOn("000002", draws),
			b.answer(b.macs[0], 0, "0100", "000053", "91"),
			b.sent(b.macs[0], 0, "0110", f(11, "000053"), f(39, "00")),
			b.answer(b.macs[0], 0, "0100", "000051", "55"),
			b.pinnedOn("000003", draws[9:]),
		},
		Lines: lines(t, "55@0 000051 0@1 000052 91@0 000053 0@0 000001 0@0 000053 91@0 000053 0@1 000002 55@0 000051 0@0 000053"),
	})
}

// Promise 15: each room, filled, and freed by an answer and by the clock.
func TestNoMoreThanRoomEntriesWait(t *testing.T) {
	for room := range impl.MaxPending + 1 {
		b := newBoard(t, "room", room)
		ask := b.ask(2, toOne, "000060")
		full := b.answer(b.macs[2], 2, "0100", "000060", "91")
		var events []impl.Event
		var want impl.Outcome
		takes := func(number int) {
			events = append(events, ask)
			want.Sent = append(want.Sent, b.sent(b.macs[1], 1, "0100", f(2, toOne), f(11, six(number))))
			want.Lines = append(want.Lines, impl.Line{Link: 2, Stan: "000060"})
			want.Pending++
		}
		refuses := func() {
			events = append(events, ask)
			want.Sent = append(want.Sent, full)
			want.Lines = append(want.Lines, impl.Line{Code: 91, Link: 2, Stan: "000060"})
		}
		for number := range room {
			takes(1 + number)
		}
		refuses()
		refuses()
		if room > 0 {
			events = append(events, b.reply(1, six((room+1)/2)))
			want.Sent = append(want.Sent, b.sent(b.macs[2], 2, "0110", f(11, "000060"), f(39, "00")))
			want.Lines = append(want.Lines, impl.Line{Link: 1, Stan: six((room + 1) / 2)})
			want.Pending--
			takes(room + 1)
			refuses()
		}
		b.runs("room for "+strconv.Itoa(room), events, want)
		events = append(events, tick(impl.Timeout+1))
		for number := 1; room > 0 && number <= room+1; number++ {
			if number != (room+1)/2 {
				want.Lines = append(want.Lines, impl.Line{Code: 68, Link: 1, Stan: six(number)})
			}
		}
		want.Pending = 0
		if room > 0 {
			takes(room + 2)
		} else {
			refuses()
		}
		b.runs("room again", events, want)
	}
}

// Promise 15: an entry whose time is the clock, and one whose time is just below it.
func TestOldEntriesGo(t *testing.T) {
	b := newBoard(t, "old", 9)
	ask := b.ask(0, toOne, "000070")
	on := func(number int) impl.Sent {
		return b.sent(b.macs[1], 1, "0100", f(2, toOne), f(11, six(number)))
	}
	back := b.sent(b.macs[0], 0, "0110", f(11, "000070"), f(39, "00"))
	for _, r := range []struct {
		what    string
		events  []impl.Event
		sent    []impl.Sent
		lines   string
		pending int
	}{
		{"time is the clock", []impl.Event{ask, tick(impl.Timeout)}, []impl.Sent{on(1)}, "0@0 000070", 1},
		{"and is answered", []impl.Event{ask, tick(impl.Timeout), b.reply(1, "000001")}, []impl.Sent{on(1), back}, "0@0 000070 0@1 000001", 0},
		{"just below it", []impl.Event{ask, tick(impl.Timeout + 1)}, []impl.Sent{on(1)}, "0@0 000070 68@1 000001", 0},
		{"and is answered too late", []impl.Event{ask, tick(impl.Timeout + 1), b.reply(1, "000001")}, []impl.Sent{on(1)}, "0@0 000070 68@1 000001 68@1 000001", 0},
		{"in small steps", []impl.Event{ask, tick(10), tick(0), tick(20), tick(0), tick(1), tick(0)}, []impl.Sent{on(1)}, "0@0 000070 68@1 000001", 0},
		{"in one great step", []impl.Event{ask, tick(impl.MaxTick)}, []impl.Sent{on(1)}, "0@0 000070 68@1 000001", 0},
		{"the clock had gone on", []impl.Event{tick(impl.MaxTick), ask, tick(impl.Timeout), tick(1)}, []impl.Sent{on(1)}, "0@0 000070 68@1 000001", 0},
		{"some go, some stay", []impl.Event{ask, ask, tick(1), ask, tick(impl.Timeout), ask}, []impl.Sent{on(1), on(2), on(3), on(4)},
			"0@0 000070 0@0 000070 0@0 000070 68@1 000001 68@1 000002 0@0 000070", 2},
		{"an answered one is gone", []impl.Event{ask, ask, b.reply(1, "000001"), tick(impl.Timeout + 1)}, []impl.Sent{on(1), on(2), back},
			"0@0 000070 0@0 000070 0@1 000001 68@1 000002", 0},
		{"no entry", []impl.Event{tick(impl.MaxTick), tick(0)}, nil, "", 0},
	} {
		b.runs(r.what, r.events, impl.Outcome{Sent: r.sent, Lines: lines(t, r.lines), Pending: r.pending})
	}
}

func TestOldEntriesGoInTheOrderInWhichTheyCame(t *testing.T) {
	b := newBoard(t, "in order", 9)
	asks := []impl.Event{b.ask(0, toTwo, "000009"), b.ask(1, toZero, "000008"), tick(1), b.ask(2, toOne, "000007"), tick(impl.Timeout + 5)}
	b.runs("three links", asks, impl.Outcome{
		Sent: []impl.Sent{
			b.sent(b.macs[2], 2, "0100", f(2, toTwo), f(11, "000001")),
			b.sent(b.macs[0], 0, "0100", f(2, toZero), f(11, "000002")),
			b.sent(b.macs[1], 1, "0100", f(2, toOne), f(11, "000003")),
		},
		Lines: lines(t, "0@0 000009 0@1 000008 0@2 000007 68@2 000001 68@0 000002 68@1 000003"),
	})
}

// Promise 16: a new key is taken once; the same again is answered alike.
func TestANewKeyIsTakenOnce(t *testing.T) {
	b := newBoard(t, "new key", 2)
	next, gen := b.chance.take(16), b.gens[1]
	gens := slices.Clone(b.gens)
	gens[1]++
	renew := b.newKey(b.macs[1], 1, "000080", b.block(impl.UseMac, gen+1, next))
	again := b.newKey(next, 1, "000080", b.block(impl.UseMac, gen+1, next))
	b.runs("taken, and again under either key", []impl.Event{renew, renew, again, renew, again}, impl.Outcome{
		Sent: []impl.Sent{
			b.answer(b.macs[1], 1, "0800", "000080", "00"), b.answer(b.macs[1], 1, "0800", "000080", "00"),
			b.answer(next, 1, "0800", "000080", "00"), b.answer(b.macs[1], 1, "0800", "000080", "00"),
			b.answer(next, 1, "0800", "000080", "00"),
		},
		Lines: lines(t, "0@1 000080 0@1 000080 0@1 000080 0@1 000080 0@1 000080"), Gens: gens})
	first := b.newKey(b.macs[1], 1, "000081", b.config.Links[1].MacKey)
	b.runs("the key of the beginning itself", []impl.Event{first, again}, impl.Outcome{
		Sent:  []impl.Sent{b.answer(b.macs[1], 1, "0800", "000081", "00"), b.answer(b.macs[1], 1, "0800", "000080", "63")},
		Lines: lines(t, "0@1 000081 63@1 000080")})
}

// Promise 16: generations, told behind a first renewal, so that there is a key of before.
func TestGenerationsOfNewKeys(t *testing.T) {
	b := newBoard(t, "generations", 2)
	b.gens[1] = 100
	b.config.Links[1].MacKey = b.block(impl.UseMac, 100, b.macs[1])
	next, other := b.chance.take(16), b.chance.take(16)
	renew := b.newKey(b.macs[1], 1, "000082", b.block(impl.UseMac, 101, next))
	for _, r := range []struct {
		what string
		gen  int
		key  []byte
		code string
		then int
	}{
		{"now, the same key", 101, next, "00", 101},
		{"now, another key", 101, other, "12", 101},
		{"now, the key of before", 101, b.macs[1], "12", 101},
		{"now, a bit of the key", 101, flipped(next, 127), "12", 101},
		{"one more", 102, other, "00", 102},
		{"one more, the same key", 102, next, "00", 102},
		{"two more", 103, other, "12", 101},
		{"two more, the same key", 103, next, "12", 101},
		{"one less, the key of before", 100, b.macs[1], "12", 101},
		{"one less, another key", 100, other, "12", 101},
		{"two less", 99, other, "12", 101},
		{"none", 0, next, "12", 101},
		{"the last", 255, next, "12", 101},
	} {
		gens := slices.Clone(b.gens)
		gens[1] = r.then
		under := r.key
		if r.then == 101 {
			under = next
		}
		events := []impl.Event{renew, b.newKey(next, 1, "000083", b.block(impl.UseMac, r.gen, r.key)), b.under(under, 1, "0420", f(11, "000084")), b.under(b.macs[1], 1, "0420", f(11, "000085"))}
		stays := " 12@1 000085"
		if r.then == 102 {
			stays = " 63@1 000085"
		}
		b.runs(r.what, events, impl.Outcome{
			Sent:  []impl.Sent{b.answer(b.macs[1], 1, "0800", "000082", "00"), b.answer(next, 1, "0800", "000083", r.code)},
			Lines: lines(t, "0@1 000082 "+r.code+"@1 000083 12@1 000084"+stays), Gens: gens})
	}
}

func TestGenerationsEndAt255(t *testing.T) {
	b := newBoard(t, "last generation", 2)
	other := b.chance.take(16)
	b.gens[0] = 255
	b.config.Links[0].MacKey = b.block(impl.UseMac, 255, b.macs[0])
	var events []impl.Event
	var want impl.Outcome
	for _, gen := range []int{0, 1, 254, 255} {
		events = append(events, b.newKey(b.macs[0], 0, "000086", b.block(impl.UseMac, gen, other)))
		want.Sent = append(want.Sent, b.answer(b.macs[0], 0, "0800", "000086", "12"))
		want.Lines = append(want.Lines, impl.Line{Code: 12, Link: 0, Stan: "000086"})
	}
	b.runs("no generation behind the last", events, want)
}

// What a link seals is right under its keys of now and of before, and answered
// with the one it came under; what goes to it is sealed with that of now.
func TestKeysOfNowAndOfBefore(t *testing.T) {
	b := newBoard(t, "now and before", 9)
	keys := [][]byte{b.macs[0], b.chance.take(16), b.chance.take(16), b.chance.take(16)}
	var events []impl.Event
	var want impl.Outcome
	number := 0
	for now := range keys {
		if now > 0 {
			// Sealed with the key of before where there is one: that is the key of the answer,
			// though it is no key of the link any more once the new one is taken.
			under := keys[max(0, now-2)]
			events = append(events, b.newKey(under, 0, "000090", b.block(impl.UseMac, b.gens[0]+now, keys[now])))
			want.Sent = append(want.Sent, b.answer(under, 0, "0800", "000090", "00"))
			want.Lines = append(want.Lines, impl.Line{Link: 0, Stan: "000090"})
		}
		for under, key := range keys {
			events = append(events, b.under(key, 0, "0100", f(2, toNone), f(11, "000091")))
			if under == now || under == now-1 {
				want.Sent = append(want.Sent, b.answer(key, 0, "0100", "000091", "15"))
				want.Lines = append(want.Lines, impl.Line{Code: 15, Link: 0, Stan: "000091"})
			} else {
				want.Sent = append(want.Sent, b.answer(keys[now], 0, "0100", "000091", "63"))
				want.Lines = append(want.Lines, impl.Line{Code: 63, Link: 0, Stan: "000091"})
			}
		}
		for _, key := range keys[max(0, now-1) : now+1] {
			number++
			events = append(events, b.under(key, 0, "0100", f(2, toZero), f(11, "000092")))
			want.Sent = append(want.Sent, b.sent(keys[now], 0, "0100", f(2, toZero), f(11, six(number))))
			want.Lines = append(want.Lines, impl.Line{Link: 0, Stan: "000092"})
			events = append(events, b.under(key, 0, "0110", f(11, six(number)), f(39, "00")))
			want.Sent = append(want.Sent, b.sent(keys[now], 0, "0110", f(11, "000092"), f(39, "00")))
			want.Lines = append(want.Lines, impl.Line{Link: 0, Stan: six(number)})
		}
	}
	want.Gens = slices.Clone(b.gens)
	want.Gens[0] += len(keys) - 1
	b.runs("keys", events, want)
}

// The key of a link is renewed between a message's way there and its way back.
func TestAnswersAreSealedWithTheKeyOfNow(t *testing.T) {
	b := newBoard(t, "renewed between", 2)
	nextZero, nextOne := b.chance.take(16), b.chance.take(16)
	gens := slices.Clone(b.gens)
	gens[0]++
	gens[1]++
	events := []impl.Event{
		b.newKey(b.macs[1], 1, "000001", b.block(impl.UseMac, gens[1], nextOne)),
		b.ask(0, toOne, "000095"),
		b.newKey(b.macs[0], 0, "000002", b.block(impl.UseMac, gens[0], nextZero)),
		b.reply(1, "000001"),
	}
	b.runs("renewed between", events, impl.Outcome{
		Sent: []impl.Sent{
			b.answer(b.macs[1], 1, "0800", "000001", "00"),
			b.sent(nextOne, 1, "0100", f(2, toOne), f(11, "000001")),
			b.answer(b.macs[0], 0, "0800", "000002", "00"),
			b.sent(nextZero, 0, "0110", f(11, "000095"), f(39, "00")),
		},
		Lines: lines(t, "0@1 000001 0@0 000095 0@0 000002 0@1 000001"), Gens: gens})
}

func TestKeyBlocksThatAreRefused(t *testing.T) {
	b := newBoard(t, "refused blocks", 2)
	next := b.chance.take(16)
	good := b.block(impl.UseMac, b.gens[0]+1, next)
	blocks := [][]byte{{}, next, good[:35], append(bytes.Clone(good), 0), make([]byte, 36), make([]byte, 200),
		b.block(impl.UsePin, b.gens[0]+1, next), b.block(impl.UseBdk, b.gens[0]+1, next),
		b.block(impl.UsePin, b.gens[0], b.macs[0]), b.block(impl.UseBdk, b.gens[0], b.macs[0]),
		impl.Wrap(flipped(b.config.Master, 9), impl.KeyInfo{Use: impl.UseMac, Gen: b.gens[0] + 1, Key: next})}
	for at := range impl.BlockLen {
		blocks = append(blocks, flipped(good, 8*at+at%8))
	}
	for _, block := range blocks {
		b.runs("a key block of "+strconv.Itoa(len(block))+" bytes", []impl.Event{b.newKey(b.macs[0], 0, "000096", block), b.under(next, 0, "0800")}, impl.Outcome{
			Sent:  []impl.Sent{b.answer(b.macs[0], 0, "0800", "000096", "12"), b.answer(b.macs[0], 0, "0800", "", "63")},
			Lines: lines(t, "12@0 000096 63@0 -")})
	}
}
