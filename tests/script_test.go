package tests

import (
	"bytes"
	"math"
	"slices"
	"strconv"
	"strings"
	"testing"

	"loop.example/s01728/impl"
)

// script is a config and its events, to be spoilt.
type script struct {
	config impl.Config
	events []impl.Event
}

// newScript is a copy, so that a spoilt script leaves the board as it is.
func (b *board) newScript() script {
	c := b.config
	c.Links, c.Routes = slices.Clone(c.Links), slices.Clone(c.Routes)
	return script{config: c, events: []impl.Event{drawn(make([]byte, 9)), b.pinned("000001"), tick(1)}}
}

func bad(t *testing.T, what string, s script) {
	t.Helper()
	checkOutcome(t, what, impl.Run(s.config, s.events), impl.Outcome{Code: 1})
}

func good(t *testing.T, what string, s script) {
	t.Helper()
	if out := impl.Run(s.config, s.events); out.Code != 0 || len(out.Gens) != len(s.config.Links) {
		t.Errorf("%s: %v", what, out)
	}
}

func TestBadKeysOfLinks(t *testing.T) {
	b := newBoard(t, "bad keys", 3)
	good(t, "as it is", b.newScript())
	for _, length := range []int{0, 1, 15, 17, 32} {
		s := b.newScript()
		s.config.Master = make([]byte, length)
		bad(t, "another master", s)
		s.config.Links, s.config.Routes, s.events = nil, nil, nil
		bad(t, "another master without links", s)
	}
	s := b.newScript()
	s.config.Master = flipped(s.config.Master, 5)
	bad(t, "a bit of the master", s)
	for link := range b.config.Links {
		key := b.pins[link]
		for _, block := range [][]byte{nil, key, b.block(impl.UseMac, 0, key), b.config.Links[link].MacKey} {
			s = b.newScript()
			s.config.Links[link].PinKey = block
			bad(t, "another PIN key", s)
		}
		for _, block := range [][]byte{nil, key, b.block(impl.UsePin, 0, key), b.block(impl.UseBdk, 0, key), b.config.Links[link].PinKey} {
			s = b.newScript()
			s.config.Links[link].MacKey = block
			bad(t, "another MAC key", s)
		}
		for at := range impl.BlockLen {
			s = b.newScript()
			s.config.Links[link].PinKey = flipped(s.config.Links[link].PinKey, 8*at+at%8)
			bad(t, "a byte of a PIN key", s)
			s = b.newScript()
			s.config.Links[link].MacKey = flipped(s.config.Links[link].MacKey, 8*at+at%8)
			bad(t, "a byte of a MAC key", s)
		}
		for _, format := range otherFormats() {
			s = b.newScript()
			s.config.Links[link].Format = format
			bad(t, "another format", s)
		}
		for _, use := range []int{impl.UsePin, impl.UseBdk} {
			for _, gen := range []int{0, 255} {
				s = b.newScript()
				s.config.Links[link].PinKey = b.block(use, gen, key)
				s.config.Links[link].MacKey = b.block(impl.UseMac, gen, b.macs[link])
				good(t, "other generations", s)
			}
		}
	}
}

func TestBadRoutes(t *testing.T) {
	b := newBoard(t, "bad routes", 3)
	for at := range b.config.Routes {
		for _, prefix := range append(spoilt("4123"), "", strings.Repeat("4", 20), strings.Repeat("4", 4000), "-4", "4 ", "\u0664") {
			s := b.newScript()
			s.config.Routes[at].Prefix = prefix
			bad(t, "prefix "+strconv.Quote(prefix), s)
		}
		for _, link := range []int{-1, 4, 5, math.MinInt, math.MaxInt} {
			s := b.newScript()
			s.config.Routes[at].Link = link
			bad(t, "link "+strconv.Itoa(link), s)
		}
		for length := 1; length <= 19; length++ {
			s := b.newScript()
			s.config.Routes[at] = impl.Route{Prefix: strings.Repeat("9", length), Link: length % 4}
			good(t, "a prefix of "+strconv.Itoa(length), s)
		}
	}
	s := b.newScript()
	s.config.Links, s.events = nil, nil
	bad(t, "routes without links", s)
	s.config.Routes = nil
	good(t, "no links and no routes", s)
	s.events = []impl.Event{message(0, nil)}
	bad(t, "a message without links", s)
}

func TestBadEvents(t *testing.T) {
	b := newBoard(t, "bad events", 3)
	long := make([]byte, impl.MaxData+1)
	for at := range 4 {
		put := func(e impl.Event) script {
			s := b.newScript()
			s.events = slices.Insert(s.events, at, e)
			return s
		}
		for _, kind := range []int{0, -1, 4, math.MinInt, math.MaxInt} {
			bad(t, "kind "+strconv.Itoa(kind), put(impl.Event{Kind: kind}))
		}
		for _, number := range []int{-1, 4, math.MinInt, math.MaxInt} {
			bad(t, "a message on link "+strconv.Itoa(number), put(message(number, nil)))
			good(t, "a tick with a link", put(impl.Event{Kind: impl.EvTick, Link: number, N: 3}))
			good(t, "draws with a link", put(impl.Event{Kind: impl.EvDraws, Link: number}))
		}
		for _, n := range []int{-1, impl.MaxTick + 1, math.MinInt, math.MaxInt} {
			bad(t, "a tick of "+strconv.Itoa(n), put(tick(n)))
			good(t, "a message with a number", put(impl.Event{Kind: impl.EvMessage, Link: 3, N: n}))
			good(t, "draws with a number", put(impl.Event{Kind: impl.EvDraws, N: n}))
		}
		good(t, "a tick of 0", put(tick(0)))
		good(t, "a tick of MaxTick", put(tick(impl.MaxTick)))
		for _, kind := range []int{impl.EvMessage, impl.EvTick, impl.EvDraws} {
			good(t, "MaxData bytes", put(impl.Event{Kind: kind, Data: long[1:]}))
			bad(t, "a byte more", put(impl.Event{Kind: kind, Data: long}))
		}
	}
}

// big is a script that has of everything as much as there may be.
func big(t *testing.T) (*board, script) {
	b := newBoard(t, "big", impl.MaxPending)
	for len(b.config.Links) < impl.MaxLinks {
		b.addLink(impl.UsePin, 3)
	}
	for len(b.config.Routes) < impl.MaxRoutes {
		b.config.Routes = append(b.config.Routes, impl.Route{Prefix: "8" + strconv.Itoa(len(b.config.Routes)), Link: impl.MaxLinks - 1})
	}
	s := b.newScript()
	s.events = nil
	for len(s.events) < impl.MaxEvents-1 {
		s.events = append(s.events, tick(impl.MaxTick))
	}
	s.events = append(s.events, b.ask(impl.MaxLinks-1, "8190000000000000000", "000001"))
	return b, s
}

func TestScriptsOfTheGreatestSize(t *testing.T) {
	b, s := big(t)
	last := impl.MaxLinks - 1
	checkOutcome(t, "the greatest", impl.Run(s.config, s.events), impl.Outcome{Pending: 1, Gens: b.gens,
		Sent:  []impl.Sent{b.sent(b.macs[last], last, "0100", f(2, "8190000000000000000"), f(11, "000001"))},
		Lines: []impl.Line{{Link: last, Stan: "000001"}}})
	more := s
	more.config.Links = append(slices.Clone(s.config.Links), s.config.Links[0])
	bad(t, "a link more", more)
	more = s
	more.config.Routes = append(slices.Clone(s.config.Routes), s.config.Routes[0])
	bad(t, "a route more", more)
	more = s
	more.events = append(slices.Clone(s.events), tick(0))
	bad(t, "an event more", more)
	for _, room := range []int{-1, impl.MaxPending + 1, math.MinInt, math.MaxInt} {
		more = s
		more.config.Room = room
		bad(t, "room "+strconv.Itoa(room), more)
	}
	for room := range impl.MaxPending + 1 {
		more = s
		more.config.Room = room
		good(t, "room "+strconv.Itoa(room), more)
	}
}

func TestTheSmallestScripts(t *testing.T) {
	chance := &source{seed: "smallest"}
	checkOutcome(t, "a master alone", impl.Run(impl.Config{Master: chance.take(16)}, nil), impl.Outcome{})
	checkOutcome(t, "nothing", impl.Run(impl.Config{}, nil), impl.Outcome{Code: 1})
	b := newBoard(t, "smallest", 0)
	b.runs("no events", nil, impl.Outcome{})
	b.runs("draws and ticks", []impl.Event{drawn(nil), tick(0), drawn([]byte{1}), tick(impl.MaxTick)}, impl.Outcome{})
	b.config.Routes = nil
	b.runs("no routes", []impl.Event{b.ask(0, toZero, "000001")}, impl.Outcome{
		Sent: []impl.Sent{b.answer(b.macs[0], 0, "0100", "000001", "15")}, Lines: lines(t, "15@0 000001")})
}

// frozen is all that a script holds, as one text of bytes.
func (s script) frozen() []byte {
	var out []byte
	put := func(list []byte) {
		out = append(append(out, list[:cap(list)]...), '|')
	}
	put(s.config.Master)
	for _, link := range s.config.Links {
		put(link.PinKey)
		put(link.MacKey)
		out = strconv.AppendInt(out, int64(link.Format), 10)
	}
	for _, route := range s.config.Routes {
		out = strconv.AppendInt(append(out, route.Prefix...), int64(route.Link), 10)
	}
	for _, e := range s.events {
		put(e.Data)
		out = strconv.AppendInt(out, int64(e.Kind*1000000+e.Link*10000+e.N), 10)
	}
	return out
}

// roomy has room behind each list, where a careless append would write.
func (s script) roomy() script {
	room := func(list []byte) []byte { return append(bytes.Clone(list), make([]byte, 32)...)[:len(list)] }
	s.config.Master = room(s.config.Master)
	s.config.Links, s.events = slices.Clone(s.config.Links), slices.Clone(s.events)
	for i, link := range s.config.Links {
		s.config.Links[i].PinKey, s.config.Links[i].MacKey = room(link.PinKey), room(link.MacKey)
	}
	for i, e := range s.events {
		s.events[i].Data = room(e.Data)
	}
	return s
}

func copyOf(o impl.Outcome) impl.Outcome {
	o.Lines, o.Gens, o.Sent = slices.Clone(o.Lines), slices.Clone(o.Gens), slices.Clone(o.Sent)
	for i := range o.Sent {
		o.Sent[i].Data = bytes.Clone(o.Sent[i].Data)
	}
	return o
}

// What an answer holds is its own: no argument is written to, and writing over
// one list of it changes no other, nor a later answer.
func TestRunLeavesItsArgumentsAlone(t *testing.T) {
	b := newBoard(t, "run alone", 4)
	next := b.chance.take(16)
	s := b.newScript()
	renew := b.newKey(b.macs[0], 0, "000002", b.block(impl.UseMac, b.gens[0]+1, next))
	s.events = append(s.events, renew, renew, b.pinned("000003"), drawn(b.chance.take(30)), b.pinned("000004"), b.reply(1, "000002"),
		b.under(next, 0, "0100", f(2, toNone), f(11, "000005")), tick(impl.MaxTick), b.under(next, 0, "0100"))
	s = s.roomy()
	before := s.frozen()
	first := impl.Run(s.config, s.events)
	kept := copyOf(first)
	if len(kept.Sent) < 6 || len(kept.Lines) < 8 {
		t.Fatalf("too little comes of the script: %v", kept)
	}
	for i := range first.Sent {
		data := first.Sent[i].Data[:cap(first.Sent[i].Data)]
		for j := range data {
			data[j] ^= 0xFF
		}
		for j := range first.Sent[i+1:] {
			same(t, "a later message", first.Sent[i+1+j].Data, kept.Sent[i+1+j].Data)
		}
	}
	first.Gens[0]++
	first.Lines[0].Code++
	checkOutcome(t, "a second run", impl.Run(s.config, s.events), kept)
	same(t, "the script", s.frozen(), before)
}

// A script of chance ends without a panic, whatever is in it.
func TestRunTakesAnything(t *testing.T) {
	b := newBoard(t, "anything", 3)
	for range 300 {
		s := b.newScript()
		for range 20 {
			pick := b.chance.take(4)
			data := b.chance.take(int(pick[3]) % 80)
			if pick[2]%2 == 0 {
				data = append([]byte("0100"), data...)
			}
			s.events = append(s.events, impl.Event{Kind: 1 + int(pick[0])%3, Link: int(pick[1]) % 4, N: int(pick[2]), Data: data})
		}
		good(t, "chance", s)
		pick := b.chance.take(2)
		s.events[int(pick[0])%len(s.events)] = impl.Event{Kind: int(int8(pick[1])), Link: math.MaxInt, N: math.MinInt}
		if out := impl.Run(s.config, s.events); out.Code != 1 && pick[1] != impl.EvDraws {
			t.Errorf("kind %d is taken", int8(pick[1]))
		}
	}
	impl.Run(impl.Config{Links: make([]impl.Link, 100), Routes: make([]impl.Route, 100), Room: 7}, make([]impl.Event, 1000))
	impl.RouteOf(make([]impl.Route, 1000), "")
}
