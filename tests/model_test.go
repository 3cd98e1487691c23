package tests

import (
	"bytes"
	"slices"
	"strconv"
	"strings"
	"testing"

	"loop.example/s01728/impl"
)

// clearKey is a MAC key outside its block.
type clearKey struct {
	gen int
	key []byte
}

type waiting struct {
	to, from, time int
	number, stan   string
}

// model plays scripts by the document's words, on clear keys and with the
// library's ciphers.
type model struct {
	*board
	now, before []clearKey
	clock, next int
	draws       []byte
	waits       []waiting
	out         impl.Outcome
}

func newModel(b *board) *model {
	m := &model{board: b, next: 1, before: make([]clearKey, len(b.macs))}
	for link, key := range b.macs {
		m.now = append(m.now, clearKey{b.gens[link], key})
	}
	return m
}

func (m *model) note(code, link int, stan string) {
	m.out.Lines = append(m.out.Lines, impl.Line{Code: code, Link: link, Stan: stan})
}

func (m *model) play(e impl.Event) {
	switch e.Kind {
	case impl.EvDraws:
		m.draws = append(m.draws, e.Data...)
	case impl.EvTick:
		m.clock += e.N
		for i := 0; i < len(m.waits); {
			if w := m.waits[i]; w.time < m.clock {
				m.note(68, w.to, w.number)
				m.waits = slices.Delete(m.waits, i, i+1)
			} else {
				i++
			}
		}
	case impl.EvMessage:
		m.message(e.Link, e.Data)
	}
}

func (m *model) opens(key []byte, data []byte, macAt int) bool {
	return len(key) > 0 && macAt > 0 && bytes.Equal(standardMac(m.t, key, data[:macAt]), data[macAt:])
}

func (m *model) message(link int, data []byte) {
	d := told(data)
	if d.Code != impl.IsoOK {
		m.note(30, link, "")
		return
	}
	held := map[int]string{}
	for _, field := range d.Msg.Fields {
		held[field.No] = string(field.Data)
	}
	key, right := m.now[link].key, true
	if !m.opens(key, data, d.MacAt) {
		right = m.opens(m.before[link].key, data, d.MacAt)
		if right {
			key = m.before[link].key
		}
	}
	code := 63
	if right {
		switch d.Msg.Mti {
		case "0100":
			code = m.ask(link, d.Msg.Fields, held)
		case "0110":
			code = m.reply(link, d.Msg.Fields, held)
		case "0800":
			code = m.renew(link, held)
		default:
			code = 12
		}
	}
	if d.Msg.Mti == "0800" || d.Msg.Mti == "0100" && code != 0 {
		m.out.Sent = append(m.out.Sent, m.answer(key, link, d.Msg.Mti, held[11], strconv.Itoa(100 + code)[1:]))
	}
	m.note(code, link, held[11])
}

func (m *model) ask(link int, fields []impl.Field, held map[int]string) int {
	pan, has := held[2]
	if !has || held[11] == "" {
		return 30
	}
	to := strings.Index("4567", pan[:1])
	if to < 0 {
		return 15
	}
	if len(m.waits) == m.config.Room {
		return 91
	}
	if block, has := held[52]; has {
		moved, code := m.move(link, to, pan, []byte(block), []byte(held[53]))
		if code != 0 {
			return code
		}
		fields = sets(fields, 52, moved)
	}
	number := six(m.next)
	m.next++
	on := sets(sets(fields, 53, nil), 11, []byte(number))
	m.out.Sent = append(m.out.Sent, m.sent(m.now[to].key, to, "0100", on...))
	m.waits = append(m.waits, waiting{to: to, from: link, time: m.clock + 30, number: number, stan: held[11]})
	return 0
}

func (m *model) move(link, to int, pan string, block, ksn []byte) ([]byte, int) {
	base := link >= 2
	if to >= 2 || base != (len(ksn) > 0) {
		return nil, 96
	}
	key := m.pins[link]
	if base {
		key = serialPinKey(m.t, key, ksn)
	}
	read := impl.ReadPin(3*(link%2), underStandard(m.t, key, block, true), pan)
	if read.Code != 0 {
		return nil, 55
	}
	made := impl.MakePin(3*to, read.Pin, pan, m.draws)
	if made.Code != 0 {
		return nil, 96
	}
	m.draws = m.draws[made.Used:]
	return underStandard(m.t, m.pins[to], made.Block, false), 0
}

func (m *model) reply(link int, fields []impl.Field, held map[int]string) int {
	if held[11] == "" || held[39] == "" {
		return 30
	}
	for i, w := range m.waits {
		if w.to == link && w.number == held[11] {
			m.out.Sent = append(m.out.Sent, m.sent(m.now[w.from].key, w.from, "0110", sets(fields, 11, []byte(w.stan))...))
			m.waits = slices.Delete(m.waits, i, i+1)
			return 0
		}
	}
	return 68
}

func (m *model) renew(link int, held map[int]string) int {
	block, has := held[48]
	if held[11] == "" || !has || held[70] != "101" {
		return 30
	}
	opened := impl.Unwrap(m.config.Master, []byte(block))
	if opened.Code != 0 || opened.Info.Use != impl.UseMac {
		return 12
	}
	given, now := clearKey{opened.Info.Gen, opened.Info.Key}, m.now[link]
	if given.gen == now.gen+1 {
		m.before[link], m.now[link] = now, given
		return 0
	}
	if given.gen == now.gen && bytes.Equal(given.key, now.key) {
		return 0
	}
	return 12
}

// outOf is true in one of n cases.
func (m *model) outOf(n int) bool {
	return int(m.chance.take(1)[0])%n == 0
}

func (m *model) below(n int) int {
	return int(m.chance.take(1)[0]) % n
}

// someEvent hangs on what the model has come to, so that most of what comes is right.
func (m *model) someEvent() impl.Event {
	if m.outOf(6) {
		return tick([]int{0, 1, 4, 9, 29, 30, 31, 500}[m.below(8)])
	}
	if m.outOf(5) {
		return drawn(m.chance.take(m.below(20)))
	}
	link, mti, fields := m.below(4), "0100", map[int][]byte(nil)
	switch m.below(8) {
	case 0, 1, 2, 3:
		fields = m.someAsk(link)
	case 4, 5:
		mti = "0110"
		link, fields = m.someReply(link)
	case 6:
		mti = "0800"
		fields = m.someKey(link)
	default:
		mti = []string{"0200", "0420", "0810"}[m.below(3)]
		fields = map[int][]byte{11: []byte(digits(m.chance, 6))}
	}
	data := m.spoiltNowAndThen(stamped(m.t, m.someMacKey(link), mti, m.laidOut(fields)...))
	return message(link, data)
}

func (m *model) someMacKey(link int) []byte {
	switch m.below(12) {
	case 0, 1:
		if len(m.before[link].key) > 0 {
			return m.before[link].key
		}
	case 2:
		return m.macs[link]
	case 3:
		return m.now[m.below(4)].key
	}
	return m.now[link].key
}

func (m *model) spoiltNowAndThen(data []byte) []byte {
	if m.outOf(25) {
		return flipped(data, m.below(8*len(data)))
	}
	if m.outOf(40) {
		return data[:m.below(len(data))]
	}
	return data
}

// laidOut puts fields in order, leaves out one now and then, and adds some.
func (m *model) laidOut(fields map[int][]byte) []impl.Field {
	var out []impl.Field
	for _, spec := range fieldSpecs() {
		data, has := fields[spec.no]
		if has && m.outOf(25) {
			continue
		}
		if !has && spec.no != 52 && spec.no != 53 && m.outOf(6) {
			data, has = spec.fill(m.chance, spec.least), true
		}
		if has {
			out = append(out, impl.Field{No: spec.no, Data: data})
		}
	}
	return out
}

func (m *model) someAsk(link int) map[int][]byte {
	pan := string("4444455555679"[m.below(13)]) + digits(m.chance, 12+m.below(7))
	fields := map[int][]byte{2: []byte(pan), 11: []byte(digits(m.chance, 6))}
	if m.outOf(3) {
		return fields
	}
	var ksn []byte
	if link >= 2 {
		ksn = m.chance.take(10)
	}
	fields[52] = m.pin(link, digits(m.chance, 4+m.below(9)), pan, ksn).Data
	if m.outOf(10) {
		fields[52] = m.chance.take(8)
	}
	if link >= 2 || m.outOf(12) {
		fields[53] = ksn
		if ksn == nil {
			fields[53] = m.chance.take(10)
		}
	}
	return fields
}

func (m *model) someReply(link int) (int, map[int][]byte) {
	number := six(m.below(12))
	if len(m.waits) > 0 && !m.outOf(5) {
		w := m.waits[m.below(len(m.waits))]
		number = w.number
		if !m.outOf(6) {
			link = w.to
		}
	}
	return link, map[int][]byte{11: []byte(number), 39: []byte("05")}
}

func (m *model) someKey(link int) map[int][]byte {
	now := m.now[link]
	given := clearKey{now.gen + []int{0, 0, 1, 1, 1, 2, -1}[m.below(7)], m.chance.take(16)}
	if m.outOf(2) {
		given.key = now.key
	}
	use := impl.UseMac
	if m.outOf(10) {
		use = 1 + m.below(3)
	}
	task := "101"
	if m.outOf(12) {
		task = "102"
	}
	block := impl.Wrap(m.config.Master, impl.KeyInfo{Use: use, Gen: given.gen, Key: given.key})
	return map[int][]byte{11: []byte(digits(m.chance, 6)), 48: block, 70: []byte(task)}
}

// Promises 12 to 16, over scripts of chance: what is sent, noted and waiting is
// what the document says, behind every tenth event.
func TestRunGoesAsTheDocumentSays(t *testing.T) {
	seen := map[int]int{}
	for round := range 60 {
		b := newBoard(t, "script "+strconv.Itoa(round), 1+round%6)
		m := newModel(b)
		var events []impl.Event
		for range impl.MaxEvents {
			events = append(events, m.someEvent())
			m.play(events[len(events)-1])
			m.out.Pending = len(m.waits)
			if m.out.Pending > b.config.Room {
				t.Fatal("the model lets too many wait")
			}
			m.out.Gens = nil
			for _, key := range m.now {
				m.out.Gens = append(m.out.Gens, key.gen)
			}
			if len(events)%10 == 0 {
				checkOutcome(t, "script "+strconv.Itoa(round), impl.Run(b.config, events), m.out)
			}
		}
		for _, line := range m.out.Lines {
			seen[line.Code]++
		}
	}
	for _, code := range []int{0, 12, 15, 30, 55, 63, 68, 91, 96} {
		if seen[code] < 20 {
			t.Errorf("code %d came only %d times", code, seen[code])
		}
	}
}
