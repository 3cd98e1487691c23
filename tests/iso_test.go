package tests

import (
	"bytes"
	"math"
	"slices"
	"strconv"
	"strings"
	"testing"

	"loop.example/s01728/impl"
)

// fieldSpec is a field as the document lists it; digits is 0 for one size.
type fieldSpec struct {
	no, digits, least, most int
	holds                   string
}

const (
	ofDigits = "0123456789"
	ofText   = " !\"#$%&'()*+,-./0123456789:;<=>?@ABCDEFGHIJKLMNOPQRSTUVWXYZ[\\]^_`abcdefghijklmnopqrstuvwxyz{|}~"
)

func fieldSpecs() []fieldSpec {
	anyByte := make([]byte, 256)
	for i := range anyByte {
		anyByte[i] = byte(i)
	}
	ofBytes := string(anyByte)
	return []fieldSpec{
		{2, 2, 13, 19, ofDigits}, {3, 0, 6, 6, ofDigits}, {4, 0, 12, 12, ofDigits}, {7, 0, 10, 10, ofDigits},
		{11, 0, 6, 6, ofDigits}, {37, 0, 12, 12, ofText}, {39, 0, 2, 2, ofText}, {41, 0, 8, 8, ofText},
		{48, 3, 0, 200, ofBytes}, {52, 0, 8, 8, ofBytes}, {53, 0, 10, 10, ofBytes}, {64, 0, 8, 8, ofBytes},
		{70, 0, 3, 3, ofDigits}, {128, 0, 8, 8, ofBytes},
	}
}

func specOf(no int) (fieldSpec, bool) {
	for _, spec := range fieldSpecs() {
		if spec.no == no {
			return spec, true
		}
	}
	return fieldSpec{}, false
}

func (s fieldSpec) fill(chance *source, size int) []byte {
	out := chance.take(size)
	for i, b := range out {
		out[i] = s.holds[int(b)%len(s.holds)]
	}
	return out
}

func (s fieldSpec) takes(data []byte) bool {
	for _, b := range data {
		if strings.IndexByte(s.holds, b) < 0 {
			return false
		}
	}
	return len(data) >= s.least && len(data) <= s.most
}

// laid is a field's bytes as they lie in a message.
func (s fieldSpec) laid(data []byte) string {
	if s.digits == 0 {
		return string(data)
	}
	length := "000" + strconv.Itoa(len(data))
	return length[len(length)-s.digits:] + string(data)
}

// mapOf has the second map just if it is asked for.
func mapOf(second bool, numbers ...int) string {
	out := make([]byte, 16)
	for _, no := range numbers {
		out[(no-1)/8] |= 1 << (7 - (no-1)%8)
	}
	if second {
		out[0] |= 0x80
		return string(out)
	}
	return string(out[:8])
}

// wire is a message as it lies, built from the document's words.
func wire(m impl.Msg) string {
	var numbers []int
	var body strings.Builder
	for _, field := range m.Fields {
		spec, _ := specOf(field.No)
		numbers = append(numbers, field.No)
		body.WriteString(spec.laid(field.Data))
	}
	second := len(numbers) > 0 && numbers[len(numbers)-1] > 64
	return m.Mti + mapOf(second, numbers...) + body.String()
}

// someMessage has the fields that chance picks, of sizes that chance picks.
func someMessage(chance *source) impl.Msg {
	m := impl.Msg{Mti: digits(chance, 4)}
	for _, spec := range fieldSpecs() {
		pick := chance.take(2)
		if pick[0]%2 == 0 {
			m.Fields = append(m.Fields, impl.Field{No: spec.no, Data: spec.fill(chance, spec.least+int(pick[1])%(spec.most-spec.least+1))})
		}
	}
	return m
}

// messages are every field alone, at its least and most, each pair of fields,
// all and none, and some of chance.
func messages(chance *source) []impl.Msg {
	out := []impl.Msg{{Mti: "0000"}, {Mti: "9999"}}
	var all, most impl.Msg
	all.Mti, most.Mti = "0100", "0800"
	for i, spec := range fieldSpecs() {
		least := impl.Field{No: spec.no, Data: spec.fill(chance, spec.least)}
		full := impl.Field{No: spec.no, Data: spec.fill(chance, spec.most)}
		all.Fields = append(all.Fields, least)
		most.Fields = append(most.Fields, full)
		for size := spec.least; size <= spec.most; size++ {
			out = append(out, impl.Msg{Mti: digits(chance, 4), Fields: []impl.Field{{No: spec.no, Data: spec.fill(chance, size)}}})
		}
		for _, before := range all.Fields[:i] {
			out = append(out, impl.Msg{Mti: digits(chance, 4), Fields: []impl.Field{before, full}})
		}
	}
	out = append(out, all, most)
	for range 300 {
		out = append(out, someMessage(chance))
	}
	return out
}

func alike(a, b impl.Msg) bool {
	if a.Mti != b.Mti || len(a.Fields) != len(b.Fields) {
		return false
	}
	for i, field := range a.Fields {
		if field.No != b.Fields[i].No || !bytes.Equal(field.Data, b.Fields[i].Data) {
			return false
		}
	}
	return true
}

// macPlace is where the last field begins, if it is one for a MAC.
func macPlace(m impl.Msg, length int) int {
	if len(m.Fields) > 0 {
		if last := m.Fields[len(m.Fields)-1].No; last == 64 || last == 128 {
			return length - 8
		}
	}
	return 0
}

// Promise 10.
func TestDecodeOfEncode(t *testing.T) {
	for _, m := range messages(&source{seed: "messages"}) {
		data := impl.Encode(m)
		same(t, "Encode", data, []byte(wire(m)))
		d := impl.Decode(data)
		if d.Code != impl.IsoOK || d.Pos != 0 || !alike(d.Msg, m) {
			t.Errorf("%q comes back as %v", data, d)
		}
		if want := macPlace(m, len(data)); d.MacAt != want {
			t.Errorf("%q: MacAt %d, not %d", data, d.MacAt, want)
		}
	}
}

func TestEncodeByHand(t *testing.T) {
	pan := impl.Field{No: 2, Data: []byte("4111111111111111111")}
	low := impl.Field{No: 64, Data: []byte("\x00\x01\x02\x03\xFC\xFD\xFE\xFF")}
	high := impl.Field{No: 128, Data: []byte("12345678")}
	for _, r := range []struct {
		fields []impl.Field
		want   string
	}{
		{nil, "0110\x00\x00\x00\x00\x00\x00\x00\x00"},
		{[]impl.Field{pan}, "0110\x40\x00\x00\x00\x00\x00\x00\x00194111111111111111111"},
		{[]impl.Field{low}, "0110\x00\x00\x00\x00\x00\x00\x00\x01\x00\x01\x02\x03\xFC\xFD\xFE\xFF"},
		{[]impl.Field{high}, "0110\x80\x00\x00\x00\x00\x00\x00\x00\x00\x00\x00\x00\x00\x00\x00\x0112345678"},
		{[]impl.Field{pan, low, high}, "0110\xC0\x00\x00\x00\x00\x00\x00\x01\x00\x00\x00\x00\x00\x00\x00\x01" +
			"194111111111111111111\x00\x01\x02\x03\xFC\xFD\xFE\xFF12345678"},
		{[]impl.Field{{No: 48}}, "0110\x00\x00\x00\x00\x00\x01\x00\x00000"},
		{[]impl.Field{{No: 48, Data: make([]byte, 7)}}, "0110\x00\x00\x00\x00\x00\x01\x00\x00007\x00\x00\x00\x00\x00\x00\x00"},
		{[]impl.Field{{No: 48, Data: bytes.Repeat([]byte("x"), 200)}}, "0110\x00\x00\x00\x00\x00\x01\x00\x00200" + strings.Repeat("x", 200)},
	} {
		same(t, "Encode", impl.Encode(impl.Msg{Mti: "0110", Fields: r.fields}), []byte(r.want))
	}
}

func TestMacAtIsTheLastFieldsPlace(t *testing.T) {
	mac, stan, net := []byte("12345678"), []byte("000001"), []byte("101")
	for _, r := range []struct {
		fields []impl.Field
		want   int
	}{
		{nil, 0},
		{[]impl.Field{{No: 11, Data: stan}}, 0},
		{[]impl.Field{{No: 64, Data: mac}}, 12},
		{[]impl.Field{{No: 11, Data: stan}, {No: 64, Data: mac}}, 18},
		{[]impl.Field{{No: 128, Data: mac}}, 20},
		{[]impl.Field{{No: 64, Data: mac}, {No: 128, Data: mac}}, 28},
		{[]impl.Field{{No: 64, Data: mac}, {No: 70, Data: net}}, 0},
		{[]impl.Field{{No: 64, Data: mac}, {No: 70, Data: net}, {No: 128, Data: mac}}, 31},
		{[]impl.Field{{No: 52, Data: mac}}, 0},
	} {
		d := impl.Decode(impl.Encode(impl.Msg{Mti: "0100", Fields: r.fields}))
		if d.Code != impl.IsoOK || d.MacAt != r.want {
			t.Errorf("%v: %v, not MacAt %d", r.fields, d, r.want)
		}
	}
}

func TestEncodeRefusesOtherTypes(t *testing.T) {
	for _, mti := range append(spoilt("0100"), "", "0", "010", "01000", "٠١", "0100\x00", strings.Repeat("0", 100)) {
		empty(t, "type "+strconv.Quote(mti), impl.Encode(impl.Msg{Mti: mti}))
		empty(t, "and a field", impl.Encode(impl.Msg{Mti: mti, Fields: []impl.Field{{No: 39, Data: []byte("00")}}}))
	}
}

func TestEncodeRefusesUnknownFields(t *testing.T) {
	numbers := []int{math.MinInt, -128, -64, -2, -1, 129, 130, 258, 256 + 39, 1<<32 + 2, math.MaxInt}
	for no := range 129 {
		numbers = append(numbers, no)
	}
	for _, no := range numbers {
		if _, known := specOf(no); known {
			continue
		}
		for length := range 21 {
			field := impl.Field{No: no, Data: bytes.Repeat([]byte("1"), length)}
			empty(t, "field "+strconv.Itoa(no), impl.Encode(impl.Msg{Mti: "0100", Fields: []impl.Field{field}}))
		}
		low, high := impl.Field{No: 2, Data: []byte("4111111111111")}, impl.Field{No: 128, Data: make([]byte, 8)}
		empty(t, "behind field 2", impl.Encode(impl.Msg{Mti: "0100", Fields: []impl.Field{low, {No: no}}}))
		empty(t, "ahead of field 128", impl.Encode(impl.Msg{Mti: "0100", Fields: []impl.Field{{No: no}, high}}))
	}
}

func TestEncodeRefusesFieldsOutOfOrder(t *testing.T) {
	chance := &source{seed: "order"}
	specs := fieldSpecs()
	for i, first := range specs {
		for j, second := range specs {
			fields := []impl.Field{{No: first.no, Data: first.fill(chance, first.most)}, {No: second.no, Data: second.fill(chance, second.most)}}
			data := impl.Encode(impl.Msg{Mti: "0100", Fields: fields})
			if (len(data) > 0) != (i < j) {
				t.Errorf("fields %d and %d: %q", first.no, second.no, data)
			}
			if i < j {
				again := append(slices.Clone(fields), fields[0])
				empty(t, "the first once more", impl.Encode(impl.Msg{Mti: "0100", Fields: again}))
			}
		}
	}
	many := make([]impl.Field, 1<<16)
	for i := range many {
		many[i] = impl.Field{No: 39, Data: []byte("00")}
	}
	empty(t, "one field many times", impl.Encode(impl.Msg{Mti: "0100", Fields: many}))
}

func TestEncodeRefusesWhatFieldsCannotHold(t *testing.T) {
	chance := &source{seed: "cannot hold"}
	for _, spec := range fieldSpecs() {
		for size := range 260 {
			data := spec.fill(chance, size)
			got := impl.Encode(impl.Msg{Mti: "0100", Fields: []impl.Field{{No: spec.no, Data: data}}})
			if (len(got) > 0) != spec.takes(data) {
				t.Errorf("field %d of %d bytes: %q", spec.no, size, got)
			}
		}
		for _, at := range []int{0, spec.least / 2, spec.least - 1} {
			for value := range 256 {
				if spec.least == 0 {
					continue
				}
				data := spec.fill(chance, spec.least)
				data[at] = byte(value)
				got := impl.Encode(impl.Msg{Mti: "0100", Fields: []impl.Field{{No: spec.no, Data: data}}})
				if (len(got) > 0) != spec.takes(data) {
					t.Errorf("field %d with byte %x at %d: %q", spec.no, value, at, got)
				}
			}
		}
		empty(t, "far too much", impl.Encode(impl.Msg{Mti: "0100", Fields: []impl.Field{{No: spec.no, Data: bytes.Repeat([]byte("1"), 100000)}}}))
	}
}

// told is what Decode is to answer, read off the document's words part by part.
func told(data []byte) impl.Decoded {
	if len(data) > impl.MaxData {
		return impl.Decoded{Code: impl.IsoTail, Pos: impl.MaxData}
	}
	if len(data) < 4 {
		return impl.Decoded{Code: impl.IsoShort}
	}
	if strings.Trim(string(data[:4]), ofDigits) != "" {
		return impl.Decoded{Code: impl.IsoMti}
	}
	end := 12
	if len(data) > 4 && data[4] >= 0x80 {
		end = 20
	}
	if len(data) < end {
		return impl.Decoded{Code: impl.IsoShort, Pos: 4}
	}
	var named []fieldSpec
	above := false
	for bit := 1; bit < 8*(end-4); bit++ {
		if data[4+bit/8]<<(bit%8)&0x80 == 0 {
			continue
		}
		spec, known := specOf(bit + 1)
		if !known {
			return impl.Decoded{Code: impl.IsoField, Pos: 4}
		}
		above = above || spec.no > 64
		named = append(named, spec)
	}
	if end == 20 && !above {
		return impl.Decoded{Code: impl.IsoField, Pos: 4}
	}
	return toldFields(data, end, named)
}

func toldFields(data []byte, at int, named []fieldSpec) impl.Decoded {
	answer := impl.Decoded{Msg: impl.Msg{Mti: string(data[:4])}}
	for _, spec := range named {
		rest := data[at:]
		size := spec.least
		if len(rest) < spec.digits {
			return impl.Decoded{Code: impl.IsoShort, Pos: at}
		}
		if spec.digits > 0 {
			size = 0
			for _, b := range rest[:spec.digits] {
				if b < '0' || b > '9' {
					return impl.Decoded{Code: impl.IsoData, Pos: at}
				}
				size = 10*size + int(b-'0')
			}
			if size < spec.least || size > spec.most {
				return impl.Decoded{Code: impl.IsoData, Pos: at}
			}
		}
		if len(rest) < spec.digits+size {
			return impl.Decoded{Code: impl.IsoShort, Pos: at}
		}
		held := rest[spec.digits : spec.digits+size]
		if !spec.takes(held) {
			return impl.Decoded{Code: impl.IsoData, Pos: at}
		}
		answer.Msg.Fields = append(answer.Msg.Fields, impl.Field{No: spec.no, Data: held})
		at += spec.digits + size
	}
	if at < len(data) {
		return impl.Decoded{Code: impl.IsoTail, Pos: at}
	}
	answer.MacAt = macPlace(answer.Msg, len(data))
	return answer
}

// Promise 10: what Decode takes is Encode of what it tells.
func checkDecode(t *testing.T, data []byte) {
	t.Helper()
	got, want := impl.Decode(data), told(data)
	if got.Code != want.Code || got.Pos != want.Pos || got.MacAt != want.MacAt || !alike(got.Msg, want.Msg) {
		t.Errorf("%q: %v, not %v", data, got, want)
	}
	if got.Code == impl.IsoOK {
		same(t, "Encode of what Decode tells", impl.Encode(got.Msg), data)
	}
}

func TestDecodeOfSpoiltMessages(t *testing.T) {
	chance := &source{seed: "spoilt messages"}
	for _, m := range messages(chance) {
		data := []byte(wire(m))
		for bit := range 8 * min(len(data), 60) {
			checkDecode(t, flipped(data, bit))
		}
		for at := range data {
			checkDecode(t, data[:at])
			other := bytes.Clone(data)
			other[at] = chance.take(1)[0]
			checkDecode(t, other)
			checkDecode(t, other[:max(at, len(data)-at)])
		}
		checkDecode(t, append(bytes.Clone(data), 0))
		checkDecode(t, append(bytes.Clone(data), data...))
	}
	for length := range 40 {
		for range 50 {
			checkDecode(t, chance.take(length))
			checkDecode(t, append([]byte("0100"), chance.take(length)...))
		}
	}
}

func faultAt(t *testing.T, what, text string, code, pos int) {
	t.Helper()
	d := impl.Decode([]byte(text))
	if d.Code != code || d.Pos != pos || d.MacAt != 0 || d.Msg.Mti != "" || len(d.Msg.Fields) != 0 {
		t.Errorf("%s: %q: %v, not code %d at %d alone", what, text, d, code, pos)
	}
}

func TestDecodeCutShortAtEveryPlace(t *testing.T) {
	text := "0100" + mapOf(true, 2, 11, 48, 52, 70, 128) + "134111111111111" + "000001" + "003abc" + "PINBLOCK" + "101" + "MACMACMA"
	if d := impl.Decode([]byte(text)); d.Code != impl.IsoOK || d.MacAt != len(text)-8 {
		t.Fatalf("the whole message: %v", d)
	}
	begins := []int{0, 4, 20, 35, 41, 47, 55, 58, len(text)}
	for i := range len(begins) - 1 {
		for cut := begins[i]; cut < begins[i+1]; cut++ {
			faultAt(t, "cut short", text[:cut], impl.IsoShort, begins[i])
		}
	}
	for more := 1; len(text)+more <= impl.MaxData; more += 97 {
		faultAt(t, "bytes behind the last field", text+strings.Repeat("\x00", more), impl.IsoTail, len(text))
	}
}

func TestDecodeTellsMessagesThatAreTooLong(t *testing.T) {
	text := "0100" + mapOf(false, 39) + "00"
	whole := text + strings.Repeat("0", impl.MaxData-len(text))
	faultAt(t, "MaxData bytes", whole, impl.IsoTail, len(text))
	faultAt(t, "one more", whole+"0", impl.IsoTail, impl.MaxData)
	faultAt(t, "many more", strings.Repeat(whole, 5), impl.IsoTail, impl.MaxData)
	for _, start := range []string{"01x0", "0100" + mapOf(false, 5), "0100" + mapOf(false, 11) + "x"} {
		faultAt(t, "one more, and another fault", (start + strings.Repeat("\x00", impl.MaxData))[:impl.MaxData+1], impl.IsoTail, impl.MaxData)
	}
	faultAt(t, "MaxData bytes, and another fault", "01x0"+whole[4:], impl.IsoMti, 0)
}

func TestDecodeTellsWrongMaps(t *testing.T) {
	body := strings.Repeat("1", 300)
	for no := 2; no <= 128; no++ {
		if _, known := specOf(no); known {
			continue
		}
		faultAt(t, "a field that there is not", "0100"+mapOf(no > 64, no)+body, impl.IsoField, 4)
		faultAt(t, "beside others", "0100"+mapOf(true, 2, 3, no, 70)+body, impl.IsoField, 4)
		faultAt(t, "and nothing behind it", "0100"+mapOf(no > 64, no), impl.IsoField, 4)
	}
	faultAt(t, "a second map of none", "0100"+mapOf(true), impl.IsoField, 4)
	faultAt(t, "a second map of none, and fields below", "0100"+mapOf(true, 11, 64)+"000001"+"MACMACMA", impl.IsoField, 4)
	for no, held := range map[int]string{70: "101", 128: "MACMACMA"} {
		if d := impl.Decode([]byte("0100" + mapOf(true, no) + held)); d.Code != impl.IsoOK || d.Msg.Fields[0].No != no {
			t.Errorf("a second map of field %d alone: %v", no, d)
		}
	}
}

func TestDecodeTellsShortAheadOfWrong(t *testing.T) {
	first := func(numbers ...int) string { return "0100" + mapOf(false, numbers...) }
	second := func(numbers ...int) string { return "0100" + mapOf(true, numbers...) }
	for _, r := range []struct {
		what, text string
		code, pos  int
	}{
		{"a type", "01x", impl.IsoShort, 0},
		{"a type that is all there", "01x0", impl.IsoMti, 0},
		{"nothing", "", impl.IsoShort, 0},
		{"a map", first(5)[:11], impl.IsoShort, 4},
		{"a map ahead of a second one", second(5, 70)[:12], impl.IsoShort, 4},
		{"a second map", second(5, 65)[:19], impl.IsoShort, 4},
		{"a map that names a second one, and one byte", "0100\x80", impl.IsoShort, 4},
		{"a map that is all there", second(5), impl.IsoField, 4},
		{"a field of digits", first(11) + "x", impl.IsoShort, 12},
		{"a field of digits but one", first(11) + "xxxxx", impl.IsoShort, 12},
		{"a field of text", first(39) + "\x7F", impl.IsoShort, 12},
		{"a length", first(2) + "x", impl.IsoShort, 12},
		{"a length of three digits", first(48) + "x9", impl.IsoShort, 12},
		{"what a length is of", first(2) + "13x", impl.IsoShort, 12},
		{"what a length is of but one", first(2) + "13xxxxxxxxxxxx", impl.IsoShort, 12},
		{"a field behind another", first(2, 11) + "134111111111111" + "xx", impl.IsoShort, 27},
	} {
		faultAt(t, r.what, r.text, r.code, r.pos)
	}
}

func TestDecodeTellsWrongLengths(t *testing.T) {
	pan := "0100" + mapOf(false, 2)
	for _, length := range append(spoilt("13"), "00", "01", "12", "20", "99", "+9", "-0", "1\x00") {
		faultAt(t, "a length with digits behind it", pan+length+strings.Repeat("1", 99), impl.IsoData, 12)
		faultAt(t, "a length alone", pan+length, impl.IsoData, 12)
	}
	more := "0100" + mapOf(false, 48)
	for _, length := range append(spoilt("003"), "201", "202", "210", "300", "999", "+12", "-00", "+00", " 12", "1_0", "0x1") {
		faultAt(t, "a length with bytes behind it", more+length+strings.Repeat("1", 250), impl.IsoData, 12)
		faultAt(t, "a length alone", more+length, impl.IsoData, 12)
	}
	faultAt(t, "a length in a later field", "0100"+mapOf(false, 11, 48)+"000001"+"201", impl.IsoData, 18)
}

func TestDecodeTellsTheFirstFault(t *testing.T) {
	for _, r := range []struct {
		what, text string
		code, pos  int
	}{
		{"type and map", "01x0" + mapOf(false, 5), impl.IsoMti, 0},
		{"type and short map", "01x0\x40", impl.IsoMti, 0},
		{"map and field", "0100" + mapOf(false, 5, 11) + "x", impl.IsoField, 4},
		{"two fields", "0100" + mapOf(false, 3, 11) + "00000x" + "00000x", impl.IsoData, 12},
		{"the second of two fields", "0100" + mapOf(false, 3, 11) + "000000" + "00000x", impl.IsoData, 18},
		{"field and short field", "0100" + mapOf(false, 3, 11) + "00000x" + "0", impl.IsoData, 12},
		{"field and tail", "0100" + mapOf(false, 3) + "00000x" + "0", impl.IsoData, 12},
		{"no fields and tail", "0100" + mapOf(false) + "0", impl.IsoTail, 12},
	} {
		faultAt(t, r.what, r.text, r.code, r.pos)
	}
}

func TestMessagesLeaveTheirArgumentsAlone(t *testing.T) {
	for _, m := range messages(&source{seed: "messages alone"}) {
		data := []byte(wire(m))
		encode := func(args [][]byte) []byte {
			given := impl.Msg{Mti: m.Mti, Fields: slices.Clone(m.Fields)}
			for i := range given.Fields {
				given.Fields[i].Data = args[i]
			}
			return impl.Encode(given)
		}
		var held [][]byte
		for _, field := range m.Fields {
			held = append(held, field.Data)
		}
		leavesAlone(t, "Encode", encode, held...)
		for i := range m.Fields {
			decode := func(args [][]byte) []byte { return impl.Decode(args[0]).Msg.Fields[i].Data }
			leavesAlone(t, "Decode", decode, data)
		}
	}
}

func TestDecodedFieldsShareNoMemory(t *testing.T) {
	for _, m := range messages(&source{seed: "no sharing"}) {
		given := []byte(wire(m))
		d := impl.Decode(given)
		for i := range d.Msg.Fields {
			held := d.Msg.Fields[i].Data
			for j := range held[:cap(held)] {
				held[:cap(held)][j] ^= 0xFF
			}
			kept := impl.Msg{Mti: m.Mti, Fields: slices.Clone(m.Fields)}
			kept.Fields[i].Data = held
			if !alike(d.Msg, kept) {
				t.Fatalf("field %d shares memory with another of %q", m.Fields[i].No, given)
			}
			d.Msg.Fields[i].Data = m.Fields[i].Data
		}
		same(t, "argument", given, []byte(wire(m)))
	}
}
