package tests

import (
	"bytes"
	"encoding/hex"
	"math"
	"regexp"
	"strconv"
	"strings"
	"testing"

	"loop.example/s01728/impl"
)

// digits gives n decimal digits of chance.
func digits(chance *source, n int) string {
	var out strings.Builder
	for _, b := range chance.take(n) {
		out.WriteByte('0' + b%10)
	}
	return out.String()
}

func account(t *testing.T, pan string) []byte {
	t.Helper()
	return fromHex(t, "0000"+pan[len(pan)-13:len(pan)-1])
}

// Promise 7.
func TestReadPinOfMakePin(t *testing.T) {
	chance := &source{seed: "pin"}
	for length := 4; length <= 12; length++ {
		for account := 13; account <= 19; account++ {
			pin, pan := digits(chance, length), digits(chance, account)
			for _, format := range []int{0, 3} {
				made := impl.MakePin(format, pin, pan, chance.take(14-length))
				want := 0
				if format == 3 {
					want = 14 - length
				}
				if made.Code != impl.PinOK || len(made.Block) != 8 || made.Used != want {
					t.Fatalf("format %d, PIN %s, PAN %s: %v", format, pin, pan, made)
				}
				if read := impl.ReadPin(format, made.Block, pan); read.Code != impl.PinOK || read.Pin != pin {
					t.Errorf("format %d, PIN %s, PAN %s is read as %v", format, pin, pan, read)
				}
			}
		}
	}
	for _, digit := range "0123456789" {
		pin := strings.Repeat(string(digit), 4)
		made := impl.MakePin(0, pin, "4999999999999999", nil)
		if read := impl.ReadPin(0, made.Block, "4999999999999999"); read.Pin != pin {
			t.Errorf("PIN %s is read as %v", pin, read)
		}
	}
}

// Promise 7: how many draws are taken.
func TestMakePinTakesAsManyDrawsAsThereAreDigitsLeft(t *testing.T) {
	chance := &source{seed: "draws"}
	for length := 4; length <= 12; length++ {
		pin, pan := digits(chance, length), digits(chance, 16)
		need := 14 - length
		draws := chance.take(need + 20)
		just := impl.MakePin(3, pin, pan, draws[:need])
		if just.Code != impl.PinOK || just.Used != need {
			t.Fatalf("just enough draws for %d digits: %v", length, just)
		}
		for more := need; more <= len(draws); more++ {
			made := impl.MakePin(3, pin, pan, draws[:more])
			same(t, "more draws than are taken", made.Block, just.Block)
			if made.Used != need {
				t.Errorf("%d draws are used of %d, not %d", made.Used, more, need)
			}
		}
		for fewer := range need {
			badPin(t, "too few draws", impl.MakePin(3, pin, pan, draws[:fewer]), impl.PinDraws)
		}
		if made := impl.MakePin(0, pin, pan, nil); made.Code != impl.PinOK || made.Used != 0 {
			t.Errorf("format 0 without draws: %v", made)
		}
		same(t, "format 0 with draws", impl.MakePin(0, pin, pan, draws).Block, impl.MakePin(0, pin, pan, nil).Block)
	}
}

func TestMakePinTakesItsDrawsInOrder(t *testing.T) {
	chance := &source{seed: "in order"}
	for length := 4; length <= 12; length++ {
		for first := range 256 {
			pin, pan := digits(chance, length), digits(chance, 13+first%7)
			text := "3" + strings.ToUpper(strconv.FormatInt(int64(length), 16)) + pin
			draws := chance.take(14 - length)
			draws[0] = byte(first)
			for _, draw := range draws {
				text += string("ABCDEF"[draw%6])
			}
			same(t, text, impl.MakePin(3, pin, pan, draws).Block, xorOf(fromHex(t, text), account(t, pan)))
		}
	}
}

func TestMakePinAnswersByHand(t *testing.T) {
	for _, r := range []struct{ pin, pan, want string }{
		{"1234", "4000001234562", "041274ffffedcba9"},
		{"1234", "43219876543210987", "0412ac89abcdef67"},
		{"123456789012", "1111111111111111111", "0c122547698103ee"},
		{"0000", "0000000000000", "040000ffffffffff"},
		{"9999", "9999999999999999", "0499006666666666"},
	} {
		same(t, r.pin+" for "+r.pan, impl.MakePin(0, r.pin, r.pan, nil).Block, fromHex(t, r.want))
	}
}

func badPin(t *testing.T, what string, p impl.PinBlock, code int) {
	t.Helper()
	if p.Code != code || len(p.Block) != 0 || p.Used != 0 {
		t.Errorf("%s: %v, not code %d alone", what, p, code)
	}
}

func unread(t *testing.T, what string, p impl.PinText) {
	t.Helper()
	if p.Code != impl.PinBad || p.Pin != "" {
		t.Errorf("%s: %v, not PinBad alone", what, p)
	}
}

func otherFormats() []int {
	return []int{math.MinInt, -3, -1, 1, 2, 4, 15, 16, 19, 256, 259, math.MaxInt}
}

// noDigits are what stands beside the digits, and what other scripts call one.
func noDigits() []string {
	return []string{"/", ":", "A", "F", "a", " ", "-", "+", "\x00", "\xB1", "\xFF", "١", "１", "²"}
}

func spoilt(text string) []string {
	var out []string
	for at := range text {
		for _, no := range noDigits() {
			if at+len(no) <= len(text) {
				out = append(out, text[:at]+no+text[at+len(no):])
			}
		}
	}
	return out
}

func TestMakePinRefuses(t *testing.T) {
	draws := make([]byte, 20)
	for _, format := range otherFormats() {
		badPin(t, "another format", impl.MakePin(format, "1234", "4111111111111111", draws), impl.PinBad)
	}
	for _, format := range []int{0, 3} {
		pins := append(spoilt("1234"), spoilt("123456789012")...)
		for _, pin := range append(pins, "", "1", "123", "1234567890123", strings.Repeat("1", 1000), "٠١٢٣") {
			badPin(t, "PIN "+strconv.Quote(pin), impl.MakePin(format, pin, "4111111111111111", draws), impl.PinBad)
			badPin(t, "and no draws", impl.MakePin(format, pin, "4111111111111111", nil), impl.PinBad)
		}
		for _, pan := range otherPans() {
			badPin(t, "PAN "+strconv.Quote(pan), impl.MakePin(format, "1234", pan, draws), impl.PinBad)
			badPin(t, "and no draws", impl.MakePin(format, "1234", pan, nil), impl.PinBad)
		}
	}
}

func otherPans() []string {
	pans := append(spoilt("4111111111111"), spoilt("4111111111111111111")...)
	return append(pans, "", "1", "411111111111", "41111111111111111111", strings.Repeat("1", 1000))
}

func TestReadPinRefuses(t *testing.T) {
	pan := "4111111111111111"
	for _, format := range []int{0, 3} {
		block := impl.MakePin(format, "1234", pan, make([]byte, 10)).Block
		for _, other := range append(otherFormats(), 3-format) {
			unread(t, "another format", impl.ReadPin(other, block, pan))
		}
		for length := range block {
			unread(t, "a shorter block", impl.ReadPin(format, block[:length], pan))
		}
		unread(t, "a longer block", impl.ReadPin(format, append(bytes.Clone(block), 0), pan))
		unread(t, "nil", impl.ReadPin(format, nil, pan))
		for _, other := range otherPans() {
			unread(t, "PAN "+strconv.Quote(other), impl.ReadPin(format, block, other))
		}
	}
	for format := range 16 {
		clear := fromHex(t, strconv.FormatInt(int64(format), 16)+"41234ffffffffff")
		if format != 0 && format != 3 {
			unread(t, "a block that has the other format's digit", impl.ReadPin(format, xorOf(clear, account(t, pan)), pan))
		}
	}
	unread(t, "nothing", impl.ReadPin(0, nil, ""))
}

// clearPin is the PIN of a clear block, written as hex, by the document's
// words; ok tells whether it is one.
func clearPin(format int, text string) (pin string, ok bool) {
	for length := 4; length <= 12; length++ {
		fill := "f"
		if format == 3 {
			fill = "[a-f]"
		}
		shape := strconv.Itoa(format) + strconv.FormatInt(int64(length), 16) +
			"([0-9]{" + strconv.Itoa(length) + "})" + fill + "{" + strconv.Itoa(14-length) + "}"
		if found := regexp.MustCompile("^" + shape + "$").FindStringSubmatch(text); found != nil {
			return found[1], true
		}
	}
	return "", false
}

func checkRead(t *testing.T, format int, clear []byte, pan string) {
	t.Helper()
	text := hex.EncodeToString(clear)
	read := impl.ReadPin(format, xorOf(clear, account(t, pan)), pan)
	pin, ok := clearPin(format, text)
	if !ok {
		unread(t, text, read)
	} else if read.Code != impl.PinOK || read.Pin != pin {
		t.Errorf("%s is read as %v, not %s", text, read, pin)
	}
}

// Promise 7: every value at every digit's place of a clear block.
func TestReadPinTakesClearBlocksAlone(t *testing.T) {
	chance := &source{seed: "clear"}
	for _, format := range []int{0, 3} {
		for length := 4; length <= 12; length++ {
			pan := digits(chance, 13+length%7)
			made := impl.MakePin(format, digits(chance, length), pan, chance.take(14)).Block
			whole := xorOf(made, account(t, pan))
			for at := range 16 {
				for value := range 16 {
					clear := bytes.Clone(whole)
					shift := 4 * (1 - at%2)
					clear[at/2] = clear[at/2]&^(15<<shift) | byte(value<<shift)
					checkRead(t, format, clear, pan)
				}
			}
		}
		for _, clear := range edges(8) {
			checkRead(t, format, clear, "4999999999999999")
		}
	}
}

func TestReadPinOfLengthsThatAreNone(t *testing.T) {
	for length := range 16 {
		for _, format := range []int{0, 3} {
			text := strconv.Itoa(format) + strconv.FormatInt(int64(length), 16)
			text += strings.Repeat("1", min(length, 14)) + strings.Repeat("f", 14-min(length, 14))
			checkRead(t, format, fromHex(t, text), "4111111111111111")
		}
	}
}

func TestAccountFieldIsTwelveDigitsAheadOfTheLast(t *testing.T) {
	pan := "1234567890123456789"
	base := impl.MakePin(0, "1234", pan, nil).Block
	for at := range pan {
		other := pan[:at] + string('0'+('9'-pan[at])) + pan[at+1:]
		if other == pan {
			continue
		}
		alike := bytes.Equal(impl.MakePin(0, "1234", other, nil).Block, base)
		if alike != (at < 6 || at == 18) {
			t.Errorf("digit %d of the PAN from the left: alike is %t", at, alike)
		}
	}
}

func TestPinsLeaveTheirArgumentsAlone(t *testing.T) {
	chance := &source{seed: "pins alone"}
	for _, format := range []int{0, 3} {
		made := func(args [][]byte) []byte { return impl.MakePin(format, "1234", "4111111111111111", args[0]).Block }
		leavesAlone(t, "MakePin", made, chance.take(10))
		read := func(args [][]byte) []byte {
			return []byte(impl.ReadPin(format, args[0], "4111111111111111").Pin)
		}
		leavesAlone(t, "ReadPin", read, impl.MakePin(format, "1234", "4111111111111111", chance.take(10)).Block)
	}
}
