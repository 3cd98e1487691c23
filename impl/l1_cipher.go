package impl

import (
	"math/bits"
	"slices"
)

const MaxData = 4096

// The boxes S1 to S8, a line each, row 0 first: a text, for 512 numbers are
// more than a table at package level may hold.
const boxDigits = "" +
	"E4D12FB83A6C5907" + "0F74E2D1A6CB9538" + "41E8D62BFC973A50" + "FC8249175B3EA06D" +
	"F18E6B34972DC05A" + "3D47F28EC01A69B5" + "0E7BA4D158C6932F" + "D8A13F42B67C05E9" +
	"A09E63F51DC7B428" + "D709346A285ECBF1" + "D6498F30B12C5AE7" + "1AD069874FE3B52C" +
	"7DE3069A1285BC4F" + "D8B56F03472C1AE9" + "A690CB7DF13E5284" + "3F06A1D8945BC72E" +
	"2C417AB6853FD0E9" + "EB2C47D150FA3986" + "421BAD78F9C5630E" + "B8C71E2D6F09A453" +
	"C1AF92680D34E75B" + "AF427C9561DE0B38" + "9EF528C3704A1DB6" + "432C95FABE17608D" +
	"4B2EF08D3C975A61" + "D0B7491AE35C2F86" + "14BDC37EAF680592" + "6BD814A7950FE23C" +
	"D2846FB1A93E50C7" + "1FD8A374C56B0E92" + "7B419CE206ADF358" + "21E74A8DFC90356B"

const lowest28 = 1<<28 - 1

type integer interface {
	~int | ~int8 | ~int16 | ~int32 | ~int64 | ~uint | ~uint8 | ~uint16 | ~uint32 | ~uint64
}

func OddParity(key []byte) []byte {
	if len(key) > MaxData {
		return nil
	}
	odd := make([]byte, len(key))
	for i, b := range key {
		seven := b &^ 1
		odd[i] = seven | byte(bits.OnesCount8(seven)+1)&1
	}
	return odd
}

func Des(key []byte, block []byte, dec bool) []byte {
	if len(key) != 8 || len(block) != 8 {
		return nil
	}
	cipher := newDes([8]byte(key), newRound())
	turn := direction(cipher.encrypt, cipher.decrypt, dec)
	answer := turn([8]byte(block))
	return answer[:]
}

func Tdea(key []byte, block []byte, dec bool) []byte {
	if len(key) != 16 || len(block) != 8 {
		return nil
	}
	cipher := newTdea([16]byte(key))
	turn := direction(cipher.encrypt, cipher.decrypt, dec)
	answer := turn([8]byte(block))
	return answer[:]
}

func Aes(key []byte, block []byte, dec bool) []byte {
	if len(key) != 16 || len(block) != 16 {
		return nil
	}
	cipher := newAes([16]byte(key))
	turn := direction(cipher.encrypt, cipher.decrypt, dec)
	answer := turn([16]byte(block))
	return answer[:]
}

func direction[B any](encrypt, decrypt func(block B) B, dec bool) func(block B) B {
	if dec {
		return decrypt
	}
	return encrypt
}

func xor8(blocks ...[8]byte) [8]byte {
	var sum [8]byte
	for _, block := range blocks {
		for i, b := range block {
			sum[i] ^= b
		}
	}
	return sum
}

func xor16(blocks ...[16]byte) [16]byte {
	var sum [16]byte
	for _, block := range blocks {
		for i, b := range block {
			sum[i] ^= b
		}
	}
	return sum
}

func wordOf(block [8]byte) uint64 {
	var word uint64
	for _, b := range block {
		word = word<<8 | uint64(b)
	}
	return word
}

func blockOf(word uint64) [8]byte {
	var block [8]byte
	for i := range block {
		block[i] = byte(word >> (56 - 8*i))
	}
	return block
}

// takeBits counts the bits of word from 1, the highest of its width bits, as
// the document's tables do.
func takeBits[T integer](word uint64, width uint, table []T) uint64 {
	var taken uint64
	for _, number := range table {
		taken = taken<<1 | word>>(width-uint(number))&1
	}
	return taken
}

// putBits is the inverse of takeBits by a table that names every bit once.
func putBits[T integer](taken uint64, width uint, table []T) uint64 {
	var word uint64
	for i, number := range table {
		bit := taken >> (len(table) - 1 - i) & 1
		word |= bit << (width - uint(number))
	}
	return word
}

type desCipher struct {
	keys  [16]uint64
	round func(half uint32, key uint64) uint32
}

// newDes is handed its round function, so that ciphers under several keys
// share one set of merged boxes.
func newDes(key [8]byte, round func(half uint32, key uint64) uint32) desCipher {
	return desCipher{keys: desKeys(key), round: round}
}

func (c desCipher) encrypt(block [8]byte) [8]byte {
	return c.run(block, c.keys)
}

func (c desCipher) decrypt(block [8]byte) [8]byte {
	keys := c.keys
	slices.Reverse(keys[:])
	return c.run(block, keys)
}

func (c desCipher) run(block [8]byte, keys [16]uint64) [8]byte {
	table := initialTable()
	word := takeBits(wordOf(block), 64, table[:])
	left, right := uint32(word>>32), uint32(word)
	for _, key := range keys {
		left, right = right, left^c.round(right, key)
	}
	// The halves lie the other way round here: this is what lets the same
	// rounds, with their keys reversed, undo themselves.
	return blockOf(putBits(uint64(right)<<32|uint64(left), 64, table[:]))
}

func initialTable() [64]uint8 {
	return [64]uint8{
		58, 50, 42, 34, 26, 18, 10, 2, 60, 52, 44, 36, 28, 20, 12, 4,
		62, 54, 46, 38, 30, 22, 14, 6, 64, 56, 48, 40, 32, 24, 16, 8,
		57, 49, 41, 33, 25, 17, 9, 1, 59, 51, 43, 35, 27, 19, 11, 3,
		61, 53, 45, 37, 29, 21, 13, 5, 63, 55, 47, 39, 31, 23, 15, 7,
	}
}

func desKeys(key [8]byte) [16]uint64 {
	// PC1 names no bit 8, 16 .. 64: this is why the parity bits count for nothing.
	first := [56]uint8{
		57, 49, 41, 33, 25, 17, 9, 1, 58, 50, 42, 34, 26, 18,
		10, 2, 59, 51, 43, 35, 27, 19, 11, 3, 60, 52, 44, 36,
		63, 55, 47, 39, 31, 23, 15, 7, 62, 54, 46, 38, 30, 22,
		14, 6, 61, 53, 45, 37, 29, 21, 13, 5, 28, 20, 12, 4,
	}
	second := [48]uint8{
		14, 17, 11, 24, 1, 5, 3, 28, 15, 6, 21, 10,
		23, 19, 12, 4, 26, 8, 16, 7, 27, 20, 13, 2,
		41, 52, 31, 37, 47, 55, 30, 40, 51, 45, 33, 48,
		44, 49, 39, 56, 34, 53, 46, 42, 50, 36, 29, 32,
	}
	turns := [16]uint{1, 1, 2, 2, 2, 2, 2, 2, 1, 2, 2, 2, 2, 2, 2, 1}
	both := takeBits(wordOf(key), 64, first[:])
	c, d := uint32(both>>28), uint32(both&lowest28)
	var keys [16]uint64
	for i, by := range turns {
		c, d = turn28(c, by), turn28(d, by)
		keys[i] = takeBits(uint64(c)<<28|uint64(d), 56, second[:])
	}
	return keys
}

func turn28(half uint32, by uint) uint32 {
	return (half<<by | half>>(28-by)) & lowest28
}

// newRound keeps E out of any table: its k-th group is the six bits of the half
// that end at bit 4k+5, counted round the end, so one turn brings them down.
func newRound() func(half uint32, key uint64) uint32 {
	merged := mergedBoxes()
	return func(half uint32, key uint64) uint32 {
		var mixed uint32
		for k := range merged {
			group := bits.RotateLeft32(half, 4*k+5) ^ uint32(key>>(42-6*k))
			mixed |= merged[k][group&63]
		}
		return mixed
	}
}

// mergedBoxes holds for each box and group of six bits what P makes of the
// box's digit, so that a round is eight look-ups.
func mergedBoxes() [8][64]uint32 {
	var merged [8][64]uint32
	for k := range merged {
		spread := spreadDigits(k)
		for group := range merged[k] {
			row := group>>4&2 | group&1
			column := group >> 1 & 15
			merged[k][group] = spread[hexValue(boxDigits[64*k+16*row+column])]
		}
	}
	return merged
}

func spreadDigits(box int) [16]uint32 {
	table := [32]uint8{
		16, 7, 20, 21, 29, 12, 28, 17, 1, 15, 23, 26, 5, 18, 31, 10,
		2, 8, 24, 14, 32, 27, 3, 9, 19, 13, 30, 6, 22, 11, 4, 25,
	}
	var spread [16]uint32
	for digit := range spread {
		spread[digit] = uint32(takeBits(uint64(digit)<<(28-4*box), 32, table[:]))
	}
	return spread
}

func hexValue(digit byte) byte {
	if digit >= 'A' {
		return digit - 'A' + 10
	}
	return digit - '0'
}

type tdeaCipher struct {
	first  desCipher
	second desCipher
}

func newTdea(key [16]byte) tdeaCipher {
	round := newRound()
	return tdeaCipher{
		first:  newDes([8]byte(key[:8]), round),
		second: newDes([8]byte(key[8:]), round),
	}
}

func (c tdeaCipher) encrypt(block [8]byte) [8]byte {
	return c.first.encrypt(c.second.decrypt(c.first.encrypt(block)))
}

func (c tdeaCipher) decrypt(block [8]byte) [8]byte {
	return c.first.decrypt(c.second.encrypt(c.first.decrypt(block)))
}

type aesCipher struct {
	keys  [11][16]byte
	sub   func(state [16]byte) [16]byte
	unsub func(state [16]byte) [16]byte
	mix   func(state [16]byte) [16]byte
	unmix func(state [16]byte) [16]byte
}

func newAes(key [16]byte) aesCipher {
	sub := subTable()
	return aesCipher{
		keys:  aesKeys(key, sub),
		sub:   byteChanger(sub),
		unsub: byteChanger(inverseOf(sub)),
		mix:   columnMixer(mixTable(sub)),
		unmix: columnMixer(unmixTable()),
	}
}

// encrypt turns the rows ahead of sub, not behind it: the two may change
// places, and so sub goes into the merged table of mix.
func (c aesCipher) encrypt(block [16]byte) [16]byte {
	state := xor16(block, c.keys[0])
	for r := 1; r < 10; r++ {
		state = xor16(c.mix(turnRows(state, 1)), c.keys[r])
	}
	return xor16(c.sub(turnRows(state, 1)), c.keys[10])
}

func (c aesCipher) decrypt(block [16]byte) [16]byte {
	state := c.unsub(turnRows(xor16(block, c.keys[10]), 3))
	for r := 9; r > 0; r-- {
		state = c.unsub(turnRows(c.unmix(xor16(state, c.keys[r])), 3))
	}
	return xor16(state, c.keys[0])
}

// turnRows turns row k left by k times so many columns; by three is back by
// one, for there are four.
func turnRows(state [16]byte, by int) [16]byte {
	var turned [16]byte
	for i := range turned {
		turned[i] = state[(i+4*by*(i%4))%16]
	}
	return turned
}

func aesKeys(key [16]byte, sub [256]byte) [11][16]byte {
	var keys [11][16]byte
	keys[0] = key
	power := byte(1)
	for r := 1; r < len(keys); r++ {
		last := keys[r-1]
		word := [4]byte{sub[last[13]] ^ power, sub[last[14]], sub[last[15]], sub[last[12]]}
		for i, b := range last {
			word[i%4] ^= b
			keys[r][i] = word[i%4]
		}
		power = timesX(power)
	}
	return keys
}

// timesX takes x^8 as x^4 + x^3 + x + 1, which is hex 1B.
func timesX(b byte) byte {
	return b<<1 ^ (b>>7)*0x1B
}

// subTable takes inverses from the powers of x + 1, which run through every
// byte but 0: the inverse of the i-th is the (255-i)-th.
func subTable() [256]byte {
	var powers [256]byte
	powers[0] = 1
	for i := 1; i < len(powers); i++ {
		powers[i] = powers[i-1] ^ timesX(powers[i-1])
	}
	var sub [256]byte
	sub[0] = subOf(0)
	for i, power := range powers {
		sub[power] = subOf(powers[255-i])
	}
	return sub
}

func subOf(inverse byte) byte {
	sum := inverse ^ 0x63
	for by := 1; by <= 4; by++ {
		sum ^= bits.RotateLeft8(inverse, by)
	}
	return sum
}

func inverseOf(table [256]byte) [256]byte {
	var inverse [256]byte
	for i, b := range table {
		inverse[b] = byte(i)
	}
	return inverse
}

func byteChanger(table [256]byte) func(state [16]byte) [16]byte {
	return func(state [16]byte) [16]byte {
		var changed [16]byte
		for i, b := range state {
			changed[i] = table[b]
		}
		return changed
	}
}

// mixTable holds for each byte what it adds, behind sub, to a mixed column
// from row 0; from the other rows it is the same, turned down by as many.
func mixTable(sub [256]byte) [256]uint32 {
	var table [256]uint32
	for i, one := range sub {
		two := timesX(one)
		table[i] = columnOf(two, one, one, two^one)
	}
	return table
}

// unmixTable has the factors 14, 9, 13 and 11, which undo 2, 1, 1 and 3.
func unmixTable() [256]uint32 {
	var table [256]uint32
	for i := range table {
		one := byte(i)
		two := timesX(one)
		four := timesX(two)
		eight := timesX(four)
		table[i] = columnOf(eight^four^two, eight^one, eight^four^one, eight^two^one)
	}
	return table
}

func columnOf(a, b, c, d byte) uint32 {
	return uint32(a)<<24 | uint32(b)<<16 | uint32(c)<<8 | uint32(d)
}

func columnMixer(table [256]uint32) func(state [16]byte) [16]byte {
	return func(state [16]byte) [16]byte {
		var mixed [16]byte
		for at := 0; at < len(state); at += 4 {
			var column uint32
			for row := range 4 {
				column ^= bits.RotateLeft32(table[state[at+row]], -8*row)
			}
			for row := range 4 {
				mixed[at+row] = byte(column >> (24 - 8*row))
			}
		}
		return mixed
	}
}
