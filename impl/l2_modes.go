package impl

func Cbc(key []byte, iv []byte, data []byte, dec bool) []byte {
	if len(key) != 16 || len(iv) != 8 || len(data)%8 != 0 || len(data) > MaxData {
		return nil
	}
	cipher := newTdea([16]byte(key))
	turn := direction(cipher.encrypt, cipher.decrypt, dec)
	answer := make([]byte, 0, len(data))
	for _, block := range chain(turn, xor8, [8]byte(iv), cut(data, 8, filled8), dec) {
		answer = append(answer, block[:]...)
	}
	return answer
}

func RetailMac(key []byte, data []byte) []byte {
	if len(key) != 16 || len(data) > MaxData {
		return nil
	}
	cipher := newTdea([16]byte(key))
	blocks := atLeastOne(cut(data, 8, filled8))
	chained := chain(cipher.first.encrypt, xor8, [8]byte{}, blocks, false)
	h := chained[len(chained)-1]
	mac := cipher.first.encrypt(cipher.second.decrypt(h))
	return mac[:]
}

func Cmac(key []byte, data []byte) []byte {
	if len(key) != 16 || len(data) > MaxData {
		return nil
	}
	cipher := newAes([16]byte(key))
	blocks := cmacBlocks(data, doubled(cipher.encrypt([16]byte{})))
	chained := chain(cipher.encrypt, xor16, [16]byte{}, blocks, false)
	mac := chained[len(chained)-1]
	return mac[:]
}

func CheckValue(key []byte) []byte {
	if len(key) != 16 {
		return nil
	}
	zeros := newTdea([16]byte(key)).encrypt([8]byte{})
	return append([]byte{}, zeros[:3]...)
}

// chain serves both block lengths and both directions: it is handed the block
// function and the XOR that go with them, and before is always the block
// before in its encrypted form.
func chain[B any](turn func(block B) B, xor func(blocks ...B) B, start B, blocks []B, dec bool) []B {
	chained := make([]B, 0, len(blocks))
	before := start
	for _, block := range blocks {
		if dec {
			chained = append(chained, xor(turn(block), before))
			before = block
		} else {
			before = turn(xor(block, before))
			chained = append(chained, before)
		}
	}
	return chained
}

func cut[B any](data []byte, size int, filled func(piece []byte) B) []B {
	var blocks []B
	for at := 0; at < len(data); at += size {
		blocks = append(blocks, filled(data[at:min(at+size, len(data))]))
	}
	return blocks
}

func filled8(piece []byte) [8]byte {
	var block [8]byte
	copy(block[:], piece)
	return block
}

func filled16(piece []byte) [16]byte {
	var block [16]byte
	copy(block[:], piece)
	return block
}

// atLeastOne is for the MACs, which take empty data as one block to fill up.
func atLeastOne[B any](blocks []B) []B {
	if len(blocks) == 0 {
		return make([]B, 1)
	}
	return blocks
}

func cmacBlocks(data []byte, whole [16]byte) [][16]byte {
	blocks := atLeastOne(cut(data, 16, filled16))
	last := len(blocks) - 1
	rest := len(data) % 16
	if rest == 0 && len(data) > 0 {
		blocks[last] = xor16(blocks[last], whole)
		return blocks
	}
	blocks[last][rest] = 0x80
	blocks[last] = xor16(blocks[last], doubled(whole))
	return blocks
}

func doubled(v [16]byte) [16]byte {
	var twice [16]byte
	var lost byte
	for i := len(v) - 1; i >= 0; i-- {
		twice[i] = v[i]<<1 | lost
		lost = v[i] >> 7
	}
	twice[15] ^= lost * 0x87
	return twice
}
