package sum

// RFC 2104 lays the key under two masks, so that the inner and the outer sum begin apart.
const (
	innerMask = 0x36
	outerMask = 0x5c
)

// keyBlock: the key with noughts behind it; one that is longer than a block is summed first, as RFC 2104 has it.
func keyBlock(key []byte) [blockSize]byte {
	var k [blockSize]byte
	if len(key) > blockSize {
		s := Of(key)
		copy(k[:], s[:])
	} else {
		copy(k[:], key)
	}
	return k
}

// masked: the block with every byte under the mask.
func masked(block [blockSize]byte, mask byte) [blockSize]byte {
	for i := range block {
		block[i] ^= mask
	}
	return block
}
