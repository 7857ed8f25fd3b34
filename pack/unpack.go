package pack

import (
	"strings"

	"nand/api"
)

// The first byte of a packed text tells its form.
const (
	plain = 0 // the bytes follow
	coded = 1 // their number, lengths of codes, and symbols follow
)

const (
	sizeBytes    = 2                       // that tell how many bytes were packed
	lengthDigits = 4                       // of a code's length
	runDigits    = 5                       // of how many lengths 0 there are behind one
	backDigits   = 12                      // of how far a copy goes back
	firstCopy    = 256                     // the symbol of the shortest copy; those below are bytes
	copyLess     = firstCopy - api.MinCopy // the symbol of a copy less its length
)

// Unpack unpacks bytes (P4).
func Unpack(text string) (string, api.Errno) {
	if len(text) == 0 {
		return "", api.ErrForm
	}
	form, rest := text[0], text[1:]
	if form == plain && len(rest) <= api.MaxFile {
		// An answer shares no memory with what was handed in.
		return strings.Clone(rest), api.OK
	}
	if form == coded {
		if data, ok := decode(rest); ok {
			return data, api.OK
		}
	}
	return "", api.ErrForm
}

// decode unpacks what follows the byte of the coded form.
func decode(text string) (string, bool) {
	if len(text) < sizeBytes {
		return "", false
	}
	size := int(text[0])<<8 | int(text[1])
	if size < 1 || size > api.MaxFile {
		return "", false
	}
	bits := &bitReader{text: text[sizeBytes:]}
	lengths, ok := readLengths(bits)
	if !ok || checkLengths(lengths) != api.OK {
		return "", false
	}
	data, ok := readData(bits, newDecoder(lengths), size)
	if !ok || !bits.ends() {
		return "", false
	}
	return string(data), true
}

// readLengths reads the lengths of all symbols' codes; false: there are too few, or more than there are symbols.
func readLengths(bits *bitReader) ([]int, bool) {
	lengths := make([]int, api.Symbols)
	for at := 0; at < len(lengths); at++ {
		length, ok := bits.take(lengthDigits)
		if !ok {
			return nil, false
		}
		lengths[at] = length
		if length > 0 {
			continue
		}
		more, ok := bits.take(runDigits)
		if !ok || at+more >= len(lengths) {
			return nil, false
		}
		at += more
	}
	return lengths, true
}

// readData reads symbols and makes of them just so many bytes.
func readData(bits *bitReader, codes *decoder, size int) ([]byte, bool) {
	data := make([]byte, 0, size)
	for len(data) < size {
		symbol, ok := codes.next(bits)
		if !ok {
			return nil, false
		}
		if symbol < firstCopy {
			data = append(data, byte(symbol))
			continue
		}
		less, ok := bits.take(backDigits)
		back, length := less+1, symbol-copyLess
		if !ok || back > len(data) || length > size-len(data) {
			return nil, false
		}
		for range length {
			data = append(data, data[len(data)-back])
		}
	}
	return data, true
}

// decoder finds symbols by their codes: the codes of one length are numbers in a row, and so are the places of their symbols.
type decoder struct {
	many    [api.MaxCode + 1]int // of each length, how many codes have it
	symbols []int                // by the lengths of their codes, then rising
}

// newDecoder is a decoder for the codes of these lengths, which checkLengths takes.
func newDecoder(lengths []int) *decoder {
	d := &decoder{}
	for digits := 1; digits <= api.MaxCode; digits++ {
		for symbol, length := range lengths {
			if length == digits {
				d.symbols = append(d.symbols, symbol)
				d.many[digits]++
			}
		}
	}
	return d
}

// next reads a code and tells its symbol; false: there is no such code, or the bits have ended in it.
func (d *decoder) next(bits *bitReader) (int, bool) {
	number := 0 // what was read
	first := 0  // the first code of this length
	place := 0  // the place of its symbol
	for digits := 1; digits <= api.MaxCode; digits++ {
		bit, ok := bits.take(1)
		if !ok {
			return 0, false
		}
		number = number<<1 | bit
		first <<= 1
		if number-first < d.many[digits] {
			return d.symbols[place+number-first], true
		}
		first += d.many[digits]
		place += d.many[digits]
	}
	return 0, false
}
