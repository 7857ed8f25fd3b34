// Package pack: bytes, packed: see DOC.md.
package pack

import "nand/api"

// Pack packs bytes (P5).
func Pack(data string) (string, api.Errno) {
	if len(data) > api.MaxFile {
		return "", api.ErrLong
	}
	if len(data) > 0 {
		if text := encode(data); len(text) <= len(data) {
			return text, api.OK
		}
	}
	return string([]byte{plain}) + data, api.OK
}

// encode packs bytes, of which there is at least one, in the coded form.
func encode(data string) string {
	steps := split(data)
	lengths := codeLengths(countSymbols(steps))
	codes := assign(lengths)
	bits := &bitWriter{bytes: []byte{coded, byte(len(data) >> 8), byte(len(data))}}
	writeLengths(bits, lengths)
	for _, s := range steps {
		bits.put(codes[s.symbol].number, codes[s.symbol].digits)
		if s.symbol >= firstCopy {
			bits.put(s.back-1, backDigits)
		}
	}
	return string(bits.bytes)
}

// countSymbols tells of each symbol how often it comes.
func countSymbols(steps []step) []int {
	counts := make([]int, api.Symbols)
	for _, s := range steps {
		counts[s.symbol]++
	}
	return counts
}

// writeLengths writes the lengths of all symbols' codes.
func writeLengths(bits *bitWriter, lengths []int) {
	for at := 0; at < len(lengths); at++ {
		bits.put(lengths[at], lengthDigits)
		if lengths[at] > 0 {
			continue
		}
		more := 0
		for more < 1<<runDigits-1 && at+more+1 < len(lengths) && lengths[at+more+1] == 0 {
			more++
		}
		bits.put(more, runDigits)
		at += more
	}
}
