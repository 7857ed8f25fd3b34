package pack

// bitWriter writes bits into bytes, each byte's highest first.
type bitWriter struct {
	bytes []byte
	free  int // bits of the last byte that are not written yet
}

// put writes the lowest digits of a number, the highest of them first.
func (w *bitWriter) put(number int, digits int) {
	for i := digits - 1; i >= 0; i-- {
		if w.free == 0 {
			w.bytes = append(w.bytes, 0)
			w.free = 8
		}
		w.free--
		w.bytes[len(w.bytes)-1] |= byte(number>>i&1) << w.free
	}
}

// bitReader reads bits from bytes, each byte's highest first.
type bitReader struct {
	text string
	at   int // bits that have been read
}

// take reads a number of so many digits; false: there are not so many.
func (r *bitReader) take(digits int) (int, bool) {
	if digits > r.left() {
		return 0, false
	}
	number := 0
	for range digits {
		bit := r.text[r.at/8] >> (7 - r.at%8) & 1
		number = number<<1 | int(bit)
		r.at++
	}
	return number, true
}

// left is how many bits have not been read.
func (r *bitReader) left() int { return 8*len(r.text) - r.at }

// ends tells whether there is nothing more but bits 0 up to the end of a byte.
func (r *bitReader) ends() bool {
	if r.left() >= 8 {
		return false
	}
	rest, _ := r.take(r.left())
	return rest == 0
}
