package store

import (
	"nand/chip"
)

// A page is the label of its record (how many blocks were bad: 1 byte; the number: 4), which of the record's pages it is and how many there are (2 bytes each), bytes of the record (with bytes 0 behind the last), and a sum of all these (4). Numbers have their higher bytes first.
const (
	headBytes = 9
	sumBytes  = 4
	textBytes = chip.Size - headBytes - sumBytes
)

// page is what a page says.
type page struct {
	record label
	at     int
	of     int
	text   string
}

// bytes is the page as it is programmed.
func (p page) bytes() string {
	b := make([]byte, 0, chip.Size)
	b = addNumber(b, 1, uint32(p.record.bad))
	b = addNumber(b, 4, p.record.number)
	b = addNumber(b, 2, uint32(p.at))
	b = addNumber(b, 2, uint32(p.of))
	b = append(b, p.text...)
	b = append(b, make([]byte, chip.Size-sumBytes-len(b))...)
	return string(addNumber(b, sumBytes, sum(string(b))))
}

// readPage is what a page on a chip says; false, if it says nothing: it is erased, or was cut short, or something else is there.
func readPage(s string) (page, bool) {
	end := chip.Size - sumBytes
	if len(s) != chip.Size || number(s[end:]) != sum(s[:end]) {
		return page{}, false
	}
	record := label{int(s[0]), number(s[1:5])}
	p := page{record, int(number(s[5:7])), int(number(s[7:9])), s[headBytes:end]}
	return p, p.at < p.of
}

// sum is a sum of bytes (FNV-1a), with one bit left out: so its last byte is never 0xff, as the last byte of every page is that was not programmed to its end. Such a page never says anything, whatever it was to be.
func sum(s string) uint32 {
	n := uint32(2166136261)
	for _, b := range []byte(s) {
		n = (n ^ uint32(b)) * 16777619
	}
	return n &^ 0x80
}

// addNumber puts a number of so many bytes behind others.
func addNumber(b []byte, many int, n uint32) []byte {
	for i := many - 1; i >= 0; i-- {
		b = append(b, byte(n>>(8*i)))
	}
	return b
}

// number is the number that up to four bytes are.
func number(s string) uint32 {
	n := uint32(0)
	for _, b := range []byte(s) {
		n = n<<8 | uint32(b)
	}
	return n
}
