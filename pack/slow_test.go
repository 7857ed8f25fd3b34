package pack_test

// The document's words once more, as plainly as can be, for the tests to hold the program against.

import (
	"math/rand"
	"slices"
	"strconv"
	"strings"

	"nand/api"
)

// slowCodes: P3, digit by digit.
func slowCodes(lengths []int) ([]string, api.Errno) {
	if len(lengths) > 288 {
		return nil, api.ErrArg
	}
	sum := 0
	for _, l := range lengths {
		if l < 0 || l > 12 {
			return nil, api.ErrArg
		}
		if l > 0 {
			sum += 4096 >> l
		}
	}
	if sum > 4096 {
		return nil, api.ErrForm
	}
	codes := make([]string, len(lengths))
	ahead := ""
	for l := 1; l <= 12; l++ {
		for symbol := range lengths {
			if lengths[symbol] != l {
				continue
			}
			if ahead == "" {
				ahead = strings.Repeat("0", l)
			} else {
				ahead = oneMore(ahead) + strings.Repeat("0", l-len(ahead))
			}
			codes[symbol] = ahead
		}
	}
	return codes, api.OK
}

// oneMore: the next number of as many digits.
func oneMore(digits string) string {
	at := strings.LastIndex(digits, "0")
	return digits[:at] + "1" + strings.Repeat("0", len(digits)-at-1)
}

// digits: a number in so many binary digits.
func digits(number int, many int) string {
	s := strconv.FormatInt(int64(number), 2)
	return strings.Repeat("0", max(0, many-len(s))) + s
}

// toBytes: binary digits (blanks don't count) in bytes, with digits 0 up to the end of the last.
func toBytes(s string) string {
	s = strings.ReplaceAll(s, " ", "")
	for len(s)%8 != 0 {
		s += "0"
	}
	var out []byte
	for ; s != ""; s = s[8:] {
		n, _ := strconv.ParseUint(s[:8], 2, 8)
		out = append(out, byte(n))
	}
	return string(out)
}

// toDigits: the binary digits of bytes.
func toDigits(s string) string {
	var out strings.Builder
	for i := range len(s) {
		out.WriteString(digits(int(s[i]), 8))
	}
	return out.String()
}

// zeros: so many lengths 0, in as few runs as can be.
func zeros(many int) string {
	s := ""
	for ; many > 0; many -= min(many, 32) {
		s += " 0000 " + digits(min(many, 32)-1, 5)
	}
	return s
}

// told: all lengths, as they stand in a packed text.
func told(lengths []int) string {
	s := ""
	for at := 0; at < len(lengths); {
		if lengths[at] > 0 {
			s += " " + digits(lengths[at], 4)
			at++
			continue
		}
		end := at
		for end < len(lengths) && lengths[end] == 0 {
			end++
		}
		s += zeros(end - at)
		at = end
	}
	return s
}

// withLengths: 288 lengths, all 0 but those of some symbols.
func withLengths(some map[int]int) []int {
	l := make([]int, 288)
	for symbol, length := range some {
		l[symbol] = length
	}
	return l
}

// slowUnpack: P4, on texts of digits.
func slowUnpack(text string) (string, api.Errno) {
	if text == "" || text[0] > 1 {
		return "", api.ErrForm
	}
	if text[0] == 0 {
		if len(text) > 4001 {
			return "", api.ErrForm
		}
		return text[1:], api.OK
	}
	if len(text) < 3 {
		return "", api.ErrForm
	}
	size := int(text[1])*256 + int(text[2])
	if size < 1 || size > 4000 {
		return "", api.ErrForm
	}
	bits := toDigits(text[3:])
	lengths, bits, ok := slowLengths(bits)
	if !ok {
		return "", api.ErrForm
	}
	codes, e := slowCodes(lengths)
	if e != api.OK {
		return "", api.ErrForm
	}
	out, rest, ok := slowSymbols(bits, codes, size)
	if !ok || len(out) != size || len(rest) > 7 || strings.Contains(rest, "1") {
		return "", api.ErrForm
	}
	return out, api.OK
}

// cutOff: a number of so many digits from the front, and the rest.
func cutOff(bits string, many int) (int, string, bool) {
	if len(bits) < many {
		return 0, "", false
	}
	n, _ := strconv.ParseInt(bits[:many], 2, 64)
	return int(n), bits[many:], true
}

func slowLengths(bits string) ([]int, string, bool) {
	var lengths []int
	for len(lengths) < 288 {
		var n int
		var ok bool
		if n, bits, ok = cutOff(bits, 4); !ok {
			return nil, "", false
		}
		lengths = append(lengths, n)
		if n == 0 {
			if n, bits, ok = cutOff(bits, 5); !ok {
				return nil, "", false
			}
			lengths = append(lengths, make([]int, n)...)
		}
	}
	return lengths, bits, len(lengths) == 288
}

func slowSymbols(bits string, codes []string, size int) (string, string, bool) {
	var out []byte
	for len(out) < size {
		symbol := slices.IndexFunc(codes, func(c string) bool { return c != "" && strings.HasPrefix(bits, c) })
		if symbol < 0 {
			return "", "", false
		}
		bits = bits[len(codes[symbol]):]
		if symbol < 256 {
			out = append(out, byte(symbol))
			continue
		}
		back, rest, ok := cutOff(bits, 12)
		bits = rest
		if !ok || back+1 > len(out) {
			return "", "", false
		}
		for range symbol - 253 {
			out = append(out, out[len(out)-back-1])
		}
	}
	return string(out), bits, true
}

// anyLengths: 288 lengths whose codes go in, most of them 0, and the symbols of the others.
func anyLengths(r *rand.Rand) (lengths []int, used []int) {
	lengths = make([]int, 288)
	room := 4096
	for range 1 + r.Intn(40) {
		symbol, l := r.Intn(288), 1+r.Intn(12)
		if lengths[symbol] == 0 && 4096>>l <= room {
			lengths[symbol] = l
			room -= 4096 >> l
			used = append(used, symbol)
		}
	}
	return lengths, used
}

// anyPacked: a text in the coded form that is packed, or nearly so: the lengths of any codes, and any symbols.
func anyPacked(r *rand.Rand) string {
	lengths, used := anyLengths(r)
	codes, _ := slowCodes(lengths)
	s, size := told(lengths), 0
	for range 1 + r.Intn(60) {
		symbol := used[r.Intn(len(used))]
		if symbol > 255 && size == 0 && r.Intn(10) > 0 {
			continue
		}
		s += codes[symbol]
		if symbol < 256 {
			size++
			continue
		}
		s += digits(r.Intn(size+1), 12)
		size += symbol - 253
	}
	return "\x01" + string([]byte{byte(size >> 8), byte(size)}) + toBytes(s)
}
