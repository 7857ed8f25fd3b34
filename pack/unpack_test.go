package pack_test

import (
	"math/rand"
	"strings"
	"testing"

	"nand/api"
	"nand/pack"
)

// Lengths of codes, as they stand in packed texts.
var (
	onlyA   = told(withLengths(map[int]int{'a': 1}))                          // a 0
	aCopy   = told(withLengths(map[int]int{'a': 1, 256: 1}))                  // a 0, a copy of three 1
	abcCopy = told(withLengths(map[int]int{'a': 2, 'b': 2, 'c': 2, 256: 2}))  // a 00, b 01, c 10, a copy of three 11
	aLong   = told(withLengths(map[int]int{'a': 1, 287: 1}))                  // a 0, a copy of 34 1
	deepest = told(withLengths(map[int]int{0: 12, 255: 12, 256: 12, 287: 1})) // a copy of 34 0, then 100000000000 on
)

// codedText: a text in the coded form: the number of bytes, and bits.
func codedText(size int, bits string) string {
	return "\x01" + string([]byte{byte(size >> 8), byte(size)}) + toBytes(bits)
}

func TestP4UnpackPlain(t *testing.T) {
	for _, data := range []string{"", "abc", "\x00", "\x01\x00\x01", strings.Repeat("\xff", 3999), strings.Repeat("x", 4000)} {
		if got, e := pack.Unpack("\x00" + data); got != data || e != api.OK {
			t.Errorf("Unpack of %d plain bytes = %d bytes, %d", len(data), len(got), e)
		}
	}
	for _, many := range []int{4001, 4002, 100000} {
		if got, e := pack.Unpack("\x00" + strings.Repeat("x", many)); got != "" || e != api.ErrForm {
			t.Errorf("Unpack of %d plain bytes = %d bytes, %d", many, len(got), e)
		}
	}
}

func TestP4UnpackByHand(t *testing.T) {
	byHand := " 0000 11111 0000 11111 0000 11111 0000 00000 0001" +
		" 0000 11111 0000 11111 0000 11111 0000 11111 0000 11101 0001 0000 11110" +
		" 0 1 000000000000"
	if got, e := pack.Unpack(codedText(4, byHand)); got != "aaaa" || e != api.OK {
		t.Errorf("the document's aaaa = %q, %d", got, e)
	}
}

func TestP4UnpackCoded(t *testing.T) {
	apart := "" // lengths 0 told one by one, and in unlike runs
	for range 97 {
		apart += " 0000 00000"
	}
	apart += " 0001 0000 00001 0000 11110" + zeros(190-33)
	for _, c := range []struct {
		what, text, want string
	}{
		{"one byte", codedText(1, onlyA+"0"), "a"},
		{"one symbol alone", codedText(3, onlyA+"000"), "aaa"},
		{"as many bytes as can be", codedText(4000, onlyA+strings.Repeat("0", 4000)), strings.Repeat("a", 4000)},
		{"a number of two bytes", codedText(256, onlyA+strings.Repeat("0", 256)), strings.Repeat("a", 256)},
		{"lengths 0 in other runs", codedText(2, apart+"00"), "aa"},
		{"a copy that does not overlap", codedText(6, abcCopy+"00 01 10 11 000000000010"), "abcabc"},
		{"a copy from the middle", codedText(7, abcCopy+"10 00 01 10 11 000000000010"), "cabcabc"},
		{"a copy that runs into itself", codedText(5, abcCopy+"00 01 11 000000000001"), "ababa"},
		{"copies of copies", codedText(9, abcCopy+"00 01 10 11 000000000001 11 000000000101"), "abcbcbabc"},
		{"the longest copy", codedText(35, aLong+"0 1 000000000000"), strings.Repeat("a", 35)},
		{"codes of 12 digits", codedText(5, deepest+"100000000000 100000000001 100000000010 000000000001"), "\x00\xff\x00\xff\x00"},
		{"the longest copy behind a long code", codedText(35, deepest+"100000000001 0 000000000000"), strings.Repeat("\xff", 35)},
		{"a copy from the very beginning", codedText(4000, abcCopy+"01 10"+strings.Repeat("00", 3995)+" 11 111110011100"), "bc" + strings.Repeat("a", 3995) + "bca"},
	} {
		if got, e := pack.Unpack(c.text); got != c.want || e != api.OK {
			t.Errorf("%s: %.60q (%d bytes), %d, want %.60q", c.what, got, len(got), e, c.want)
		}
	}
}

func TestP4UnpackRefused(t *testing.T) {
	good := codedText(6, abcCopy+"00 01 10 11 000000000010")
	for what, text := range map[string]string{
		"nothing":                           "",
		"a form that there is not":          "\x02" + good[1:],
		"the last byte as form":             "\xff",
		"no number":                         "\x01",
		"half a number":                     "\x01\x00",
		"a number alone":                    "\x01\x00\x01",
		"no bytes":                          codedText(0, onlyA),
		"no bytes, and a symbol":            codedText(0, onlyA+"0"),
		"too many bytes":                    codedText(4001, onlyA+strings.Repeat("0", 4001)),
		"the greatest number":               codedText(65535, onlyA+strings.Repeat("0", 65535)),
		"a length of 13":                    codedText(1, zeros(97)+"1101"+zeros(190)+"0"),
		"a length of 15":                    codedText(1, zeros(97)+"1111"+zeros(190)+"0"),
		"lengths 0 of more than there are":  codedText(1, zeros(97)+"0001"+zeros(160)+"0000 11110 0"),
		"lengths 0 of one more":             codedText(1, zeros(97)+"0001"+zeros(191)+"0"),
		"lengths 0 only":                    codedText(1, zeros(288)),
		"codes that don't go in":            codedText(1, zeros(97)+"0001 0001 1100"+zeros(188)+"0"),
		"fewer bits than were told":         codedText(12, onlyA+"000"),
		"a code that there is not":          codedText(1, onlyA+"1"),
		"a code of 12 digits, not there":    codedText(1, deepest+"100000000011"),
		"a copy of nothing":                 codedText(3, aCopy+"1 000000000000"),
		"a copy from one byte too far back": codedText(4, aCopy+"0 1 000000000001"),
		"a copy from ahead of all":          codedText(4000, abcCopy+"01 10"+strings.Repeat("00", 3995)+" 11 111110011101"),
		"a copy that makes one too many":    codedText(3, aCopy+"0 1 000000000000"),
		"a copy that makes two too many":    codedText(2, aCopy+"0 1 000000000000"),
		"a symbol more than was told":       codedText(3, abcCopy+"00 01 10 11 000000000010"),
		"a byte behind":                     good + "\x00",
		"more bytes behind":                 good + "abc",
		"all ones":                          strings.Repeat("\xff", 600),
		"all zeros":                         "\x01\x00\x01" + strings.Repeat("\x00", 600),
	} {
		if got, e := pack.Unpack(text); got != "" || e != api.ErrForm {
			t.Errorf("%s: %.60q, %d", what, got, e)
		}
	}
	for many := range good {
		if got, e := pack.Unpack(good[:many]); got != "" || e != api.ErrForm {
			t.Errorf("the first %d bytes: %q, %d", many, got, e)
		}
	}
}

func TestP4UnpackBitsBehind(t *testing.T) {
	for size := 1; size <= 16; size++ {
		bits := strings.ReplaceAll(onlyA, " ", "") + strings.Repeat("0", size)
		text := codedText(size, bits)
		spare := 8*(len(text)-3) - len(bits)
		if got, e := pack.Unpack(text); got != strings.Repeat("a", size) || e != api.OK {
			t.Errorf("%d bytes, %d bits 0 behind: %q, %d", size, spare, got, e)
		}
		for i := range spare {
			b := []byte(text)
			b[len(b)-1] |= 1 << i
			if got, e := pack.Unpack(string(b)); got != "" || e != api.ErrForm {
				t.Errorf("%d bytes, bit %d behind: %q, %d", size, i, got, e)
			}
		}
		if got, e := pack.Unpack(text + "\x00"); got != "" || e != api.ErrForm {
			t.Errorf("%d bytes, %d bits 0 and a byte behind: %q, %d", size, spare, got, e)
		}
	}
}

func TestP4UnpackAnyText(t *testing.T) {
	r := rand.New(rand.NewSource(4))
	good := 0
	for range 3000 {
		text := []byte(anyPacked(r))
		switch r.Intn(5) {
		case 0:
			text[r.Intn(len(text))] ^= 1 << r.Intn(8)
		case 1:
			text[2] += byte(r.Intn(5) - 2)
		case 2:
			text = append(text, make([]byte, r.Intn(2))...)[:len(text)-r.Intn(2)]
		}
		got, e := pack.Unpack(string(text))
		want, f := slowUnpack(string(text))
		if got != want || e != f {
			t.Fatalf("Unpack(%q) = %q, %d, want %q, %d", text, got, e, want, f)
		}
		if e == api.OK {
			good++
		}
	}
	if good < 1000 {
		t.Errorf("only %d texts were packed", good)
	}
}

func FuzzUnpack(f *testing.F) {
	r := rand.New(rand.NewSource(5))
	for range 50 {
		f.Add(anyPacked(r))
	}
	f.Fuzz(func(t *testing.T, text string) {
		got, e := pack.Unpack(text)
		want, w := slowUnpack(text)
		if got != want || e != w {
			t.Errorf("Unpack(%q) = %q, %d, want %q, %d", text, got, e, want, w)
		}
	})
}
