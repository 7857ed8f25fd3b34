package pack_test

import (
	"math/rand"
	"strings"
	"testing"

	"nand/api"
	"nand/pack"
)

// packs packs data, which may be, and holds it against P5: how many bytes are these?
func packs(t *testing.T, data string) int {
	t.Helper()
	text, e := pack.Pack(data)
	if e != api.OK {
		t.Fatalf("Pack(%.60q) of %d bytes: %d", data, len(data), e)
	}
	if len(text) > len(data)+1 {
		t.Errorf("Pack(%.60q) of %d bytes has %d", data, len(data), len(text))
	}
	if got, f := pack.Unpack(text); got != data || f != api.OK {
		t.Fatalf("Pack(%.60q) of %d bytes is unpacked %.60q, %d", data, len(data), got, f)
	}
	return len(text)
}

func TestP5PackOrdinary(t *testing.T) {
	for _, data := range []string{
		"", "a", "ab", "aaa", "aaaa", "abcabc", "\x00", "\xff\x00\xff",
		"what was made sure of is there, and what was changed since is there up to some change, each of them whole or not at all",
		strings.Repeat("the tree, and the tree; ", 166),
	} {
		packs(t, data)
	}
}

func TestP5PackIsReadByTheDocument(t *testing.T) {
	r := rand.New(rand.NewSource(6))
	for _, many := range []int{0, 1, 5, 300, 4000} {
		data := anyData(r, many)
		text, _ := pack.Pack(data)
		if got, e := slowUnpack(text); got != data || e != api.OK {
			t.Errorf("of %d bytes: %.60q, %d", many, got, e)
		}
	}
}

func TestP5PackTooLong(t *testing.T) {
	packs(t, strings.Repeat("a", 4000))
	packs(t, anyData(rand.New(rand.NewSource(7)), 4000))
	for _, many := range []int{4001, 4002, 70000} {
		if got, e := pack.Pack(strings.Repeat("a", many)); got != "" || e != api.ErrLong {
			t.Errorf("Pack of %d bytes = %d bytes, %d", many, len(got), e)
		}
	}
}

func TestP5PackTheSameByte(t *testing.T) {
	holds := func(c byte, many int) {
		t.Helper()
		if got := packs(t, strings.Repeat(string([]byte{c}), many)); got > 40+many/16 {
			t.Errorf("%d times %d has %d bytes", many, c, got)
		}
	}
	for many := range 4001 {
		holds('a', many)
	}
	for c := range 256 {
		for _, many := range []int{0, 1, 2, 37, 41, 42, 43, 47, 48, 64, 1023, 3999, 4000} {
			holds(byte(c), many)
		}
	}
}

// anyData: bytes, from few or many, some of them as ones ahead of them.
func anyData(r *rand.Rand, many int) string {
	data := make([]byte, many)
	few, again := 1+r.Intn(256), r.Intn(3)
	for i := range data {
		data[i] = byte(r.Intn(few))
		if back := 1 + r.Intn(100); back <= i && r.Intn(3) < again {
			data[i] = data[i-back]
		}
	}
	return string(data)
}

func TestP5PackAnyData(t *testing.T) {
	r := rand.New(rand.NewSource(8))
	for range 500 {
		packs(t, anyData(r, r.Intn(4001)))
		packs(t, anyData(r, r.Intn(60)))
	}
}

// Each byte as often as the two ahead of it together: codes that would be too long.
func TestP5PackVeryUnlikeNumbers(t *testing.T) {
	r := rand.New(rand.NewSource(9))
	var data []byte
	last, now := 1, 1
	for c := 0; len(data)+now <= 4000; c++ {
		for range now {
			data = append(data, byte(c))
		}
		last, now = now, last+now
	}
	packs(t, string(data))
	for range 20 {
		r.Shuffle(len(data), func(i, j int) { data[i], data[j] = data[j], data[i] })
		packs(t, string(data))
	}
}

// No three bytes come twice, and all bytes come alike: there is nothing to gain.
func TestP5PackNothingToGain(t *testing.T) {
	for _, many := range []int{1, 2, 255, 256, 257, 1000, 4000} {
		data := make([]byte, many)
		for i := range data {
			data[i] = byte(i*(1+2*(i/256)) + i/256)
		}
		packs(t, string(data))
	}
}

func FuzzPack(f *testing.F) {
	r := rand.New(rand.NewSource(10))
	for range 20 {
		f.Add(anyData(r, r.Intn(500)))
	}
	f.Fuzz(func(t *testing.T, data string) {
		if len(data) <= 4000 {
			packs(t, data)
		}
	})
}
