package pack_test

import (
	"math/rand"
	"slices"
	"strings"
	"testing"
	"unsafe"

	"nand/api"
	"nand/pack"
)

// whole: what a call gave beside OK, or nothing beside an error.
func whole(t *testing.T, what string, empty bool, e api.Errno, may ...api.Errno) {
	t.Helper()
	if e != api.OK && !empty {
		t.Errorf("%s: something beside the error %d", what, e)
	}
	if e != api.OK && !slices.Contains(may, e) {
		t.Errorf("%s: the error %d", what, e)
	}
}

func TestP1AnyArgument(t *testing.T) {
	r := rand.New(rand.NewSource(1))
	for range 3000 {
		b := make([]byte, r.Intn(700))
		r.Read(b)
		if len(b) > 2 {
			b[0] &= 1
			b[1] &= 15
		}
		data, e := pack.Unpack(string(b))
		whole(t, "Unpack", data == "", e, api.ErrForm)
		text, e := pack.Pack(string(b))
		whole(t, "Pack", text == "", e)
		lengths := make([]int, r.Intn(300))
		for i := range lengths {
			lengths[i] = int(r.Uint64() >> (40 + r.Intn(24)))
			if r.Intn(50) > 0 {
				lengths[i] &= 15
			}
		}
		codes, e := pack.Codes(lengths)
		whole(t, "Codes", codes == nil, e, api.ErrArg, api.ErrForm)
	}
}

func TestP1VeryLongArguments(t *testing.T) {
	long := strings.Repeat("\x01", 1<<22)
	if data, e := pack.Unpack(long); data != "" || e != api.ErrForm {
		t.Errorf("Unpack: %d bytes, %d", len(data), e)
	}
	if text, e := pack.Pack(long); text != "" || e != api.ErrLong {
		t.Errorf("Pack: %d bytes, %d", len(text), e)
	}
	if codes, e := pack.Codes(make([]int, 1<<20)); codes != nil || e != api.ErrArg {
		t.Errorf("Codes: %d, %d", len(codes), e)
	}
}

func TestP1FirstErrorFirst(t *testing.T) {
	if _, e := pack.Codes([]int{1, 1, 1, -1}); e != api.ErrArg {
		t.Errorf("codes that don't go in, and a length that may not be: %d", e)
	}
	if _, e := pack.Codes(slices.Repeat([]int{1}, 289)); e != api.ErrArg {
		t.Errorf("codes that don't go in, and too many lengths: %d", e)
	}
}

func TestP2TheSameAnswerAgain(t *testing.T) {
	r := rand.New(rand.NewSource(2))
	for range 100 {
		data, lengths := anyData(r, r.Intn(2000)), []int{3, 1, r.Intn(4), 3}
		text, _ := pack.Pack(data)
		codes, e := pack.Codes(lengths)
		pack.Pack(anyData(r, r.Intn(2000)))
		pack.Unpack("\x01")
		pack.Codes([]int{1, 1, 1})
		if again, _ := pack.Pack(data); again != text {
			t.Fatalf("Pack(%.60q) is not the same again", data)
		}
		if again, f := pack.Codes(lengths); e != f || !slices.Equal(codes, again) {
			t.Fatalf("Codes(%v) are not the same again", lengths)
		}
		if again, _ := pack.Unpack(text); again != data {
			t.Fatalf("Unpack: %.60q, want %.60q", again, data)
		}
	}
}

func TestP2ListsAreNotWrittenInto(t *testing.T) {
	for _, lengths := range [][]int{{2, 1, 0, 2}, {1, 1, 1}, {1, 13}} {
		behind := append(slices.Clone(lengths), 77, 78)
		was := slices.Clone(behind)
		pack.Codes(behind[:len(lengths)])
		if !slices.Equal(behind, was) {
			t.Errorf("Codes(%v) made of it and what stands behind it %v", lengths, behind)
		}
	}
}

func TestP2ListsAreNewMemory(t *testing.T) {
	lengths := []int{2, 1, 0, 2}
	first, _ := pack.Codes(lengths)
	second, _ := pack.Codes(lengths)
	first = first[:cap(first)]
	for i := range first {
		first[i] = "own"
	}
	for i := range lengths {
		lengths[i] = 9
	}
	if strings.Join(second, ",") != "10,0,,11" {
		t.Errorf("the codes have become %q", second)
	}
	if third, _ := pack.Codes([]int{2, 1, 0, 2}); strings.Join(third, ",") != "10,0,,11" {
		t.Errorf("the codes have become %q", third)
	}
	if slices.Contains(second[:cap(second)], "own") {
		t.Errorf("the spare room of two answers is the same")
	}
}

// inside: does a text lie in the memory of another?
func inside(part string, in string) bool {
	if part == "" || in == "" {
		return false
	}
	at, from := uintptr(unsafe.Pointer(unsafe.StringData(part))), uintptr(unsafe.Pointer(unsafe.StringData(in)))
	return at >= from && at < from+uintptr(len(in))
}

func TestP2TextsAreNotKept(t *testing.T) {
	for _, data := range []string{"a", "abc", strings.Repeat("abcdefgh", 400)} {
		text, _ := pack.Pack(data)
		if inside(text, data) {
			t.Errorf("Pack(%.60q) lies in what was handed in", data)
		}
		for _, text := range []string{text, "\x00" + data} {
			if got, _ := pack.Unpack(text); inside(got, text) {
				t.Errorf("Unpack(%.60q) lies in what was handed in", text)
			}
		}
	}
}
