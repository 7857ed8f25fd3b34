package pack_test

import (
	"math"
	"math/rand"
	"slices"
	"strings"
	"testing"

	"nand/api"
	"nand/pack"
)

func TestP3CodesOfLengths(t *testing.T) {
	for _, c := range []struct {
		lengths []int
		want    string
	}{
		{[]int{2, 1, 0, 2}, "10,0,,11"},
		{[]int{1}, "0"},
		{[]int{12}, "000000000000"},
		{[]int{0}, ""},
		{[]int{0, 0, 0}, ",,"},
		{[]int{3, 1}, "100,0"},
		{[]int{1, 3, 3, 3, 3}, "0,100,101,110,111"},
		{[]int{5, 2, 5, 2}, "10000,00,10001,01"},
		{[]int{1, 12, 12}, "0,100000000000,100000000001"},
		{[]int{1, 2, 3, 4, 5, 6, 7, 8, 9, 10, 11, 12, 12}, "0,10,110,1110,11110,111110,1111110,11111110,111111110,1111111110,11111111110,111111111110,111111111111"},
	} {
		got, e := pack.Codes(c.lengths)
		if e != api.OK || len(got) != len(c.lengths) || strings.Join(got, ",") != c.want {
			t.Errorf("Codes(%v) = %q, %d, want %q", c.lengths, got, e, c.want)
		}
	}
}

func TestP3CodesOfNoLengths(t *testing.T) {
	for _, none := range [][]int{nil, {}} {
		if got, e := pack.Codes(none); len(got) != 0 || e != api.OK {
			t.Errorf("Codes(%v) = %q, %d", none, got, e)
		}
	}
}

func TestP3CodesRefused(t *testing.T) {
	for _, c := range []struct {
		what    string
		lengths []int
		want    api.Errno
	}{
		{"all symbols", make([]int, 288), api.OK},
		{"one symbol more", make([]int, 289), api.ErrArg},
		{"many more, all wrong", slices.Repeat([]int{99}, 10000), api.ErrArg},
		{"below 0", []int{1, -1}, api.ErrArg},
		{"above 12", []int{1, 13}, api.ErrArg},
		{"the least number", []int{math.MinInt}, api.ErrArg},
		{"the greatest number", []int{math.MaxInt}, api.ErrArg},
		{"64", []int{64}, api.ErrArg},
		{"-64", []int{-64}, api.ErrArg},
		{"too many codes and a wrong length behind", []int{1, 1, 1, 13}, api.ErrArg},
		{"too many codes and too many lengths", slices.Repeat([]int{1}, 289), api.ErrArg},
		{"all go in", []int{1, 2, 2}, api.OK},
		{"one too many", []int{1, 2, 2, 12}, api.ErrForm},
		{"one too many, ahead", []int{12, 1, 1}, api.ErrForm},
		{"256 of 8", slices.Repeat([]int{8}, 256), api.OK},
		{"257 of 8", slices.Repeat([]int{8}, 257), api.ErrForm},
		{"288 of 9", slices.Repeat([]int{9}, 288), api.OK},
		{"288 of 1", slices.Repeat([]int{1}, 288), api.ErrForm},
		{"288 of 12", slices.Repeat([]int{12}, 288), api.OK},
	} {
		got, e := pack.Codes(c.lengths)
		if e != c.want {
			t.Errorf("%s: %d, want %d", c.what, e, c.want)
		}
		if e != api.OK && got != nil {
			t.Errorf("%s: %q beside the error", c.what, got)
		}
	}
}

func TestP3CodesOfAnyLengths(t *testing.T) {
	r := rand.New(rand.NewSource(3))
	for range 3000 {
		lengths, _ := anyLengths(r)
		lengths = lengths[:r.Intn(289)]
		if r.Intn(3) == 0 {
			lengths = append(lengths, r.Intn(16)-1, r.Intn(4))
		}
		got, e := pack.Codes(lengths)
		want, f := slowCodes(lengths)
		if e != f || !slices.Equal(got, want) {
			t.Fatalf("Codes(%v) = %q, %d, want %q, %d", lengths, got, e, want, f)
		}
	}
}
