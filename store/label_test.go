package store

import (
	"math"
	"math/rand"
	"slices"
	"strconv"
	"testing"

	"nand/api"
	"nand/chip"
)

// greatest is the number behind which 0 comes.
const greatest = math.MaxUint32

// turns: labels come in this order, however they are mixed.
func turns(t *testing.T, r *rand.Rand, want []label) {
	t.Helper()
	mixed := slices.Clone(want)
	r.Shuffle(len(mixed), func(i, k int) { mixed[i], mixed[k] = mixed[k], mixed[i] })
	if got := inTurn(mixed); !slices.Equal(got, want) {
		t.Fatalf("inTurn(%v) = %v", mixed, got)
	}
}

func TestInTurn(t *testing.T) {
	r := rand.New(rand.NewSource(1))
	for _, want := range [][]label{
		nil,
		{{0, 0}},
		{{3, greatest}},
		{{0, 1}, {0, 2}, {0, 9}},
		{{0, greatest - 1}, {0, greatest}, {0, 0}, {0, 1}},
		{{0, greatest}, {0, 0}},
		{{2, greatest - 1000000}, {2, 1000000}},
		{{0, 1<<31 - 1}, {0, 1 << 31}, {0, 1<<31 + 1}},
		{{0, 7}, {1, 7}, {2, 7}},
		{{0, greatest}, {0, 3}, {1, greatest}, {1, 2}, {32, 0}},
		{{0, 5}, {1, 1<<31 + 5}, {2, 1<<31 + 6}, {2, 1<<31 + 7}, {3, 4}},
	} {
		for range 5 {
			turns(t, r, want)
		}
	}
}

// TestInTurnClose: numbers that are close together come in the order in which they were taken, wherever they begin.
func TestInTurnClose(t *testing.T) {
	r := rand.New(rand.NewSource(1))
	for range 2000 {
		n := r.Uint32()
		most := uint32(1) << r.Intn(26) // less than half of all, in twenty steps
		var want []label
		for range 1 + r.Intn(20) {
			want = append(want, label{1, n})
			n += 1 + r.Uint32()%most
		}
		turns(t, r, want)
	}
}

// TestInTurnAny: numbers that are not close (some were scribbled) come in an order that hangs on them alone.
func TestInTurnAny(t *testing.T) {
	r := rand.New(rand.NewSource(2))
	for range 500 {
		var l []label
		for i := range r.Intn(9) {
			l = append(l, label{r.Intn(3), uint32(i)<<30 + uint32(r.Intn(2))})
		}
		once := inTurn(l)
		r.Shuffle(len(l), func(i, k int) { l[i], l[k] = l[k], l[i] })
		if again := inTurn(l); !slices.Equal(again, once) || len(once) != len(l) {
			t.Fatalf("inTurn(%v) = %v and %v", l, once, again)
		}
	}
}

// begunAt: a chip with one record, which has this number, and a Log behind it.
func begunAt(t *testing.T, c *chip.Chip, number uint32, text string) *Log {
	t.Helper()
	if e := RenewAt(c, number, text); e != api.OK {
		t.Fatalf("Add = %d", e)
	}
	r := Records(c)[0]
	if r.label.number != number {
		t.Fatalf("the record has the number %d, want %d", r.label.number, number)
	}
	return Follow(c, r)
}

// TestRound: behind the greatest number comes 0, and what is laid down is the newest, again and again, by one Log and by new ones.
func TestRound(t *testing.T) {
	for _, anew := range []bool{false, true} {
		for _, begin := range []uint32{1, greatest - 200, greatest - 100, greatest - 17, greatest - 1, greatest, 1<<31 - 50} {
			c := chip.New(5, 4, []int{1})
			l := begunAt(t, c, begin, "first")
			for i := range uint32(300) {
				adds(t, l, text(1+int(i*37)%(8*textBytes)))
				if l.newest != (label{1, begin + i + 1}) {
					t.Fatalf("record %d behind %d has the label %v", i+1, begin, l.newest)
				}
				if anew {
					l = Follow(c, Records(c)[0])
				}
			}
		}
	}
}

// TestRoundPower: the power goes at each call of the chip on the way round, and leaves each part of what is done then.
func TestRoundPower(t *testing.T) {
	for _, anew := range []bool{false, true} {
		went := true
		for behind := 0; went; behind++ {
			went = false
			for cut := range chip.Size {
				c := chip.New(4, 4, nil)
				l := begunAt(t, c, greatest-20, "first")
				last := "first"
				c.Die(behind, cut)
				for i := 0; i < 40; i++ {
					s := text(1 + i*29%(3*textBytes))
					if e := l.Add(s); e == api.OK {
						last = s
						continue
					} else if e != api.ErrDev || !c.Dead() {
						t.Fatalf("Add = %d", e)
					}
					went = true
					c.Power()
					newest(t, c, last)
					if anew {
						l = Follow(c, Records(c)[0])
					}
					i-- // once more
				}
				newest(t, c, last)
				if number := l.newest.number; number > 100 {
					t.Fatalf("the last number is %d", number)
				}
			}
		}
	}
}

// TestTaken: a record does not take a label that pages have of one that did not become whole, neither by the same Log nor by a new one.
func TestTaken(t *testing.T) {
	for _, anew := range []bool{false, true} {
		c := chip.New(4, 4, nil)
		l := begunAt(t, c, greatest-1, "first")
		adds(t, l, "second")
		c.Die(1, 0)
		if e := l.Add(text(3 * textBytes)); e != api.ErrDev {
			t.Fatalf("Add = %d", e)
		}
		c.Power()
		if anew {
			l = Follow(c, Records(c)[0])
		}
		adds(t, l, "third")
		has(t, c, "third", "second", "first")
		if l.newest.number != 1 {
			t.Errorf("the third has the number %d", l.newest.number)
		}
	}
}

// TestRoundBad: what is left in a block that went bad is older, wherever the numbers are by then.
func TestRoundBad(t *testing.T) {
	for _, begin := range []uint32{1, 5, 1 << 31, greatest - 1, greatest} {
		for _, on := range []uint32{0, 1, 2, 1<<31 - 2, 1<<31 - 1, 1 << 31, 1<<31 + 1, greatest - 2, greatest - 1, greatest} {
			c := chip.New(6, 4, nil)
			l := begunAt(t, c, begin, "first")
			adds(t, l, "second")
			c.Fail(0, 0)
			adds(t, l, "third")
			has(t, c, "third", "second", "first")
			l.newest.number = begin + on
			adds(t, l, "fourth")
			for i := range 50 {
				adds(t, l, text(1+i*41%(4*textBytes)))
			}
			if e := Renew(c, "anew"); e != api.OK {
				t.Fatalf("Renew = %d", e)
			}
			newest(t, c, "anew")
		}
	}
}

// farthest: how far numbers on a chip are from the newest record's, of those that were begun with as many blocks bad.
func farthest(c *chip.Chip) int {
	newest := Records(c)[0].label
	far := 0
	for l := range find(c).labels() {
		if l.bad == newest.bad {
			n := int(int32(newest.number - l.number))
			far = max(far, n, -n)
		}
	}
	return far
}

// isClose: the numbers on a chip are close together: what stands there is no older than two rounds, with as many records as pages at most, and from one to the next the numbers go on by as many as there are pages, and one, at most.
func isClose(t *testing.T, c *chip.Chip) {
	t.Helper()
	pages := c.Blocks() * c.Pages()
	if far := farthest(c); far > 2*pages*(pages+1) {
		t.Fatalf("numbers are %d apart", far)
	}
}

// TestCloseTries: where no record becomes whole, again and again, the numbers do not run away from the one that stays.
func TestCloseTries(t *testing.T) {
	for _, anew := range []bool{false, true} {
		c := chip.New(4, 4, nil)
		l := begunAt(t, c, greatest-3, "first")
		for i := range 3000 {
			c.Die(i%3, i)
			if e := l.Add(text(3 * textBytes)); e != api.ErrDev {
				t.Fatalf("Add = %d", e)
			}
			c.Power()
			newest(t, c, "first")
			isClose(t, c)
			if anew {
				l = Follow(c, Records(c)[0])
			}
		}
		adds(t, l, "last")
	}
}

// TestCloseErase: a block that is not erased when its turn comes, as the power goes each time, is not passed by.
func TestCloseErase(t *testing.T) {
	c := chip.New(4, 4, nil)
	l := begunAt(t, c, greatest-300, "first")
	went := 0
	for i := range 3000 {
		if i > 50 && l.block == 1 && l.page == c.Pages() {
			c.Die(0, 0)
			if e := l.Add("lost"); e != api.ErrDev {
				t.Fatalf("Add = %d", e)
			}
			c.Power()
			went++
		}
		adds(t, l, "record "+strconv.Itoa(i))
		isClose(t, c)
	}
	if went < 150 {
		t.Errorf("the power went %d times", went)
	}
}

// TestCloseAny: whatever comes.
func TestCloseAny(t *testing.T) {
	r := rand.New(rand.NewSource(3))
	for k := range 80 {
		c := chip.New(4+r.Intn(4), 4+r.Intn(3), []int{r.Intn(10)})
		l := begunAt(t, c, greatest-uint32(r.Intn(300)), "first")
		last := "first"
		for range 400 {
			if r.Intn(3) == 0 {
				c.Die(r.Intn(8), r.Int())
			}
			if k%2 == 0 && r.Intn(150) == 0 {
				c.Fail(r.Intn(8), r.Int())
			}
			s := text(1 + r.Intn(min(6*textBytes, max(1, room(c)*textBytes))))
			if e := l.Add(s); e == api.OK {
				last = s
			}
			c.Power()
			newest(t, c, last)
			isClose(t, c)
			if r.Intn(4) == 0 {
				l = Follow(c, Records(c)[0])
			}
		}
	}
}
