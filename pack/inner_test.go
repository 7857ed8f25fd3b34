package pack

import (
	"math/rand"
	"slices"
	"sort"
	"testing"

	"nand/api"
)

func TestQueueLightestFirst(t *testing.T) {
	r := rand.New(rand.NewSource(1))
	for range 300 {
		var q queue[string]
		var want []entry[string]
		for turn := range r.Intn(60) {
			weight, value := r.Intn(8), string(rune('a'+r.Intn(26)))
			q.put(weight, value)
			want = append(want, entry[string]{weight: weight, turn: turn, value: value})
		}
		sort.SliceStable(want, func(i, j int) bool { return want[i].weight < want[j].weight })
		for i, w := range want {
			if got, ok := q.take(); got != w || !ok {
				t.Fatalf("%d: %v, %v, want %v", i, got, ok, w)
			}
		}
		if got, ok := q.take(); got != (entry[string]{}) || ok {
			t.Fatalf("from an empty queue: %v", got)
		}
	}
}

func TestQueuePutBetween(t *testing.T) {
	var q queue[int]
	q.put(5, 50)
	q.put(1, 10)
	if got, _ := q.take(); got.value != 10 {
		t.Errorf("%v", got)
	}
	q.put(3, 30)
	q.put(5, 51)
	for _, want := range []int{30, 50, 51} {
		if got, ok := q.take(); got.value != want || !ok {
			t.Errorf("%v, want %d", got, want)
		}
	}
}

// counts: of the first symbols how often they come.
func counts(some ...int) []int { return append(some, make([]int, api.Symbols-len(some))...) }

func TestCodeLengths(t *testing.T) {
	for _, c := range []struct{ counts, want []int }{
		{counts(), counts()},
		{counts(7), counts(1)},
		{counts(0, 0, 1), counts(0, 0, 1)},
		{counts(1, 3000), counts(1, 1)},
		{counts(1, 2, 4, 8), counts(3, 3, 2, 1)},
		{counts(5, 5, 5, 5), counts(2, 2, 2, 2)},
	} {
		was := slices.Clone(c.counts)
		if got := codeLengths(c.counts); !slices.Equal(got, c.want) {
			t.Errorf("of %v: %v, want %v", c.counts[:8], got[:8], c.want[:8])
		}
		if !slices.Equal(was, c.counts) {
			t.Errorf("the counts have become %v", c.counts[:8])
		}
	}
}

// Codes are at most MaxCode long, whatever the counts, and go in.
func TestCodeLengthsAreBounded(t *testing.T) {
	steep := counts()
	last, now := 1, 1
	for i := range 40 {
		steep[i] = now
		last, now = now, last+now
	}
	if longest := slices.Max(join(steep)); longest <= api.MaxCode {
		t.Fatalf("these counts try nothing: %d", longest)
	}
	r := rand.New(rand.NewSource(2))
	for range 200 {
		was := slices.Clone(steep)
		lengths := codeLengths(steep)
		if !slices.Equal(was, steep) {
			t.Fatalf("the counts %v have become %v", was, steep)
		}
		if e := checkLengths(lengths); e != api.OK {
			t.Fatalf("of %v: %v: %d", steep, lengths, e)
		}
		for symbol := range steep {
			if (steep[symbol] > 0) != (lengths[symbol] > 0) {
				t.Fatalf("%d times symbol %d, a code of %d", steep[symbol], symbol, lengths[symbol])
			}
			steep[symbol] = r.Intn(1 << r.Intn(24))
		}
	}
}

func TestSplitMakesCopies(t *testing.T) {
	for _, c := range []struct {
		data string
		want []step
	}{
		{"", nil},
		{"ab", []step{{'a', 0}, {'b', 0}}},
		{"aaaa", []step{{'a', 0}, {256, 1}}},
		{"aaa", []step{{'a', 0}, {'a', 0}, {'a', 0}}},
		{"abcdabcdx", []step{{'a', 0}, {'b', 0}, {'c', 0}, {'d', 0}, {257, 4}, {'x', 0}}},
		{"abcxabcyabcx", []step{{'a', 0}, {'b', 0}, {'c', 0}, {'x', 0}, {256, 4}, {'y', 0}, {257, 8}}},
	} {
		if got := split(c.data); !slices.Equal(got, c.want) {
			t.Errorf("%q: %v, want %v", c.data, got, c.want)
		}
	}
}
