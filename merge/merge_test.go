package merge

import (
	"cmp"
	"math/rand/v2"
	"slices"
	"testing"
)

func drawLists(draw *rand.Rand, count, longest int) [][]int {
	lists := make([][]int, count)
	for i := range lists {
		for range draw.IntN(longest + 1) {
			lists[i] = append(lists[i], draw.IntN(40))
		}
		slices.Sort(lists[i])
	}
	return lists
}

func TestListsAreMergedInOrder(t *testing.T) {
	draw := rand.New(rand.NewPCG(1, 2))
	for range 5000 {
		lists := drawLists(draw, draw.IntN(10), 8)
		want := slices.Concat(lists...)
		slices.Sort(want)
		if got := slices.Collect(Lists(lists, cmp.Less)); !slices.Equal(got, want) {
			t.Fatalf("Lists(%v) = %v, want %v", lists, got, want)
		}
	}
}

func TestMergeEndsWhenAsked(t *testing.T) {
	lists := [][]int{{1, 4}, {2, 3}, {}}
	var got []int
	for n := range Lists(lists, cmp.Less) {
		if got = append(got, n); len(got) == 3 {
			break
		}
	}
	if !slices.Equal(got, []int{1, 2, 3}) {
		t.Errorf("the first three: %v", got)
	}
}

func TestListsAreNotWrittenInto(t *testing.T) {
	draw := rand.New(rand.NewPCG(3, 4))
	for range 500 {
		lists := drawLists(draw, 8, 5)
		var was [][]int
		for _, list := range lists {
			was = append(was, slices.Clone(list))
		}
		merged := Lists(lists, cmp.Less)
		first, again := slices.Collect(merged), slices.Collect(merged)
		if !slices.Equal(first, again) || !slices.EqualFunc(lists, was, slices.Equal) {
			t.Fatalf("the lists were %v and are %v; merged %v, and again %v", was, lists, first, again)
		}
	}
}

// TestLeastIsOnTop looks at the heap itself: the merged list alone would not tell a heap from a search through all lists.
func TestLeastIsOnTop(t *testing.T) {
	draw := rand.New(rand.NewPCG(5, 6))
	for range 500 {
		h := newHeap(drawLists(draw, draw.IntN(10), 5), cmp.Less)
		for len(h.lists) > 0 {
			for place := 1; place < len(h.lists); place++ {
				if h.isAhead(place, (place-1)/2) {
					t.Fatalf("the list at %d is ahead of that above it: %v", place, h.lists)
				}
			}
			h.take()
		}
	}
}
