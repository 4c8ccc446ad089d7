package lanes_test

import (
	"testing"

	"sandglass/api"
	"sandglass/lanes"
)

// P15.2: the chapter's example.
func TestExample(t *testing.T) {
	for _, x := range []struct{ left, first, second int }{{1600, 5, 3}, {1599, 3, 0}} {
		l := newLanes(t, all(2))
		holdPut(t, l, 3, frame(1, 100), api.OK)
		holdPut(t, l, 5, frame(2, 200), api.OK)
		left := all(1600)
		left[5] = x.left
		items := map[int]lanes.Item{3: frame(1, 100), 5: frame(2, 200)}
		holdPick(t, l, left, x.first, items[x.first])
		if x.second != 0 {
			holdPick(t, l, left, x.second, items[x.second])
		}
		holdNoPick(t, l, left)
	}
}

// P15.2: what is left of just 8 times the Size, one less and one more, of each class; of nought, negative numbers, and the greatest one.
func TestLeft(t *testing.T) {
	for class := range classes {
		for _, size := range []int{0, 1, 2, 64, 1000, maxFrame - 1, maxFrame} {
			for _, it := range []lanes.Item{frame(3, size), early(4, size)} {
				l := newLanes(t, all(2))
				holdPut(t, l, class, it, api.OK)
				enough := 8 * size
				for _, left := range []int{enough - 1, enough - 8, -1, -8, -enough - 1, least, least + 1} {
					holdNoPick(t, l, all(left))
					// However much is left to the others: none of them waits.
					others := all(most)
					others[class] = left
					holdNoPick(t, l, others)
				}
				for _, left := range []int{enough, enough + 1, enough + 8, 1 << 40, most - 1, most} {
					holdPick(t, l, only(class, left), class, it)
					holdNoPick(t, l, all(most))
					holdPut(t, l, class, it, api.OK)
				}
				others := all(least)
				others[class] = enough
				holdPick(t, l, others, class, it)
			}
		}
	}
}

// P15.2: the higher of two classes comes first, whichever waited longer, and whichever frame is the shorter one.
func TestHighest(t *testing.T) {
	for high := 1; high < classes; high++ {
		for low := range high {
			for _, sizes := range [][2]int{{64, 64}, {maxFrame, 64}, {64, maxFrame}, {0, 0}} {
				for _, turn := range []bool{true, false} {
					l := newLanes(t, all(2))
					if turn {
						holdPut(t, l, low, frame(1, sizes[0]), api.OK)
					}
					holdPut(t, l, high, frame(2, sizes[1]), api.OK)
					if !turn {
						holdPut(t, l, low, frame(1, sizes[0]), api.OK)
					}
					holdPick(t, l, all(8*maxFrame), high, frame(2, sizes[1]))
					holdPick(t, l, all(8*maxFrame), low, frame(1, sizes[0]))
					holdNoPick(t, l, all(8*maxFrame))
				}
			}
		}
	}
}

// P15.2: the highest class whose first one fits: those above it whose first one doesn't wait on, though a later one of theirs would fit.
func TestFirstFits(t *testing.T) {
	for fits := range classes {
		l := newLanes(t, all(3))
		left := all(800)
		for class := range classes {
			holdPut(t, l, class, frame(10*class, 100), api.OK)
			holdPut(t, l, class, frame(10*class+1, 1), api.OK)
			if class > fits {
				left[class] = 799
			}
		}
		holdPick(t, l, left, fits, frame(10*fits, 100))
		// Its next one is shorter, and fits as well.
		holdPick(t, l, left, fits, frame(10*fits+1, 1))
		if fits > 0 {
			holdPick(t, l, left, fits-1, frame(10*fits-10, 100))
		} else {
			holdNoPick(t, l, left)
		}
		for class := fits + 1; class < classes; class++ {
			holdHead(t, l, class, frame(10*class, 100), true)
			holdLong(t, l, class, 2, 0)
			left[class] = 800
			holdPick(t, l, left, class, frame(10*class, 100))
			left[class] = 8
			holdPick(t, l, left, class, frame(10*class+1, 1))
			left[class] = least
		}
	}
	// Of one class alone: a first one that is too long keeps the ones behind it.
	l := newLanes(t, all(3))
	holdPut(t, l, 7, frame(1, 200), api.OK)
	holdPut(t, l, 7, frame(2, 0), api.OK)
	holdPut(t, l, 7, frame(3, 100), api.OK)
	holdNoPick(t, l, all(1599))
	holdPick(t, l, all(1600), 7, frame(1, 200))
	holdPick(t, l, all(0), 7, frame(2, 0))
	holdNoPick(t, l, all(799))
	holdPick(t, l, all(800), 7, frame(3, 100))
}

// P15.2: what is left to a class counts for that class alone.
func TestLeftOfOwnClass(t *testing.T) {
	for class := range classes {
		l := newLanes(t, all(2))
		for c := range classes {
			holdPut(t, l, c, frame(c, 64), api.OK)
		}
		holdPick(t, l, only(class, 512), class, frame(class, 64))
		holdNoPick(t, l, only(class, 512))
		left := all(511)
		left[class] = most
		holdNoPick(t, l, left)
		for c := classes - 1; c >= 0; c-- {
			if c != class {
				holdPick(t, l, all(512), c, frame(c, 64))
			}
		}
	}
}

// P15.2: the order within a class stays behind many Picks and Puts by turns, however full it is; a Pick doesn't move another class.
func TestOrder(t *testing.T) {
	for _, room := range []int{1, 2, 3, 7, 64} {
		for class := range classes {
			l := newLanes(t, all(room))
			holdPut(t, l, (class+1)%classes, frame(-1, maxFrame), api.OK)
			in, out := 0, 0
			for range 5 {
				for n := 1; n <= room; n++ {
					for in-out < n {
						holdPut(t, l, class, frame(in, in%8), api.OK)
						in++
					}
					for range 2 * n {
						holdPick(t, l, only(class, 56), class, frame(out, out%8))
						out++
						holdPut(t, l, class, frame(in, in%8), api.OK)
						in++
						holdHead(t, l, class, frame(out, out%8), true)
					}
					for in-out > n/2 {
						holdPick(t, l, only(class, 56), class, frame(out, out%8))
						out++
					}
				}
			}
			holdClear(t, l, 1+in-out)
			// Behind Clear the row begins anew.
			out = in
			for in-out < room {
				holdPut(t, l, class, frame(in, 1), api.OK)
				in++
			}
			for out < in {
				holdPick(t, l, all(8), class, frame(out, 1))
				out++
			}
			holdNoPick(t, l, all(most))
		}
	}
}

// P15.2: Head is the one that has waited longest, which stays; false of a class in which none waits, and of none.
func TestHead(t *testing.T) {
	l := newLanes(t, all(3))
	for class := -2; class < classes+2; class++ {
		holdHead(t, l, class, lanes.Item{}, false)
	}
	for _, class := range []int{least, most, 1 << 32} {
		holdHead(t, l, class, lanes.Item{}, false)
	}
	for class := range classes {
		holdPut(t, l, class, early(class, 64), api.OK)
		holdPut(t, l, class, frame(-class, 1), api.OK)
		for range 3 {
			holdHead(t, l, class, early(class, 64), true)
			holdLong(t, l, class, 2, 0)
		}
		// One that is refused is never the first one.
		holdPut(t, l, class, early(9, 9), api.ErrFull)
		holdHead(t, l, class, early(class, 64), true)
		holdPick(t, l, only(class, 512), class, early(class, 64))
		holdHead(t, l, class, frame(-class, 1), true)
		holdPick(t, l, only(class, 512), class, frame(-class, 1))
		holdHead(t, l, class, lanes.Item{}, false)
	}
	// A frame whose fields are noughts is one all the same.
	holdPut(t, l, 5, lanes.Item{}, api.OK)
	holdHead(t, l, 5, lanes.Item{}, true)
	holdHead(t, l, 4, lanes.Item{}, false)
	holdPick(t, l, all(0), 5, lanes.Item{})
	holdPut(t, l, 0, lanes.Item{}, api.OK)
	holdPick(t, l, all(0), 0, lanes.Item{})
	holdNoPick(t, l, all(0))
}

// P15.2: Clear of nothing, of all classes, and twice in a row; the rooms are free behind it.
func TestClear(t *testing.T) {
	l := newLanes(t, [classes]int{1, 2, 3, 4, 5, 6, 7, 8})
	holdClear(t, l, 0)
	holdClear(t, l, 0)
	for range 3 {
		for class := range classes {
			fill(t, l, class, class+1)
		}
		holdClear(t, l, 36)
		holdClear(t, l, 0)
	}
	for class := range classes {
		fill(t, l, class, class+1)
		holdClear(t, l, class+1)
		holdClear(t, l, 0)
		holdLong(t, l, class, 0, 0)
	}
	// Some of them were picked.
	fill(t, l, 7, 8)
	fill(t, l, 2, 1)
	holdPick(t, l, all(8), 7, frame(0, 1))
	holdPick(t, l, all(8), 7, frame(1, 1))
	holdClear(t, l, 7)
	// And with Drop half the room is free again.
	for id := range 4 {
		holdPut(t, l, 7, early(id, 1), api.OK)
	}
	holdPut(t, l, 7, early(4, 1), api.ErrFull)
	holdClear(t, l, 4)
	full := newLanes(t, all(maxRoom))
	for class := range classes {
		for id := range maxRoom {
			if err := full.Put(class, frame(id, maxFrame)); err != api.OK {
				t.Fatalf("Put of number %d is %d", id, err)
			}
		}
	}
	holdClear(t, full, classes*maxRoom)
}
