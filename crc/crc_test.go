package crc

import (
	"bytes"
	"hash/crc32"
	"math/bits"
	"strings"
	"testing"
)

// allBytes are the bytes 0 to 255, in order.
func allBytes() []byte {
	all := make([]byte, 256)
	for i := range all {
		all[i] = byte(i)
	}
	return all
}

// mixed are n bytes that don't repeat soon.
func mixed(n int) []byte {
	b := make([]byte, n)
	state := uint32(n) + 1
	for i := range b {
		state = state*1664525 + 1013904223
		b[i] = byte(state >> 24)
	}
	return b
}

// sums are sums to go on from: chosen ones, each with one bit, each without one, and mixed ones.
func sums() []uint32 {
	all := []uint32{0, 1, 2, 0xFF, 0x100, 0x7FFFFFFF, 0x80000000, 0xFFFFFFFE, 0xFFFFFFFF, 0xEDB88320, 0xCBF43926, 0x12345678}
	for i := range 32 {
		all = append(all, 1<<i, ^uint32(1<<i))
	}
	state := uint32(7)
	for range 100 {
		state = state*1664525 + 1013904223
		all = append(all, state^state>>13)
	}
	return all
}

// wanted is what More should answer, bit by bit, in the document's words.
func wanted(sum uint32, b []byte) uint32 {
	x := uint64(4294967295 - sum)
	for _, c := range b {
		for place := range 8 {
			y := x ^ uint64(c)>>place&1
			x = y / 2
			if y%2 == 1 {
				x ^= 3988292384
			}
		}
	}
	return uint32(4294967295 - x)
}

// check holds More of a sum and bytes against what is wanted.
func check(t *testing.T, sum uint32, b []byte) {
	t.Helper()
	if got, want := More(sum, b), wanted(sum, b); got != want {
		t.Fatalf("More(%d, %q) = %d, not %d", sum, b, got, want)
	}
}

// P4.1: sums that are known.
func TestOf(t *testing.T) {
	for _, c := range []struct {
		text string
		want uint32
	}{
		{"123456789", 3421780262},
		{"", 0},
		{"\x00", 0xD202EF8D},
		{"\x00\x00\x00\x00", 0x2144DF1C},
		{"\xff", 0xFF000000},
		{"\xff\xff\xff\xff", 0xFFFFFFFF},
		{"a", 0xE8B7BE43},
		{"abc", 0x352441C2},
		{"message digest", 0x20159D7F},
		{"abcdefghijklmnopqrstuvwxyz", 0x4C2750BD},
		{"The quick brown fox jumps over the lazy dog", 0x414FA339},
		{strings.Repeat("1234567890", 8), 0x7CA94A72},
		{strings.Repeat("\x00", 32), 0x190A55AD},
		{strings.Repeat("\xff", 32), 0xFF6CAB0B},
		{string(allBytes()[:32]), 0x91267E8A},
	} {
		if got := Of([]byte(c.text)); got != c.want {
			t.Errorf("Of(%q) = %d, not %d", c.text, got, c.want)
		}
	}
	if got := Of(nil); got != 0 {
		t.Errorf("Of of nothing: %d", got)
	}
}

// P4.1: sums as another tells them.
func TestOfAsAnother(t *testing.T) {
	told := func(b []byte) {
		t.Helper()
		if got, want := Of(b), crc32.ChecksumIEEE(b); got != want {
			t.Fatalf("Of(%q) = %d, not %d", b, got, want)
		}
	}
	told(allBytes())
	told(mixed(1 << 20))
	for n := range 600 {
		told(mixed(n))
		told(make([]byte, n))
		told(bytes.Repeat([]byte{0xFF}, n))
	}
	for i := range 1 << 16 {
		told([]byte{byte(i >> 8), byte(i)})
	}
}

// P4.1: from each kind of sum on, bit by bit.
func TestMore(t *testing.T) {
	for _, sum := range sums() {
		if got := More(sum, nil); got != sum {
			t.Errorf("More(%d) of nothing = %d", sum, got)
		}
		if got := More(sum, []byte{}); got != sum {
			t.Errorf("More(%d) of no bytes = %d", sum, got)
		}
		for _, c := range allBytes() {
			check(t, sum, []byte{c})
			check(t, sum, []byte{c, ^c, 0})
		}
		for n := range 40 {
			check(t, sum, mixed(n))
		}
	}
	check(t, 0xFFFFFFFF, mixed(5000))
	if got, want := More(0, []byte("123456789")), uint32(3421780262); got != want {
		t.Errorf("More of 0: %d, not %d", got, want)
	}
	// Ahead of the first bit all bits are turned: all ones are a number of 0.
	if got, want := More(0xFFFFFFFF, []byte{0, 0, 0}), uint32(0xFFFFFFFF); got != want {
		t.Errorf("More of all ones: %d, not %d", got, want)
	}
}

// P4.1: a byte's lowest bit goes first, and bytes go from the first one on.
func TestOrder(t *testing.T) {
	for place := range 8 {
		check(t, 0, []byte{1 << place})
		check(t, 0xFFFFFFFF, []byte{1 << place})
	}
	// From 0 on, a highest bit alone is taken in last, in the eighth step.
	if got, want := More(0xFFFFFFFF, []byte{0x80}), ^uint32(3988292384); got != want {
		t.Errorf("a highest bit alone: %d, not %d", got, want)
	}
	if Of([]byte("ab")) == Of([]byte("ba")) {
		t.Error("two bytes have the same sum both ways round")
	}
}

// P4.2: sums go on, wherever a row is cut.
func TestInPieces(t *testing.T) {
	for _, b := range [][]byte{nil, {0}, {0xFF}, []byte("123456789"), allBytes(), make([]byte, 70), mixed(999)} {
		whole := Of(b)
		single := uint32(0)
		for at := range len(b) + 1 {
			if got := More(Of(b[:at]), b[at:]); got != whole {
				t.Fatalf("%q, cut at %d: %d, not %d", b, at, got, whole)
			}
			middle := at + (len(b)-at)/2
			if got := More(More(Of(b[:at]), b[at:middle]), b[middle:]); got != whole {
				t.Fatalf("%q, cut at %d and %d: %d, not %d", b, at, middle, got, whole)
			}
			if at < len(b) {
				single = More(single, b[at:at+1])
			}
		}
		if single != whole {
			t.Fatalf("%q, byte by byte: %d, not %d", b, single, whole)
		}
	}
}

// turned is a row with other bits at a place, the lowest bit of a byte counted first.
func turned(b []byte, from int, pattern uint32) []byte {
	row := bytes.Clone(b)
	for i := range 32 {
		if pattern>>i&1 == 1 {
			row[(from+i)/8] ^= 1 << ((from + i) % 8)
		}
	}
	return row
}

// P4.2: rows that differ in 32 bits on end at most have different sums.
func TestDifferent(t *testing.T) {
	for _, b := range [][]byte{make([]byte, 40), bytes.Repeat([]byte{0xFF}, 40), mixed(300)} {
		sum := Of(b)
		for from := range len(b)*8 - 31 {
			state := uint32(from) + 1
			for i := range 32 {
				state = state*1664525 + 1013904223
				for _, pattern := range []uint32{1 << i, 0xFFFFFFFF >> i, 1 | 1<<i, state | 1} {
					if row := turned(b, from, pattern); Of(row) == sum {
						t.Fatalf("%q and %q have the sum %d both", b, row, sum)
					}
				}
			}
		}
	}
}

// P4.2: all patterns of 32 bits at a place: what single bits do to a sum is never made of what others do.
func TestDifferentAll(t *testing.T) {
	for _, b := range [][]byte{mixed(4), mixed(37)} {
		sum := Of(b)
		for from := range len(b)*8 - 31 {
			var led [32]uint32
			for i := range 32 {
				does := Of(turned(b, from, 1<<i)) ^ sum
				for does != 0 && led[bits.Len32(does)-1] != 0 {
					does ^= led[bits.Len32(does)-1]
				}
				if does == 0 {
					t.Fatalf("from bit %d on, bit %d does what others do", from, i)
				}
				led[bits.Len32(does)-1] = does
			}
		}
	}
	// That holds for all patterns as two rows' differences add up.
	for n := range 100 {
		a, b, c := mixed(n), make([]byte, n), mixed(2 * n)[n:]
		for i := range b {
			b[i] = a[i] ^ c[i]
		}
		if Of(a)^Of(c)^Of(b) != Of(make([]byte, n)) {
			t.Fatalf("differences don't add up at %d bytes", n)
		}
	}
}

// What is handed in stays as it is, and the same calls have the same answers.
func TestKeepsNothing(t *testing.T) {
	b := []byte("123456789more")[:9]
	first, more := Of(b), More(77, b)
	if string(b[:13]) != "123456789more" {
		t.Errorf("what is handed in is changed: %q", b[:13])
	}
	Of(mixed(100))
	More(5, mixed(100))
	if Of(b) != first || More(77, b) != more {
		t.Error("the same calls have other answers")
	}
}
