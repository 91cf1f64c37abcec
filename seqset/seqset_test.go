package seqset

import (
	"math"
	"math/rand"
	"slices"
	"strconv"
	"strings"
	"testing"

	"letterbox/api"
	"letterbox/chars"
)

// edges are numbers at which something changes.
func edges() []int {
	return []int{math.MinInt, math.MinInt + 1, -1 << 32, -greatest, -2, -1, 0, 1, 2, 3, 9, 10, 1<<31 - 1, 1 << 31, greatest - 1, greatest, greatest + 1, 1 << 33, math.MaxInt - 1, math.MaxInt}
}

// P21.1: texts that are sets, as they are told, too.
func TestParse(t *testing.T) {
	for s, want := range map[string][]Range{
		"1":                     {{1, 1}},
		"*":                     {{0, 0}},
		"2:*":                   {{2, 0}},
		"*:2":                   {{0, 2}},
		"1:3":                   {{1, 3}},
		"3:1":                   {{3, 1}},
		"1,2,3":                 {{1, 1}, {2, 2}, {3, 3}},
		"3,1,2":                 {{3, 3}, {1, 1}, {2, 2}},
		"1,1":                   {{1, 1}, {1, 1}},
		"1:5,3:4,4":             {{1, 5}, {3, 4}, {4, 4}},
		"2,4:7,9,12:*":          {{2, 2}, {4, 7}, {9, 9}, {12, 0}},
		"*,*:4,5:7":             {{0, 0}, {0, 4}, {5, 7}},
		"10:9,100":              {{10, 9}, {100, 100}},
		"4294967295":            {{greatest, greatest}},
		"4294967295:4294967294": {{greatest, greatest - 1}},
	} {
		if got, err := Parse(s); err != api.OK || !slices.Equal(got, want) {
			t.Errorf("Parse(%q) = %v, %d, not %v", s, got, err, want)
		}
		if got := Put(want); got != s {
			t.Errorf("Put(%v) = %q, not %q", want, got, s)
		}
		checkParse(t, s)
		checkPut(t, want)
	}
}

// P21.1: the same number twice is told once.
func TestParseTwice(t *testing.T) {
	for s, told := range map[string]string{
		"1:1": "1", "*:*": "*", "7:7,8:8": "7,8", "*:*,1:*,*:1": "*,1:*,*:1", "4294967295:4294967295": "4294967295",
	} {
		got, err := Parse(s)
		if err != api.OK || Put(got) != told {
			t.Errorf("Parse(%q) = %v, %d; told %q, not %q", s, got, err, Put(got), told)
		}
		checkParse(t, s)
	}
}

// P21.1: texts that are none.
func TestParseNone(t *testing.T) {
	for _, s := range []string{
		"", ",", ",,", "1,", ",1", "1,,2", ":", "1:", ":1", "*:", ":*", "::", "1::2", "1:2:3", "1:2:", ":1:2", "*:*:*", "1:2:3,4", "4,1:2:3", "1:,2", "1,:2",
		"0", "0:1", "1:0", "0:*", "*:0", "0:0", "1,0", "0,1", "00", "01", "1:02", "010", "-1", "+1", "1:-1", "1.0", "1e1", "0x1", "1_0", "a", "1a", "a1",
		" ", " 1", "1 ", "1 ,2", "1, 2", "1 :2", "1: 2", "1\t", "1\r\n", "\n1", "1;2", "1-2", "1..2", "**", "*1", "1*", "* ", "%", "$", "(1)", "\"1\"",
		"4294967296", "1:4294967296", "4294967296:1", "*:4294967296", "9999999999", "10000000000", "42949672950", "04294967295", "18446744073709551617", strings.Repeat("1", 1000),
		"\x00", "1\x00", "\x001", "1,\x002", "\xff", "\xd9\xa1", "\xef\xbc\x91", "1\xef\xbc\x8c2", "1\xe2\x88\xb62",
	} {
		if got, err := Parse(s); err != api.ErrSyntax || len(got) != 0 {
			t.Errorf("Parse(%.50q) = %v, %d", s, got, err)
		}
		checkParse(t, s)
	}
}

// P21.1: all short texts of bytes that matter.
func TestParseShort(t *testing.T) {
	eachRow(6, []byte("0129*:, -"), func(row []byte) { checkParse(t, string(row)) })
	eachRow(9, []byte("1*:,"), func(row []byte) { checkParse(t, string(row)) })
}

// P21.1: all short rows of pieces.
func TestParsePieces(t *testing.T) {
	pieces := []string{"*", "7", "10", "4294967295", "4294967296", "0", ":", ","}
	eachRow(5, pieces, func(row []string) { checkParse(t, strings.Join(row, "")) })
	parts := []string{"1", "*", "2:*", "*:3", "5:4", "4294967295:6", "7:7", "", "0:1", "1:2:3"}
	eachRow(4, parts, func(row []string) { checkParse(t, strings.Join(row, ",")) })
}

// P21.1: each byte in each place, instead of the one there, and between.
func TestParseBytes(t *testing.T) {
	for _, s := range []string{"1", "*", "12:*,3", "4294967295,*:20", "9:10,11,12:13"} {
		for at := range len(s) + 1 {
			for c := range 256 {
				checkParse(t, s[:at]+string([]byte{byte(c)})+s[at:])
				if at < len(s) {
					checkParse(t, s[:at]+string([]byte{byte(c)})+s[at+1:])
				}
			}
			checkParse(t, s[:at])
			checkParse(t, s[at:])
		}
	}
}

// P21.1: numbers are those of chars.Number, above 0.
func TestParseNumbers(t *testing.T) {
	for _, n := range edges() {
		for _, ahead := range []string{"", "0", "+", " "} {
			number := ahead + strconv.Itoa(n)
			for _, s := range []string{number, number + ":1", "1:" + number, "*:" + number, number + ":*", number + ":" + number, number + ",1", "1," + number, "2,3:" + number + ",4"} {
				checkParse(t, s)
			}
			_, is := chars.Number(number)
			if _, err := Parse(number); (err == api.OK) != (is && n != 0) {
				t.Errorf("Parse(%q): %d", number, err)
			}
		}
	}
	for digits := 1; digits <= 21; digits++ {
		for _, s := range []string{strings.Repeat("9", digits), "1" + strings.Repeat("0", digits-1), "4294967295"[:min(digits, 10)] + strings.Repeat("0", max(digits-10, 0))} {
			checkParse(t, s)
			checkParse(t, "1:"+s+",2")
		}
	}
}

// P21.1: as many parts as there may be, and one more. ErrSyntax counts ahead of ErrBig.
func TestParseMany(t *testing.T) {
	for _, n := range []int{1, 2, 998, 999, 1000, 1001, 1002, 2000, 70000} {
		want := api.OK
		if n > 1000 {
			want = api.ErrBig
		}
		for _, part := range []string{"1", "*", "2:*", "1:2", "4294967295:4294967295"} {
			s := strings.Repeat(","+part, n)[1:]
			got, err := Parse(s)
			if err != want || want == api.OK && len(got) != n || want != api.OK && got != nil {
				t.Errorf("%d parts of %s: %d of them, %d", n, part, len(got), err)
			}
			checkParse(t, s)
			for _, wrong := range []string{s + ",", "," + s, s + ",0", "0," + s, s + ":1:1", s + " ", s + ",," + s, s + ",4294967296"} {
				if got, err := Parse(wrong); err != api.ErrSyntax || len(got) != 0 {
					t.Errorf("%d parts of %s, and a wrong one: %d of them, %d", n, part, len(got), err)
				}
			}
		}
	}
	// A : makes no more parts.
	checkParse(t, strings.Repeat("1:2,", 999)+"3:4")
	checkParse(t, strings.Repeat("1:2,", 500)+strings.Repeat("7,", 500)+"*")
}

// P21.1: numbers below 1 are the last one; From and To are held against each other as they stand.
func TestPut(t *testing.T) {
	for _, c := range []struct {
		l    []Range
		want string
	}{
		{nil, ""},
		{[]Range{}, ""},
		{[]Range{{}}, "*"},
		{[]Range{{-1, -1}}, "*"},
		{[]Range{{-1, 0}}, "*:*"},
		{[]Range{{0, -1}}, "*:*"},
		{[]Range{{-1, 1}}, "*:1"},
		{[]Range{{1, -1}}, "1:*"},
		{[]Range{{math.MinInt, math.MinInt}, {math.MinInt, math.MaxInt}}, "*,*:9223372036854775807"},
		{[]Range{{5, 5}, {5, 6}, {6, 5}, {6, 6}}, "5,5:6,6:5,6"},
		{[]Range{{greatest + 1, greatest + 1}, {1, greatest + 2}}, "4294967296,1:4294967297"},
		{[]Range{{1, 1}, {1, 1}, {1, 1}}, "1,1,1"},
	} {
		if got := Put(c.l); got != c.want {
			t.Errorf("Put(%v) = %q, not %q", c.l, got, c.want)
		}
		checkPut(t, c.l)
	}
	checkPut(t, slices.Repeat([]Range{{1, 2}, {0, 0}}, 5000))
	eachRow(2, ranges(edges()), func(row []Range) { checkPut(t, row) })
	eachRow(3, ranges([]int{-1, 0, 1, 2}), func(row []Range) { checkPut(t, row) })
}

// P21.2: numbers within a range, at its ends, and beyond them.
func TestHas(t *testing.T) {
	for _, c := range []struct {
		set   string
		last  int
		yes   []int
		never []int
	}{
		{"3", 9, []int{3}, []int{2, 4, 0, -3, 9}},
		{"3:5", 9, []int{3, 4, 5}, []int{2, 6, 0, 9}},
		{"5:3", 9, []int{3, 4, 5}, []int{2, 6, 0, 9}},
		{"*", 9, []int{9}, []int{8, 10, 0, 1}},
		{"*:*", 9, []int{9}, []int{8, 10, 0, 1}},
		{"7:*", 9, []int{7, 8, 9}, []int{6, 10, 0}},
		{"*:7", 9, []int{7, 8, 9}, []int{6, 10, 0}},
		{"12:*", 9, []int{9, 10, 11, 12}, []int{8, 13, 0}},
		{"*:12", 9, []int{9, 10, 11, 12}, []int{8, 13, 0}},
		{"9:*", 9, []int{9}, []int{8, 10}},
		{"1,4:5,8:*", 9, []int{1, 4, 5, 8, 9}, []int{0, 2, 3, 6, 7, 10}},
		{"2:*", 0, []int{0, 1, 2}, []int{-1, 3}},
		{"*", 0, []int{0}, []int{1, -1}},
		{"*:1", -2, []int{-2, -1, 0, 1}, []int{-3, 2}},
		{"4294967295:*", 1, []int{1, 2, 1 << 31, greatest}, []int{0, greatest + 1}},
		{"*", math.MaxInt, []int{math.MaxInt}, []int{math.MaxInt - 1, 0, -1, math.MinInt}},
		{"1:*", math.MinInt, []int{math.MinInt, -1, 0, 1}, []int{2, math.MaxInt}},
	} {
		l, _ := Parse(c.set)
		for i, n := range append(slices.Clone(c.yes), c.never...) {
			if got := Has(l, n, c.last); got != (i < len(c.yes)) {
				t.Errorf("Has(%s, %d, %d) = %v", c.set, n, c.last, got)
			}
			checkHas(t, l, n, c.last)
		}
	}
	for _, n := range edges() {
		if Has(nil, n, n) || Has([]Range{}, n, n) {
			t.Errorf("a set without ranges has %d", n)
		}
	}
}

// P21.2: all small ranges, and those of the edges; numbers below 0 are the last one, too.
func TestHasAll(t *testing.T) {
	small := []int{-3, -2, -1, 0, 1, 2, 3, 4, 5}
	for _, last := range small {
		for _, n := range small {
			eachRow(2, ranges(small), func(row []Range) { checkHas(t, row, n, last) })
		}
	}
	for _, last := range edges() {
		for _, n := range edges() {
			eachRow(1, ranges(edges()), func(row []Range) { checkHas(t, row, n, last) })
		}
	}
}

// P21.2: a range has those that are told by counting from the one of its numbers to the other.
func TestHasCounted(t *testing.T) {
	for from := -2; from <= 7; from++ {
		for to := -2; to <= 7; to++ {
			for last := 1; last <= 7; last++ {
				var counted [20]bool
				at, end := from, to
				if at < 1 {
					at = last
				}
				if end < 1 {
					end = last
				}
				for step := 1; ; at += step {
					counted[at] = true
					if at == end {
						break
					}
					if end < at {
						step = -1
					}
				}
				for n := range counted {
					if got := Has([]Range{{from, to}}, n, last); got != counted[n] {
						t.Fatalf("Has({%d %d}, %d, %d) = %v", from, to, n, last, got)
					}
				}
			}
		}
	}
}

// P21.2: those of numbers, as they stand.
func TestOf(t *testing.T) {
	five := []int{1, 2, 3, 4, 5}
	for _, c := range []struct {
		set           string
		numbers, want []int
	}{
		{"2:*", five, []int{2, 3, 4, 5}},
		{"*:2", five, []int{2, 3, 4, 5}},
		{"*", five, []int{5}},
		{"1:*", five, five},
		{"9", five, nil},
		{"9:*", five, []int{5}},
		{"*:9", five, []int{5}},
		{"4:2", five, []int{2, 3, 4}},
		{"5,3,1", five, []int{1, 3, 5}},
		{"2:3,3:4,3", five, []int{2, 3, 4}},
		{"*,1", five, []int{1, 5}},
		{"*", nil, nil},
		{"1:4294967295", nil, nil},
		{"1:*", []int{7}, []int{7}},
		{"*", []int{7}, []int{7}},
		{"8:*", []int{7}, []int{7}},
		{"2:*", []int{3, 8, 20}, []int{3, 8, 20}},
		{"8:19", []int{3, 8, 20}, []int{8}},
		{"4:7", []int{3, 8, 20}, nil},
		{"9:*", []int{3, 8, 20}, []int{20}},
		{"30:*", []int{3, 8, 20}, []int{20}},
		{"*:4294967295", []int{3, 8, greatest}, []int{greatest}},
		// These don't rise: the last one is that which stands last.
		{"*", []int{5, 3}, []int{3}},
		{"4:*", []int{9, 4, 2, 3}, []int{4, 3}},
		{"1:3", []int{3, 1, 2, 3, 4, 1}, []int{3, 1, 2, 3, 1}},
	} {
		l, err := Parse(c.set)
		if err != api.OK {
			t.Fatalf("Parse(%q): %d", c.set, err)
		}
		if got := Of(l, c.numbers); !slices.Equal(got, c.want) {
			t.Errorf("Of(%s, %v) = %v, not %v", c.set, c.numbers, got, c.want)
		}
		checkOf(t, l, c.numbers)
	}
	if got := Of(nil, five); len(got) != 0 {
		t.Errorf("a set without ranges has %v", got)
	}
	if got := Of([]Range{}, []int{0}); len(got) != 0 {
		t.Errorf("a set without ranges has %v", got)
	}
}

// P21.2: all short rows of numbers, with sets of all kinds.
func TestOfAll(t *testing.T) {
	small := ranges([]int{-1, 0, 1, 2, 4})
	eachRow(4, []int{-1, 0, 1, 2, 3, 5}, func(numbers []int) {
		eachRow(1, small, func(l []Range) { checkOf(t, l, numbers) })
	})
	eachRow(2, edges(), func(numbers []int) {
		eachRow(1, ranges(edges()), func(l []Range) { checkOf(t, l, numbers) })
	})
	r := rand.New(rand.NewSource(21))
	for range 5000 {
		l := make([]Range, r.Intn(6))
		for i := range l {
			l[i] = Range{r.Intn(60) - 5, r.Intn(60) - 5}
		}
		numbers := rising(r, r.Intn(40), 3)
		checkOf(t, l, numbers)
		r.Shuffle(len(numbers), func(i, k int) { numbers[i], numbers[k] = numbers[k], numbers[i] })
		checkOf(t, l, numbers)
	}
}

// rising are so many numbers above 0, each at most so much more than the one ahead.
func rising(r *rand.Rand, count, most int) []int {
	numbers := make([]int, count)
	at := 0
	for i := range numbers {
		at += 1 + r.Intn(most)
		numbers[i] = at
	}
	return numbers
}

// P21.3: numbers that follow one another stand in one range.
func TestRow(t *testing.T) {
	for _, c := range []struct {
		numbers []int
		want    []Range
	}{
		{nil, nil},
		{[]int{}, nil},
		{[]int{1}, []Range{{1, 1}}},
		{[]int{1, 2, 3}, []Range{{1, 3}}},
		{[]int{1, 3}, []Range{{1, 1}, {3, 3}}},
		{[]int{2, 3, 5, 7, 8, 9}, []Range{{2, 3}, {5, 5}, {7, 9}}},
		{[]int{1, 1}, []Range{{1, 1}, {1, 1}}},
		{[]int{1, 2, 2, 3}, []Range{{1, 2}, {2, 3}}},
		{[]int{3, 2, 1}, []Range{{3, 3}, {2, 2}, {1, 1}}},
		{[]int{4, 5, 1, 2, 6}, []Range{{4, 5}, {1, 2}, {6, 6}}},
		{[]int{1, 3, 2}, []Range{{1, 1}, {3, 3}, {2, 2}}},
		{[]int{-2, -1, 0, 1, 2}, []Range{{-2, 2}}},
		{[]int{0}, []Range{{0, 0}}},
		{[]int{greatest - 1, greatest, greatest + 1}, []Range{{greatest - 1, greatest + 1}}},
		{[]int{math.MaxInt - 1, math.MaxInt}, []Range{{math.MaxInt - 1, math.MaxInt}}},
		// No number is one more than the greatest one.
		{[]int{math.MaxInt, math.MinInt}, []Range{{math.MaxInt, math.MaxInt}, {math.MinInt, math.MinInt}}},
		{[]int{math.MinInt, math.MaxInt}, []Range{{math.MinInt, math.MinInt}, {math.MaxInt, math.MaxInt}}},
		{[]int{math.MinInt, math.MinInt + 1}, []Range{{math.MinInt, math.MinInt + 1}}},
	} {
		if got := Row(c.numbers); !slices.Equal(got, c.want) {
			t.Errorf("Row(%v) = %v, not %v", c.numbers, got, c.want)
		}
		checkRow(t, c.numbers)
	}
}

// P21.3: all short rows of numbers, and more ranges than a text may have.
func TestRowAll(t *testing.T) {
	eachRow(6, []int{-1, 0, 1, 2, 3, 4}, func(numbers []int) { checkRow(t, numbers) })
	eachRow(3, edges(), func(numbers []int) { checkRow(t, numbers) })
	var odd, all []int
	for i := range 3000 {
		odd, all = append(odd, 2*i+1), append(all, i+1)
	}
	checkRow(t, odd)
	checkRow(t, all)
	if got := len(Row(odd)); got != 3000 {
		t.Errorf("Row of 3000 odd numbers: %d ranges", got)
	}
}

// P21.4: what is put is parsed.
func TestPutParsed(t *testing.T) {
	numbers := []int{0, 1, 2, 9, 10, 1 << 31, greatest - 1, greatest}
	eachRow(2, ranges(numbers), func(l []Range) { checkBack(t, l) })
	r := rand.New(rand.NewSource(214))
	for _, n := range []int{3, 10, 999, 1000} {
		for range 50 {
			l := make([]Range, n)
			for i := range l {
				l[i] = Range{drawn(r, 0, 1, 5, r.Intn(100), r.Intn(greatest+1)), drawn(r, 0, 1, 5, r.Intn(100), r.Intn(greatest+1))}
			}
			checkBack(t, l)
		}
	}
	// One range more is told, but isn't taken.
	if got, err := Parse(Put(slices.Repeat([]Range{{1, 2}}, 1001))); err != api.ErrBig || len(got) != 0 {
		t.Errorf("1001 ranges: %d read back, %d", len(got), err)
	}
	// All below 0 is the last one as 0 is: it is read back as that.
	if got, err := Parse(Put([]Range{{-1, 3}, {-5, -6}})); err != api.OK || !slices.Equal(got, []Range{{0, 3}, {0, 0}}) {
		t.Errorf("numbers below 0: %v, %d", got, err)
	}
}

// checkBack holds a set that is put and parsed against itself.
func checkBack(t *testing.T, l []Range) {
	t.Helper()
	checkPut(t, l)
	if len(l) == 0 {
		return
	}
	if got, err := Parse(Put(l)); err != api.OK || !slices.Equal(got, l) {
		t.Fatalf("Parse(Put(%v)) = %v, %d", some(l), some(got), err)
	}
}

// P21.4: Row of rising numbers has just these, whatever the last one is, and as it is read back.
func TestRowHas(t *testing.T) {
	const most = 12
	for bits := range 1 << most {
		var numbers, none []int
		for n := 1; n <= most; n++ {
			if bits>>(n-1)&1 == 1 {
				numbers = append(numbers, n)
			} else {
				none = append(none, n)
			}
		}
		l := Row(numbers)
		for _, last := range []int{0, 1, most, most + 5} {
			for n := -1; n <= most+1; n++ {
				if got := Has(l, n, last); got != slices.Contains(numbers, n) {
					t.Fatalf("Row(%v) = %v, Has(%d, %d) = %v", numbers, l, n, last, got)
				}
			}
		}
		if got := Of(l, numbers); !slices.Equal(got, numbers) {
			t.Fatalf("Of(Row(%v)) = %v", numbers, got)
		}
		if got := Of(l, none); len(got) != 0 {
			t.Fatalf("Row(%v) has %v", numbers, got)
		}
		if len(numbers) > 0 {
			checkBack(t, l)
		}
	}
}

// P21.4: so of long rows, too.
func TestRowLong(t *testing.T) {
	r := rand.New(rand.NewSource(213))
	for range 200 {
		numbers := rising(r, r.Intn(1000), 1+r.Intn(4))
		l := Row(numbers)
		checkRow(t, numbers)
		if got := Of(l, numbers); !slices.Equal(got, numbers) {
			t.Fatalf("Of(Row(%v)) = %v", some(numbers), some(got))
		}
		checkBack(t, l)
		all := make([]int, 5000)
		for i := range all {
			all[i] = i
		}
		if got := Of(l, all); !slices.Equal(got, numbers) {
			t.Fatalf("Row(%v) has %v", some(numbers), some(got))
		}
	}
}

// The same calls have the same answers, and what is answered shares nothing.
func TestNewMemory(t *testing.T) {
	first, _ := Parse("1,2:3,*")
	second, _ := Parse("1,2:3,*")
	first[0], first[2] = Range{9, 9}, Range{8, 8}
	if want := []Range{{1, 1}, {2, 3}, {0, 0}}; !slices.Equal(second, want) {
		t.Errorf("Parse: %v, not %v", second, want)
	}
	numbers := []int{1, 2, 5}
	one, other := Row(numbers), Row(numbers)
	one[0] = Range{7, 7}
	if want := []Range{{1, 2}, {5, 5}}; !slices.Equal(other, want) {
		t.Errorf("Row: %v, not %v", other, want)
	}
	all := []Range{{1, 9}}
	some, others := Of(all, numbers), Of(all, numbers)
	some[0] = 7
	if !slices.Equal(others, numbers) || !slices.Equal(numbers, []int{1, 2, 5}) {
		t.Errorf("Of: %v of %v", others, numbers)
	}
}
