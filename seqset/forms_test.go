package seqset

import (
	"fmt"
	"math/big"
	"math/rand"
	"regexp"
	"slices"
	"strconv"
	"strings"
	"testing"

	"letterbox/api"
)

// These are forms of what the functions should answer: texts are held against regular expressions, numbers have no greatest one, and a range's numbers are counted one by one where they are few.

const greatest = 4294967295

var (
	setForm    = regexp.MustCompile(`\A([1-9][0-9]{0,9}|\*)(:([1-9][0-9]{0,9}|\*))?(,([1-9][0-9]{0,9}|\*)(:([1-9][0-9]{0,9}|\*))?)*\z`)
	digitsForm = regexp.MustCompile(`[0-9]+`)
	lowForm    = regexp.MustCompile(`-[0-9]+|\b0\b`)
)

// parseWanted is what Parse should answer.
func parseWanted(s string) ([]Range, api.Errno) {
	if !setForm.MatchString(s) {
		return nil, api.ErrSyntax
	}
	for _, digits := range digitsForm.FindAllString(s, -1) {
		// Of ten digits each, the one that rises above the other is the greater.
		if len(digits) == 10 && digits > "4294967295" {
			return nil, api.ErrSyntax
		}
	}
	if strings.Count(s, ",") > 999 {
		return nil, api.ErrBig
	}
	var l []Range
	for _, part := range strings.Split(strings.ReplaceAll(s, "*", "0"), ",") {
		from, to, isTwo := strings.Cut(part, ":")
		if !isTwo {
			to = from
		}
		l = append(l, Range{int(numberWanted(from)), int(numberWanted(to))})
	}
	return l, api.OK
}

// numberWanted is the number of digits.
func numberWanted(digits string) uint64 {
	n, err := strconv.ParseUint(digits, 10, 32)
	if err != nil {
		panic(err)
	}
	return n
}

// putWanted is what Put should answer: all numbers are told first, and then those that are the last one.
func putWanted(l []Range) string {
	told := ""
	for _, r := range l {
		if r.From == r.To {
			told += fmt.Sprintf(",%d", r.From)
		} else {
			told += fmt.Sprintf(",%d:%d", r.From, r.To)
		}
	}
	return lowForm.ReplaceAllString(strings.TrimPrefix(told, ","), "*")
}

// hasWanted is what Has should answer: of three numbers that rise, the middle one is within the others.
func hasWanted(l []Range, n, last int) bool {
	return slices.IndexFunc(l, func(r Range) bool {
		three := []int{r.From, r.To, n}
		for i := range 2 {
			if three[i] <= 0 {
				three[i] = last
			}
		}
		slices.Sort(three)
		return three[1] == n
	}) >= 0
}

// ofWanted is what Of should answer.
func ofWanted(l []Range, numbers []int) []int {
	left := slices.Clone(numbers)
	return slices.DeleteFunc(left, func(n int) bool { return !hasWanted(l, n, numbers[len(numbers)-1]) })
}

// rowWanted is what Row should answer: ranges end where the next number isn't one more.
func rowWanted(numbers []int) []Range {
	var l []Range
	from := 0
	for i := range numbers {
		if i == len(numbers)-1 || big.NewInt(0).Sub(big.NewInt(int64(numbers[i+1])), big.NewInt(int64(numbers[i]))).Cmp(big.NewInt(1)) != 0 {
			l = append(l, Range{numbers[from], numbers[i]})
			from = i + 1
		}
	}
	return l
}

// checkParse holds Parse of a text against what is wanted; what goes is told by Put and read back.
func checkParse(t *testing.T, s string) {
	t.Helper()
	got, err := Parse(s)
	want, wantErr := parseWanted(s)
	if err != wantErr || !slices.Equal(got, want) {
		t.Fatalf("Parse(%.200q) = %v, %d, not %v, %d", s, some(got), err, some(want), wantErr)
	}
	if err != api.OK {
		return
	}
	again, err := Parse(Put(got))
	if err != api.OK || !slices.Equal(again, got) {
		t.Fatalf("Parse(%.200q) = %v; read back %v, %d", s, some(got), some(again), err)
	}
}

// checkPut holds Put of a set against what is wanted.
func checkPut(t *testing.T, l []Range) {
	t.Helper()
	kept := slices.Clone(l)
	if got, want := Put(l), putWanted(l); got != want {
		t.Fatalf("Put(%v) = %.200q, not %.200q", some(l), got, want)
	}
	if !slices.Equal(l, kept) {
		t.Fatalf("Put changed %v into %v", some(kept), some(l))
	}
}

// checkHas holds Has against what is wanted.
func checkHas(t *testing.T, l []Range, n, last int) {
	t.Helper()
	kept := slices.Clone(l)
	if got, want := Has(l, n, last), hasWanted(l, n, last); got != want {
		t.Fatalf("Has(%v, %d, %d) = %v", some(l), n, last, got)
	}
	if !slices.Equal(l, kept) {
		t.Fatalf("Has changed %v into %v", some(kept), some(l))
	}
}

// checkOf holds Of against what is wanted, and against Has. What is answered is new memory.
func checkOf(t *testing.T, l []Range, numbers []int) {
	t.Helper()
	keptSet, kept := slices.Clone(l), slices.Clone(numbers)
	got, want := Of(l, numbers), ofWanted(l, numbers)
	if !slices.Equal(got, want) {
		t.Fatalf("Of(%v, %v) = %v, not %v", some(l), some(kept), some(got), some(want))
	}
	for i := range got {
		got[i] = -77
	}
	if !slices.Equal(l, keptSet) || !slices.Equal(numbers, kept) {
		t.Fatalf("Of(%v, %v) changed them, or shares their memory", some(keptSet), some(kept))
	}
}

// checkRow holds Row against what is wanted. What is answered is new memory.
func checkRow(t *testing.T, numbers []int) {
	t.Helper()
	kept := slices.Clone(numbers)
	if got, want := Row(numbers), rowWanted(numbers); !slices.Equal(got, want) {
		t.Fatalf("Row(%v) = %v, not %v", some(kept), some(got), some(want))
	}
	if !slices.Equal(numbers, kept) {
		t.Fatalf("Row changed %v into %v", some(kept), some(numbers))
	}
}

// some are a list's first things: a failure's line isn't to be too long.
func some[T any](l []T) []T { return l[:min(len(l), 20)] }

// eachRow tells all rows of at most so many of some things.
func eachRow[T any](most int, of []T, tell func(row []T)) {
	var rows func(row []T)
	rows = func(row []T) {
		tell(row)
		for _, one := range of {
			if len(row) < most {
				rows(append(row[:len(row):len(row)], one))
			}
		}
	}
	rows(nil)
}

// ranges are all of two of some numbers.
func ranges(numbers []int) []Range {
	var all []Range
	for _, from := range numbers {
		for _, to := range numbers {
			all = append(all, Range{from, to})
		}
	}
	return all
}

// drawn is one of some things.
func drawn[T any](r *rand.Rand, all ...T) T { return all[r.Intn(len(all))] }
