package wire

import (
	"bytes"
	"math/rand"
	"slices"
	"strings"
	"testing"
)

// goes, bad and cmd are events.
var goes, bad = told{kind: 1}, told{kind: 3}

func cmd(text string) told { return told{2, text} }

// P18.3: what comes of pieces, one by one.
func TestFeed(t *testing.T) {
	for _, c := range []struct {
		pieces []string
		want   []told
		left   int
	}{
		{[]string{""}, nil, 0},
		{[]string{"a"}, nil, 1},
		{[]string{"\r\n"}, []told{cmd("")}, 0},
		{[]string{"\n\n"}, []told{cmd(""), cmd("")}, 0},
		{[]string{"a noop\r\n"}, []told{cmd("a noop")}, 0},
		{[]string{"a\nb\r\nc"}, []told{cmd("a"), cmd("b")}, 1},
		{[]string{"a\r\r\n"}, []told{cmd("a\r")}, 0},
		{[]string{"a\r", "b\r", "\n"}, []told{cmd("a\rb")}, 0},
		{[]string{"a\x00\xff\r\n"}, []told{cmd("a\x00\xff")}, 0},
		// Literals that are asked for, once for each place, and just if nothing stands behind it.
		{[]string{"a {1}\r\n", "b c\r\n"}, []told{goes, cmd("a {1}\r\nb c")}, 0},
		{[]string{"a {1}\r\n"}, []told{goes}, 7},
		{[]string{"a {1}\r\n", "", ""}, []told{goes}, 7},
		{[]string{"a {1}\r\nb"}, nil, 8},
		{[]string{"a {1}\r\nb", "", "\r\n"}, []told{cmd("a {1}\r\nb")}, 0},
		{[]string{"a {1}\r", "\n", "b", "\r", "\n"}, []told{goes, cmd("a {1}\r\nb")}, 0},
		{[]string{"a {1}\n", "b\n"}, []told{goes, cmd("a {1}\nb")}, 0},
		{[]string{"a ~{1}\r\n", "\x00\r\n"}, []told{goes, cmd("a ~{1}\r\n\x00")}, 0},
		{[]string{"{1}\r\n", "{1}\r\n"}, []told{goes, cmd("{1}\r\n{1}")}, 0},
		{[]string{"{5}\r\n", "{1}\r\n"}, []told{goes}, 10},
		{[]string{"{5}\r\n", "{1}\r\n", "{1}\r\n"}, []told{goes, goes}, 15},
		{[]string{"a {1}\r\n", "b{1}\r\n", "c\r\n"}, []told{goes, goes, cmd("a {1}\r\nb{1}\r\nc")}, 0},
		{[]string{"a {1}\r\nb{1}\r\n", "c\r\n"}, []told{goes, cmd("a {1}\r\nb{1}\r\nc")}, 0},
		{[]string{"x\r\na {1}\r\n"}, []told{cmd("x"), goes}, 7},
		{[]string{"a {0}\r\n", "\r\n"}, []told{goes, cmd("a {0}\r\n")}, 0},
		{[]string{"a {0}\r\n\r\n"}, []told{cmd("a {0}\r\n")}, 0},
		{[]string{"a {0}\r\n", "{0}\r\n", "{0}\r\n", "b\r\n"}, []told{goes, goes, goes, cmd("a {0}\r\n{0}\r\n{0}\r\nb")}, 0},
		// Literals that come unasked.
		{[]string{"a {1+}\r\n", "b\r\n"}, []told{cmd("a {1+}\r\nb")}, 0},
		{[]string{"a ~{1+}\r\n"}, nil, 9},
		{[]string{"a {0+}\r\n"}, nil, 8},
		{[]string{"a {3+}\r\nb\r\n c\r\n"}, []told{cmd("a {3+}\r\nb\r\n c")}, 0},
		{[]string{"a {1+}\r\nb{1}\r\n", "c\r\n"}, []told{goes, cmd("a {1+}\r\nb{1}\r\nc")}, 0},
		// A literal's bytes are no line, nor a part of one.
		{[]string{"{1}\r\n", "\r\n"}, []told{goes, cmd("{1}\r\n\r")}, 0},
		{[]string{"{2}\r\n", "\r\n"}, []told{goes}, 7},
		{[]string{"{1}\r\n\r\n"}, []told{cmd("{1}\r\n\r")}, 0},
		{[]string{"{1}\r\n\n\n"}, []told{cmd("{1}\r\n\n")}, 0},
		{[]string{"{2}\r\n\r\n\r\n"}, []told{cmd("{2}\r\n\r\n")}, 0},
		{[]string{"{1}\r\n{1}\r\n"}, []told{cmd("{1}\r\n{1}")}, 0},
		{[]string{"{2}\r\n{1}\r\n"}, []told{cmd("{2}\r\n{1}")}, 0},
		// What is no head at a line's end.
		{[]string{"a {1} \r\n"}, []told{cmd("a {1} ")}, 0},
		{[]string{"a {1}b\r\n"}, []told{cmd("a {1}b")}, 0},
		{[]string{"a {1}\r\r\n"}, []told{cmd("a {1}\r")}, 0},
		{[]string{"a {01}\r\n"}, []told{cmd("a {01}")}, 0},
		{[]string{"a {}\r\n"}, []told{cmd("a {}")}, 0},
		{[]string{"a {+}\r\n"}, []told{cmd("a {+}")}, 0},
		{[]string{"a {1++}\r\n"}, []told{cmd("a {1++}")}, 0},
		{[]string{"a {-1}\r\n"}, []told{cmd("a {-1}")}, 0},
		{[]string{"a 1}\r\n"}, []told{cmd("a 1}")}, 0},
		{[]string{"a {1\r\n"}, []told{cmd("a {1")}, 0},
		{[]string{"a {\r\n1}\r\n"}, []told{cmd("a {"), cmd("1}")}, 0},
		{[]string{"}\r\n"}, []told{cmd("}")}, 0},
		// What is one, whatever stands ahead.
		{[]string{"{0}\n"}, []told{goes}, 4},
		{[]string{"{{0}\n"}, []told{goes}, 5},
		{[]string{"{1}{0}\n"}, []told{goes}, 7},
		{[]string{"~~{0}\n"}, []told{goes}, 6},
		{[]string{`"{0}` + "\n"}, []told{goes}, 5},
		{[]string{"\x00\xff\r{0}\n"}, []told{goes}, 7},
		// Numbers that are too great, and greater ones, that are none.
		{[]string{"a {67108864}\r\n"}, []told{goes}, 14},
		{[]string{"a {67108865}\r\n"}, []told{bad}, 0},
		{[]string{"a {67108865+}\r\n"}, []told{bad}, 0},
		{[]string{"a ~{67108865}\n"}, []told{bad}, 0},
		{[]string{"a {4294967295}\r\n"}, []told{bad}, 0},
		{[]string{"a {4294967296}\r\n"}, []told{cmd("a {4294967296}")}, 0},
		{[]string{"a {99999999999999999999}\r\n"}, []told{cmd("a {99999999999999999999}")}, 0},
		{[]string{"a {67108865}\r"}, nil, 13},
		{[]string{"a {67108865} b\r\n"}, []told{cmd("a {67108865} b")}, 0},
		{[]string{"{12}\r\n", "{67108865}\r\n", "\r\n"}, []told{goes, cmd("{12}\r\n{67108865}\r\n")}, 0},
		{[]string{"{1}\r\n", "b{67108865}\r\n"}, []told{goes, bad}, 0},
		// All that waits is gone, also what stands behind; what comes then is a command of its own.
		{[]string{"a\r\nb {67108865}\r\nc\r\nd {1}\r\n"}, []told{cmd("a"), bad}, 0},
		{[]string{"{67108865}\r\n", "c\r\n", "d"}, []told{bad, cmd("c")}, 1},
		{[]string{"{0}\r\n{67108865}\r\n", "{0}\r\n", "\r\n"}, []told{bad, goes, cmd("{0}\r\n")}, 0},
	} {
		var f Framer
		var got []told
		for _, piece := range c.pieces {
			got = append(got, toldOf(f.Feed([]byte(piece)))...)
		}
		if !slices.Equal(got, c.want) || f.Left() != c.left {
			t.Errorf("Feed of %q: %s, and %d wait, not %s, and %d", c.pieces, shown(got), f.Left(), shown(c.want), c.left)
		}
		checkFeed(t, c.pieces...)
	}
}

// P18.3: the lines of a command have at most MaxLine bytes together, their ends among them, literals not.
func TestMaxLine(t *testing.T) {
	const most = 1 << 16
	a := func(n int) string { return strings.Repeat("a", n) }
	for _, c := range []struct {
		pieces []string
		want   []told
		left   int
	}{
		{[]string{a(most-1) + "\n"}, []told{cmd(a(most - 1))}, 0},
		{[]string{a(most-2) + "\r\n"}, []told{cmd(a(most - 2))}, 0},
		{[]string{a(most) + "\n"}, []told{bad}, 0},
		{[]string{a(most-1) + "\r\n"}, []told{bad}, 0},
		{[]string{a(most)}, nil, most},
		{[]string{a(most), "\n"}, []told{bad}, 0},
		// A line that has too many bytes needn't end.
		{[]string{a(most + 1)}, []told{bad}, 0},
		{[]string{a(most), "a"}, []told{bad}, 0},
		{[]string{a(most - 1), "\r", "\n"}, []told{bad}, 0},
		{[]string{a(1 << 20)}, []told{bad}, 0},
		{[]string{a(1<<20) + "\nb\n"}, []told{bad}, 0},
		{[]string{a(most + 1), "b\n"}, []told{bad, cmd("b")}, 0},
		{[]string{a(most+1) + "\n", a(most-1) + "\n"}, []told{bad, cmd(a(most - 1))}, 0},
		// Each command has as many.
		{[]string{a(most-1) + "\n" + a(most-1) + "\n" + a(most)}, []told{cmd(a(most - 1)), cmd(a(most - 1))}, most},
		{[]string{a(most-1) + "\n" + a(most) + "\nb\n"}, []told{cmd(a(most - 1)), bad}, 0},
		// All lines of one count.
		{[]string{"{1}\r\n", "b" + a(most-6) + "\n"}, []told{goes, cmd("{1}\r\nb" + a(most-6))}, 0},
		{[]string{"{1}\r\n", "b" + a(most-5) + "\n"}, []told{goes, bad}, 0},
		{[]string{"{1}\r\n", "b" + a(most-5)}, []told{goes}, most + 1},
		{[]string{"{1}\r\n", "b" + a(most-4)}, []told{goes, bad}, 0},
		{[]string{a(most-5) + "{0}\r\n"}, []told{goes}, most},
		{[]string{a(most-5) + "{0}\r\n", "\n"}, []told{goes, bad}, 0},
		{[]string{a(most-5) + "{1}\r\n", "b"}, []told{goes}, most + 1},
		{[]string{a(most-4) + "{0}\r\n"}, []told{bad}, 0},
		{[]string{a(most-6) + "{0+}\r\n"}, nil, most},
		{[]string{a(most-5) + "{0+}\r\n"}, []told{bad}, 0},
		{[]string{strings.Repeat("{0+}\n", most/5) + "\n"}, []told{cmd(strings.Repeat("{0+}\n", most/5))}, 0},
		{[]string{strings.Repeat("{0+}\n", most/5) + "a\n"}, []told{bad}, 0},
		// Literals don't.
		{[]string{"{1048576}\r\n" + a(1<<20) + "b\n"}, []told{cmd("{1048576}\r\n" + a(1<<20) + "b")}, 0},
		{[]string{"{65536}\r\n", a(most) + a(most-10) + "\n"}, []told{goes, cmd("{65536}\r\n" + a(most) + a(most-10))}, 0},
		{[]string{"{65536}\r\n", a(most) + a(most-9) + "\n"}, []told{goes, bad}, 0},
	} {
		var f Framer
		var got []told
		for _, piece := range c.pieces {
			got = append(got, toldOf(f.Feed([]byte(piece)))...)
		}
		if !slices.Equal(got, c.want) || f.Left() != c.left {
			t.Errorf("Feed of %.60q: %s, and %d wait, not %s, and %d", c.pieces, shown(got), f.Left(), shown(c.want), c.left)
		}
		checkFeed(t, c.pieces...)
	}
}

// P18.3, P18.4: a literal of as many bytes as there may be, and more such in one command, in pieces.
func TestMaxMessage(t *testing.T) {
	const most = 1 << 26
	body := bytes.Repeat([]byte("{1}\r\n\x00\xffb"), most/8)
	var f Framer
	if got := toldOf(f.Feed([]byte("a {67108864}\r\n"))); !slices.Equal(got, []told{goes}) {
		t.Fatalf("a great literal: %s", shown(got))
	}
	for from := 0; from < most; from += 1 << 20 {
		if got := f.Feed(body[from : from+1<<20]); len(got) > 0 {
			t.Fatalf("at %d of a great literal: %d events", from, len(got))
		}
	}
	if got := toldOf(f.Feed([]byte(" {67108864+}\r\n"))); len(got) > 0 || f.Left() != most+28 {
		t.Fatalf("behind a great literal: %s, and %d wait", shown(got), f.Left())
	}
	f.Feed(body)
	got := f.Feed([]byte("\r\n"))
	if len(got) != 1 || got[0].Kind != Cmd || f.Left() != 0 {
		t.Fatalf("behind two great literals: %d events, and %d wait", len(got), f.Left())
	}
	want := slices.Concat([]byte("a {67108864}\r\n"), body, []byte(" {67108864+}\r\n"), body)
	if !bytes.Equal(got[0].Bytes, want) {
		t.Fatalf("a great command has %d bytes, not those that came", len(got[0].Bytes))
	}
}

// P18.3, P18.4: all short rows of pieces, as they come, in one, and byte by byte.
func TestStreams(t *testing.T) {
	for _, pieces := range [][]string{
		{"a", "\r", "\n", "{", "1", "+", "}"},
		{"b", "\r\n", "\n", "{1}\r\n", "{0}\n", "~{2+}\r\n", "{", "3}\r\n"},
		{"\r", "\n", "{2}", "{1+}\n", "c{67108865}", "{67108864}\r\n", "{01}\n"},
	} {
		eachRow(5, pieces, func(row []string) {
			checkCuts(t, strings.Join(row, ""), row)
		})
	}
}

// P18.4: each text by all its cuts.
func TestAllCuts(t *testing.T) {
	for _, text := range []string{
		"a b\r\nc\n\r\n",
		"{1}\r\nb{0}\n\n",
		"{3+}\r\n\r\n\r\r\nx",
		"~{4}\n{0}\n{0}\n\r\n",
		"{{1}\r\n{1}\r\n\n",
	} {
		for cuts := range 1 << (len(text) - 1) {
			var pieces []string
			from := 0
			for at := 1; at < len(text); at++ {
				if cuts>>(at-1)&1 == 1 {
					pieces = append(pieces, text[from:at])
					from = at
				}
			}
			checkCuts(t, text, append(pieces, text[from:]))
		}
	}
}

// P18.3, P18.4: long streams, by cuts that are drawn.
func TestDrawn(t *testing.T) {
	r := rand.New(rand.NewSource(3))
	pieces := []string{"a", "b c", " ", "\r\n", "\n", "\r", "\x00", "{3}\r\n", "~{0}\r\n", "{12+}\n", "{40}\r\n", "{", "1}", "+}", "{2}", allBytes()}
	for n := range 400 {
		text := strings.Join(drawn(r, pieces, n%50), "")
		var cuts []string
		for rest := text; rest != ""; {
			size := 1 + r.Intn(min(len(rest), 50))
			cuts = append(cuts, rest[:size])
			rest = rest[size:]
		}
		checkCuts(t, text, cuts)
	}
}

// P18.4: a string in a command is read as it was, however it is cut.
func TestStrings(t *testing.T) {
	for _, text := range []string{"", "a", "a b", `"\`, "{1}\r\n", "\x00", "\r", "\n", "\r\n", allBytes(), strings.Repeat("x", 1001), "a [b] {9}"} {
		command := "a " + Astring(text) + " (" + String(text) + ")" + NString(text, true)
		checkCuts(t, command+"\r\n"+command+"\n")
		all, _ := commands(checkFeed(t, bytewise(command+"\r\n")...))
		if !slices.Equal(all, []string{command}) {
			t.Fatalf("commands of %.60q: %.60q", command, all)
		}
		got, err := Tokens([]byte(all[0]))
		if err != 0 || len(got) != 8 || got[2].Text != text || got[5] != (Token{Str, text}) || got[7] != (Token{Str, text}) {
			t.Fatalf("Tokens of %.60q: %s, %d", command, shown(got), err)
		}
	}
}

// P18.3: a Framer that isn't there.
func TestNilFramer(t *testing.T) {
	var f *Framer
	for _, text := range []string{"", "a", "a\r\n", "{1}\r\n", "{67108865}\r\n", strings.Repeat("a", 1<<17)} {
		if got := f.Feed([]byte(text)); len(got) > 0 || f.Left() != 0 {
			t.Errorf("Feed of %.60q: %s, and %d wait", text, shown(got), f.Left())
		}
	}
}

// Bytes that are handed in aren't kept, those of an event are the caller's, and what waits is the Framer's.
func TestFramerNewMemory(t *testing.T) {
	var f Framer
	b := append(make([]byte, 0, 100), "a\r\nbc\r\nd {2"...)
	got := f.Feed(b)
	if string(b) != "a\r\nbc\r\nd {2" {
		t.Fatalf("Feed changed %q", b)
	}
	scratch(b[:cap(b)])
	if all := toldOf(got); !slices.Equal(all, []told{cmd("a"), cmd("bc")}) {
		t.Fatalf("events keep what was handed in: %s", shown(all))
	}
	// As few more as would find room where the next command, and what waits, stand.
	first := append(got[0].Bytes, "xxxx"...)
	if second := string(got[1].Bytes); second != "bc" {
		t.Fatalf("a command that grew lies upon the next one: %q", second)
	}
	scratch(first)
	scratch(got[0].Bytes)
	scratch(append(got[1].Bytes, "xxxxxx"...))
	scratch(got[1].Bytes)
	more := f.Feed([]byte("}\r\n"))
	if all := toldOf(more); !slices.Equal(all, []told{goes}) {
		t.Fatalf("what waits was changed: %s", shown(all))
	}
	if more = f.Feed([]byte("ef\r\ng")); !slices.Equal(toldOf(more), []told{cmd("d {2}\r\nef")}) || f.Left() != 1 {
		t.Fatalf("what waits was changed: %s, and %d wait", shown(toldOf(more)), f.Left())
	}
	kept := more[0].Bytes
	f.Feed([]byte("hijklmnopqrstuvwxyz\r\n"))
	f.Feed([]byte(strings.Repeat("n", 1<<16+1)))
	f.Feed([]byte("o\r\n"))
	if string(kept) != "d {2}\r\nef" || string(got[1].Bytes) != "xx" {
		t.Fatalf("an event was changed by what came later: %q, %q", kept, got[1].Bytes)
	}
}

// scratch changes all bytes.
func scratch(b []byte) {
	for i := range b {
		b[i] = 'x'
	}
}

// Two Framers have nothing in common.
func TestTwoFramers(t *testing.T) {
	var f, g Framer
	f.Feed([]byte("a {3}\r\n"))
	if got := toldOf(g.Feed([]byte("b\r\n"))); !slices.Equal(got, []told{cmd("b")}) || g.Left() != 0 || f.Left() != 7 {
		t.Errorf("a second one: %s, and %d and %d wait", shown(got), f.Left(), g.Left())
	}
	if got := toldOf(f.Feed([]byte("bcd\r\n"))); !slices.Equal(got, []told{cmd("a {3}\r\nbcd")}) {
		t.Errorf("the first one: %s", shown(got))
	}
}
