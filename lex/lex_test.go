package lex_test

import (
	"reflect"
	"strconv"
	"strings"
	"testing"

	"savant/api"
	"savant/lex"
)

// line writes tokens as one line: of each its kind, its text and its place.
func line(l []api.Token) string {
	var words []string
	for _, t := range l {
		words = append(words, strconv.Itoa(t.Kind)+" "+t.Text+" "+strconv.Itoa(t.At))
	}
	return strings.Join(words, " | ")
}

// isCut asks whether s is cut into these tokens.
func isCut(t *testing.T, s string, want ...api.Token) {
	t.Helper()
	l, at, e := lex.Scan(s)
	if e != api.OK || at != 0 || line(l) != line(want) {
		t.Errorf("Scan(%q) tells %q, %d, %v, not %q", s, line(l), at, e, line(want))
	}
}

// isWrong asks whether a text is refused, with a place, and with nothing else.
func isWrong(t *testing.T, s string, wantAt int, want api.Errno) {
	t.Helper()
	l, at, e := lex.Scan(s)
	if e != want || at != wantAt || len(l) != 0 {
		t.Errorf("Scan(%q) tells %q, %d, %v, not %d, %v", s, line(l), at, e, wantAt, want)
	}
}

func tok(kind int, text string, at int) api.Token {
	return api.Token{Kind: kind, Text: text, At: at}
}

// A1: the chapter's examples.
func TestExamples(t *testing.T) {
	isCut(t, `f = \x->x`, tok(api.TokVar, "f", 0), tok(api.TokSign, "=", 2), tok(api.TokSign, `\`, 4), tok(api.TokVar, "x", 5), tok(api.TokSign, "->", 6), tok(api.TokVar, "x", 8))
	isCut(t, "forall a_1.?12", tok(api.TokKey, "forall", 0), tok(api.TokVar, "a_1", 7), tok(api.TokSign, ".", 10), tok(api.TokMeta, "?12", 11))
	isCut(t, "ab # c", tok(api.TokVar, "ab", 0))
	isWrong(t, "a - b", 2, api.ErrLex)
	isWrong(t, "a 01", 2, api.ErrLex)
	isWrong(t, "?x", 0, api.ErrLex)
	isWrong(t, "abcdefghijklmnopq", 0, api.ErrLex)
}

// A1: nothing, and what has nothing but what stands between tokens, has no tokens.
func TestNoTokens(t *testing.T) {
	for _, s := range []string{"", " ", "\t", "\n", " \t\n \n", "#", "# x", "#\n", "##\n#", "# a\n\t# b\n"} {
		isCut(t, s)
	}
}

// A1: 4000 bytes are read, 4001 are too long, whatever they are.
func TestInputLimit(t *testing.T) {
	isCut(t, strings.Repeat(" ", api.MaxInput-1)+"x", tok(api.TokVar, "x", api.MaxInput-1))
	isCut(t, "x#"+strings.Repeat("!", api.MaxInput-2), tok(api.TokVar, "x", 0))
	if l, at, e := lex.Scan(strings.Repeat("(", api.MaxInput)); len(l) != api.MaxInput || at != 0 || e != api.OK {
		t.Errorf("4000 signs: %d tokens, %d, %v", len(l), at, e)
	}
	isWrong(t, strings.Repeat(" ", api.MaxInput-1)+"-", api.MaxInput-1, api.ErrLex)
	isWrong(t, strings.Repeat(" ", api.MaxInput+1), 0, api.ErrLong)
	isWrong(t, strings.Repeat("x ", api.MaxInput), 0, api.ErrLong)
}

// R2: ErrLong comes ahead of ErrLex.
func TestLongAheadOfLex(t *testing.T) {
	isWrong(t, strings.Repeat("-", api.MaxInput+1), 0, api.ErrLong)
	isWrong(t, strings.Repeat("-", api.MaxInput), 0, api.ErrLex)
}

func TestKeys(t *testing.T) {
	for _, s := range []string{"data", "let", "in", "case", "of", "forall"} {
		isCut(t, s, tok(api.TokKey, s, 0))
	}
	for _, s := range []string{"dat", "data1", "data_", "lets", "i", "inn", "iN", "cases", "o", "off", "forAll", "for", "all", "else"} {
		isCut(t, s, tok(api.TokVar, s, 0))
	}
	for _, s := range []string{"Data", "Let", "In", "Case", "Of", "Forall", "FORALL"} {
		isCut(t, s, tok(api.TokCon, s, 0))
	}
}

func TestWords(t *testing.T) {
	for _, s := range []string{"a", "z", "aZ", "zA", "a0", "a9", "a_", "a__1B", "x1y2"} {
		isCut(t, s, tok(api.TokVar, s, 0))
	}
	for _, s := range []string{"A", "Z", "Aa", "Zz", "A0", "Z_", "T_1"} {
		isCut(t, s, tok(api.TokCon, s, 0))
	}
	isCut(t, "12b", tok(api.TokNum, "12", 0), tok(api.TokVar, "b", 2))
	isWrong(t, "_", 0, api.ErrLex)
	isWrong(t, "_a", 0, api.ErrLex)
	isWrong(t, "a 1_", 3, api.ErrLex)
	isWrong(t, "a'", 1, api.ErrLex)
	isWrong(t, "a\xc3\xa4", 1, api.ErrLex)
}

// A1: a word has at most 16 bytes; one that is longer is no token from its first byte on.
func TestWordLimit(t *testing.T) {
	for _, first := range []string{"a", "A"} {
		kind := map[string]int{"a": api.TokVar, "A": api.TokCon}[first]
		for _, more := range []string{"b", "B", "7", "_"} {
			w := first + strings.Repeat(more, api.MaxWord-1)
			isCut(t, w, tok(kind, w, 0))
			isCut(t, "x "+w+" y", tok(api.TokVar, "x", 0), tok(kind, w, 2), tok(api.TokVar, "y", 19))
			isWrong(t, w+more, 0, api.ErrLex)
			isWrong(t, "x "+w+more+" y", 2, api.ErrLex)
		}
	}
	isWrong(t, "1"+strings.Repeat("a", api.MaxWord+1), 1, api.ErrLex)
}

// A1: a number has at most 6 digits; more than one do not begin with 0.
func TestNumbers(t *testing.T) {
	for _, s := range []string{"0", "1", "9", "10", "90", "100000", "123456", "999999"} {
		isCut(t, s, tok(api.TokNum, s, 0))
	}
	isCut(t, "0x", tok(api.TokNum, "0", 0), tok(api.TokVar, "x", 1))
	isCut(t, "0 0", tok(api.TokNum, "0", 0), tok(api.TokNum, "0", 2))
	isCut(t, "1.0", tok(api.TokNum, "1", 0), tok(api.TokSign, ".", 1), tok(api.TokNum, "0", 2))
	for _, s := range []string{"1000000", "1234567", "9999999999999999999999", "00", "01", "000000", "0000000", "0123456"} {
		isWrong(t, s, 0, api.ErrLex)
		isWrong(t, "a ("+s, 3, api.ErrLex)
	}
}

// A1: an unknown is `?` and, next to it, a number; what is none is told by the place of the `?`.
func TestMetas(t *testing.T) {
	for _, s := range []string{"?0", "?1", "?10", "?999999"} {
		isCut(t, s, tok(api.TokMeta, s, 0))
	}
	isCut(t, "?1?2", tok(api.TokMeta, "?1", 0), tok(api.TokMeta, "?2", 2))
	isCut(t, "?1a", tok(api.TokMeta, "?1", 0), tok(api.TokVar, "a", 2))
	for _, s := range []string{"?", "? 1", "?x", "??1", "?#1", "?\n1", "?00", "?01", "?1000000", "?-1", "?_"} {
		isWrong(t, s, 0, api.ErrLex)
		isWrong(t, "f "+s, 2, api.ErrLex)
	}
}

func TestSigns(t *testing.T) {
	signs := strings.Fields(`-> |> \ : = ; { } ( ) . ~ @ < > , [ ] !`)
	if len(signs) != 19 {
		t.Fatal(len(signs))
	}
	for _, s := range signs {
		isCut(t, s, tok(api.TokSign, s, 0))
		isCut(t, "x"+s+"1", tok(api.TokVar, "x", 0), tok(api.TokSign, s, 1), tok(api.TokNum, "1", 1+len(s)))
	}
	isCut(t, "->>", tok(api.TokSign, "->", 0), tok(api.TokSign, ">", 2))
	isCut(t, ">->", tok(api.TokSign, ">", 0), tok(api.TokSign, "->", 1))
	isCut(t, "|>|>>", tok(api.TokSign, "|>", 0), tok(api.TokSign, "|>", 2), tok(api.TokSign, ">", 4))
	for _, s := range []string{"-", "|", "- >", "| >", "-\n>", "--", "||", "-|>", "|->"} {
		isWrong(t, s, 0, api.ErrLex)
		isWrong(t, "<"+s, 1, api.ErrLex)
	}
}

// A1: a byte that begins no token, alone, behind a token, and behind a remark.
func TestEachByte(t *testing.T) {
	begins := " \t\n#" + `\:=;{}().~@<>,[]!` + "0123456789" + "abcdefghijklmnopqrstuvwxyz" + "ABCDEFGHIJKLMNOPQRSTUVWXYZ"
	for c := range 256 {
		s := string([]byte{byte(c)})
		if strings.Contains(begins, s) {
			if _, at, e := lex.Scan(s); at != 0 || e != api.OK {
				t.Errorf("byte %d: %d, %v", c, at, e)
			}
			continue
		}
		isWrong(t, s, 0, api.ErrLex)
		isWrong(t, "( "+s+" )", 2, api.ErrLex)
		isWrong(t, "#\n"+s, 2, api.ErrLex)
		isCut(t, "x#"+s+"\ny", tok(api.TokVar, "x", 0), tok(api.TokVar, "y", 4))
	}
}

// A1: the first place that is wrong is told, whatever comes behind it.
func TestFirstPlace(t *testing.T) {
	isWrong(t, "a - 01 ?", 2, api.ErrLex)
	isWrong(t, "a ? 01 -", 2, api.ErrLex)
	isWrong(t, "a\n# -\n\t01 ? -", 7, api.ErrLex)
}

// A1, A2: a remark ends with its line, or with the text; it cuts what stands on its two sides apart.
func TestRemarks(t *testing.T) {
	isCut(t, "ab#c\nd", tok(api.TokVar, "ab", 0), tok(api.TokVar, "d", 5))
	isCut(t, "ab#c#d", tok(api.TokVar, "ab", 0))
	isCut(t, "a#\n#\nb", tok(api.TokVar, "a", 0), tok(api.TokVar, "b", 5))
	isCut(t, "a# \r x\nb#", tok(api.TokVar, "a", 0), tok(api.TokVar, "b", 7))
	isCut(t, "a#?\x00\xff-\n->", tok(api.TokVar, "a", 0), tok(api.TokSign, "->", 7))
	isWrong(t, "-#\n>", 0, api.ErrLex)
}

// A2: tokens with a blank between each, or whatever may stand there, are the same tokens.
func TestBetween(t *testing.T) {
	for _, s := range []string{`f = \x->x`, "forall a_1.?12", "x|>[0]", "12b?3?4", "data N{Z:N;S:N->N}", "a->>b", "case x of{A b->(b,c)}", "0x1y", "~@<!"} {
		l, _, e := lex.Scan(s)
		if e != api.OK {
			t.Fatalf("%q: %v", s, e)
		}
		for _, gap := range []string{" ", "\n", "\t", "  \n", "#\n", " # a -> 01\n "} {
			sameTokens(t, l, gap)
		}
	}
}

// sameTokens asks whether tokens are cut out again of their texts, with a gap ahead of, between and behind them.
func sameTokens(t *testing.T, l []api.Token, gap string) {
	t.Helper()
	s := gap
	var want []api.Token
	for _, x := range l {
		want = append(want, tok(x.Kind, x.Text, len(s)))
		s += x.Text + gap
	}
	isCut(t, s, want...)
}

// R3, R4: with an error there are no tokens and no other result; R6: two calls answer alike, whatever became of the first one's answer.
func TestAnswersAlike(t *testing.T) {
	for _, s := range []string{"", "a -> ?1", "a ?", strings.Repeat("a", 17), strings.Repeat(" ", 4001)} {
		l1, at1, e1 := lex.Scan(s)
		was := append([]api.Token(nil), l1...)
		for i := range l1 {
			l1[i] = api.Token{}
		}
		l2, at2, e2 := lex.Scan(s)
		if line(l2) != line(was) || at1 != at2 || e1 != e2 {
			t.Errorf("%q: two answers", s)
		}
		if e1 != api.OK && len(l1) != 0 {
			t.Errorf("%q: tokens beside an error", s)
		}
	}
}

// R7: what a number's text tells is written without noughts ahead.
func TestNumbersAsWritten(t *testing.T) {
	for n := 0; n <= 999999; n += 37 {
		s := strconv.Itoa(n)
		isCut(t, s, tok(api.TokNum, s, 0))
		isCut(t, "?"+s, tok(api.TokMeta, "?"+s, 0))
		if len(s) < api.MaxDigits {
			isWrong(t, "0"+s, 0, api.ErrLex)
		}
	}
}

// R1, A1: all texts of one and two bytes, and all of up to five of the bytes on which a choice hangs, are cut as the reference cuts them.
func TestShortTexts(t *testing.T) {
	for a := range 256 {
		likeReference(t, string([]byte{byte(a)}))
		for b := range 256 {
			likeReference(t, string([]byte{byte(a), byte(b)}))
		}
	}
	allTexts(5, "aZ_01?->|# \n", func(s string) { likeReference(t, s) })
}

// A1: around the limits of words and numbers.
func TestNearLimits(t *testing.T) {
	for n := range 20 {
		for _, c := range []string{"a", "Q", "1", "0"} {
			for _, ahead := range []string{"", "x", "1", "?", "(", " "} {
				for _, behind := range []string{"", "_", "0", "x", "?", " 1"} {
					likeReference(t, ahead+strings.Repeat(c, n)+behind)
				}
			}
		}
	}
}

// allTexts hands over each text of at most n of the bytes.
func allTexts(n int, of string, do func(s string)) {
	last := []string{""}
	for range n {
		var more []string
		for _, s := range last {
			for i := range len(of) {
				more = append(more, s+of[i:i+1])
			}
		}
		for _, s := range more {
			do(s)
		}
		last = more
	}
}

func likeReference(t *testing.T, s string) {
	t.Helper()
	l, at, e := lex.Scan(s)
	wantL, wantAt, wantE := reference(s)
	if at != wantAt || e != wantE || len(l) != len(wantL) || len(l) > 0 && !reflect.DeepEqual(l, wantL) {
		t.Errorf("Scan(%q) tells %q, %d, %v, not %q, %d, %v", s, line(l), at, e, line(wantL), wantAt, wantE)
	}
}

func FuzzScan(f *testing.F) {
	for _, s := range []string{"", `f = \x->x`, "forall a_1.?12", "ab # c\nK", "a 01", "?x", "abcdefghijklmnopq"} {
		f.Add(s)
	}
	f.Fuzz(likeReference)
}
