package order_test

import (
	"math"
	"math/rand"
	"reflect"
	"slices"
	"strconv"
	"strings"
	"testing"

	"savant/api"
	"savant/order"
)

// read makes of `1; ; 0 1` the numbers that 0, 1 and 2 use; of the empty text no things.
func read(t *testing.T, s string) [][]int {
	t.Helper()
	if s == "" {
		return nil
	}
	var uses [][]int
	for _, part := range strings.Split(s, ";") {
		var l []int
		for _, word := range strings.Fields(part) {
			n, err := strconv.Atoi(word)
			if err != nil {
				t.Fatal(err)
			}
			l = append(l, n)
		}
		uses = append(uses, l)
	}
	return uses
}

// write is a text of groups, as read's is of what is used.
func write(groups [][]int) string {
	var parts []string
	for _, l := range groups {
		var words []string
		for _, x := range l {
			words = append(words, strconv.Itoa(x))
		}
		parts = append(parts, strings.Join(words, " "))
	}
	return strings.Join(parts, "; ")
}

// isGrouped asks Groups of a text for these groups.
func isGrouped(t *testing.T, s, want string) {
	t.Helper()
	groups, e := order.Groups(read(t, s))
	if got := write(groups); got != want || e != api.OK {
		t.Errorf("%q: %q, %v, not %q", s, got, e, want)
	}
}

// isWrong asks Groups for ErrArg, and nothing beside it.
func isWrong(t *testing.T, uses [][]int) {
	t.Helper()
	if groups, e := order.Groups(uses); e != api.ErrArg || len(groups) != 0 {
		t.Errorf("of %d things: %v, %v", len(uses), groups, e)
	}
}

// isAsTold asks Groups for what the reference tells, and whether what follows of it holds.
func isAsTold(t *testing.T, uses [][]int) {
	t.Helper()
	groups, e := order.Groups(uses)
	want, wantError := groupsAsTold(uses)
	if e != wantError || write(groups) != write(want) {
		t.Fatalf("%v: %v, %v, not %v, %v", uses, groups, e, want, wantError)
	}
	if e == api.OK && !isBehindItsUses(uses, groups) {
		t.Fatalf("%v: %v", uses, groups)
	}
}

// J1: the chapter's examples.
func TestExamples(t *testing.T) {
	isGrouped(t, "1; ; 0 1", "1; 0; 2")
	isGrouped(t, "1; 2; 0 3; ", "3; 0 1 2")
	isGrouped(t, "0; ", "0; 1")
	isWrong(t, [][]int{{5}})
}

// J1: things that use no other one, one another, and others.
func TestGroups(t *testing.T) {
	for s, want := range map[string]string{
		"":    "",
		" ":   "0",
		"0":   "0",
		"0 0": "0",
		" ; ": "0; 1",
		// Each by itself: what is used is ahead, and else the least number.
		"; 0":           "0; 1",
		"1; ":           "1; 0",
		"1; 1":          "1; 0",
		"2; ; ":         "1; 2; 0",
		"2; 2; ":        "2; 0; 1",
		"; 2; ":         "0; 2; 1",
		"3; ; ; ":       "1; 2; 3; 0",
		"3; 2; ; ":      "2; 1; 3; 0",
		"1; 2; 3; ":     "3; 2; 1; 0",
		"; 0; 1; 2":     "0; 1; 2; 3",
		"1 2; 3; 3; ":   "3; 1; 2; 0",
		"; 0; 0; 1 2":   "0; 1; 2; 3",
		"2; 3; ; ":      "2; 0; 3; 1",
		"3; 2; 4; ; ":   "3; 0; 4; 2; 1",
		"4; 4; 4; 4; ":  "4; 0; 1; 2; 3",
		"; ; ; 2; 1; 0": "0; 1; 2; 3; 4; 5",
		// What may be next since something was just told comes ahead of greater numbers that might have been next before.
		"4; ; ; ; 1": "1; 2; 3; 4; 0",
		"2; ; 1; ":   "1; 2; 0; 3",
		"1; 3; ; ":   "2; 3; 1; 0",
		// Groups of more: each uses the others, itself or by what it uses.
		"1; 0":                  "0 1",
		"1; 2; 0":               "0 1 2",
		"2; 0; 1":               "0 1 2",
		"1; 0; ":                "0 1; 2",
		"1; 0; 0":               "0 1; 2",
		"1 2; 0; ":              "2; 0 1",
		"1; 0 2; ":              "2; 0 1",
		"; 2; 1":                "0; 1 2",
		"2; ; 0":                "0 2; 1",
		"2 1; ; 0":              "1; 0 2",
		"2; ; 0 1":              "1; 0 2",
		"2; 0; 0":               "0 2; 1",
		"1; 0; 3; 2":            "0 1; 2 3",
		"1 2; 0; 3; 2":          "2 3; 0 1",
		"1; 0; 3 0; 2":          "0 1; 2 3",
		"3; 2; 1; 0":            "0 3; 1 2",
		"3 1; 2; 1; 0":          "1 2; 0 3",
		"3; 2; 1 0; 0":          "0 3; 1 2",
		"1; 0 2; 1":             "0 1 2",
		"0 1; 0 1":              "0 1",
		"1 2; 2 0; 0 1":         "0 1 2",
		"1; 2; 0; 1":            "0 1 2; 3",
		"1; 2; 0 3; 4; ":        "4; 3; 0 1 2",
		"1; 2; 0 3; 4; 3":       "3 4; 0 1 2",
		"5; ; 4; ; 2 1; 0 3":    "1; 2 4; 3; 0 5",
		"3; 4; 5; 0; 1; 2":      "0 3; 1 4; 2 5",
		"3; 4; 5; 0 1; 1 2; 2":  "2 5; 1 4; 0 3",
		"1; 2 3; 0 4; 1; 5; ":   "5; 4; 0 1 2 3",
		"1 1 1; 2 2; 2 0 0 2":   "0 1 2",
		"; 3 3 0 0; 0; 2 2 2 0": "0; 2; 3; 1",
		// A group's place is told by its least number, wherever what is used by it stands.
		"3; ; ; 0":         "0 3; 1; 2",
		"; 4; ; ; 1":       "0; 1 4; 2; 3",
		"2 3; ; 0; ":       "1; 3; 0 2",
		"4 3; ; ; 2; 0 1":  "1; 2; 3; 0 4",
		"1 5; 0; 3; 2; ; ": "2 3; 4; 5; 0 1",
	} {
		isGrouped(t, s, want)
	}
}

// J1: more than 500 things; numbers of none, wherever they stand.
func TestWrong(t *testing.T) {
	for _, uses := range [][][]int{
		{{1}}, {{-1}}, {{0, 1}}, {{0, -1}}, {{1, 0}},
		{{}, {2}}, {{2}, {}}, {{1}, {0, 1, 0, 2}}, {{0}, {1}, {-1}}, {{3, 2}, {1, 0}, {}},
		{{math.MaxInt}}, {{math.MinInt}}, {{}, {1 << 32}}, {{1 << 32}, {}}, {{-1 << 32}, {}}, {{1<<32 + 1}, {}},
	} {
		isWrong(t, uses)
		isAsTold(t, uses)
	}
	for _, n := range []int{501, 502, 1000, 100000} {
		isWrong(t, make([][]int, n))
		isWrong(t, chain(n))
	}
	for _, number := range []int{-1, 500, 501} {
		for _, x := range []int{0, 499} {
			uses := chain(500)
			uses[x] = []int{number}
			isWrong(t, uses)
		}
	}
	uses := chain(501)
	uses[500] = []int{501}
	isWrong(t, uses)
}

// chain has n things, each of which uses the next one.
func chain(n int) [][]int {
	uses := make([][]int, n)
	for x := range n - 1 {
		uses[x] = []int{x + 1}
	}
	return uses
}

// all are n things, each of which uses those of which is says yes.
func all(n int, is func(x, y int) bool) [][]int {
	uses := make([][]int, n)
	for x := range n {
		for y := range n {
			if is(x, y) {
				uses[x] = append(uses[x], y)
			}
		}
	}
	return uses
}

// J1, J2: as many things as may be.
func TestGreat(t *testing.T) {
	const n = 500
	for name, uses := range map[string][][]int{
		"none":             make([][]int, n),
		"next":             chain(n),
		"before":           all(n, func(x, y int) bool { return y == x-1 }),
		"itself":           all(n, func(x, y int) bool { return y == x }),
		"ring":             all(n, func(x, y int) bool { return y == (x+1)%n }),
		"ring backward":    all(n, func(x, y int) bool { return x == (y+1)%n }),
		"all":              all(n, func(x, y int) bool { return true }),
		"all but itself":   all(n, func(x, y int) bool { return x != y }),
		"all later":        all(n, func(x, y int) bool { return x < y }),
		"all earlier":      all(n, func(x, y int) bool { return x > y }),
		"pairs":            all(n, func(x, y int) bool { return x+y == n-1 }),
		"pairs and later":  all(n, func(x, y int) bool { return x+y == n-1 || x/2 == y }),
		"seven rings":      all(n, func(x, y int) bool { return y == (x+7)%497 }),
		"the last":         all(n, func(x, y int) bool { return y == n-1 }),
		"the first":        all(n, func(x, y int) bool { return y == 0 }),
		"tree":             all(n, func(x, y int) bool { return y == 2*x+1 || y == 2*x+2 }),
		"scattered":        all(n, func(x, y int) bool { return y == x*x%n }),
		"scattered, chain": all(n, func(x, y int) bool { return y == x*7%n || y == x+250 }),
	} {
		groups, e := order.Groups(uses)
		want, _ := groupsAsTold(uses)
		if e != api.OK || write(groups) != write(want) || !isBehindItsUses(uses, groups) {
			t.Errorf("%s: %v, %v", name, groups, e)
		}
	}
	groups, e := order.Groups(chain(n))
	if len(groups) != n || e != api.OK || groups[0][0] != n-1 || groups[n-1][0] != 0 {
		t.Error(groups, e)
	}
}

// R1: lists in which each thing stands often.
func TestLongEnds(t *testing.T) {
	uses := all(500, func(x, y int) bool { return true })
	for x, l := range uses {
		uses[x] = slices.Repeat(l, 40)
	}
	if groups, e := order.Groups(uses); e != api.OK || len(groups) != 1 || len(groups[0]) != 500 {
		t.Error(len(groups), e)
	}
}

// each goes through all ways in which n things use one another.
func each(n int, do func(uses [][]int)) {
	for bits := range 1 << (n * n) {
		do(all(n, func(x, y int) bool { return bits>>(x*n+y)&1 == 1 }))
	}
}

// J1, J2: all that four things may use.
func TestSmall(t *testing.T) {
	for n := range 5 {
		each(n, func(uses [][]int) { isAsTold(t, uses) })
	}
}

// made are n things of which each uses few, or many, or itself too; seldom one that is not there.
func made(m *rand.Rand, n int) [][]int {
	uses := make([][]int, n)
	most := 1 + m.Intn(4)
	for x := range uses {
		for range m.Intn(most + 1) {
			uses[x] = append(uses[x], m.Intn(n))
		}
	}
	if n > 0 && m.Intn(50) == 0 {
		x := m.Intn(n)
		uses[x] = append(uses[x], n+m.Intn(2), -m.Intn(2))
	}
	return uses
}

// J1, J2: many that are made, with from none to all in one group.
func TestMany(t *testing.T) {
	m := rand.New(rand.NewSource(1))
	one, several, each := 0, 0, 0
	for i := range 20000 {
		uses := made(m, i%25)
		isAsTold(t, uses)
		switch groups, _ := order.Groups(uses); len(groups) {
		case 1:
			one++
		case len(uses):
			each++
		default:
			several++
		}
	}
	if min(one, several, each) < 1000 {
		t.Error(one, several, each)
	}
	for range 30 {
		isAsTold(t, made(m, 100+m.Intn(150)))
	}
}

// J1: in which order, and how often, a thing's list has what it uses, does not matter.
func TestListsOrder(t *testing.T) {
	m := rand.New(rand.NewSource(2))
	for i := range 5000 {
		uses := made(m, 1+i%20)
		others := make([][]int, len(uses))
		for x, l := range uses {
			others[x] = slices.Repeat(l, 1+m.Intn(3))
			m.Shuffle(len(others[x]), func(i, j int) { others[x][i], others[x][j] = others[x][j], others[x][i] })
		}
		a, e := order.Groups(uses)
		b, e2 := order.Groups(others)
		if write(a) != write(b) || e != e2 {
			t.Fatalf("%v: %v, %v; %v: %v, %v", uses, a, e, others, b, e2)
		}
	}
}

// R4: a nil list and an empty one are the same.
func TestNilAndEmpty(t *testing.T) {
	for _, uses := range [][][]int{nil, {}} {
		if groups, e := order.Groups(uses); len(groups) != 0 || e != api.OK {
			t.Error(groups, e)
		}
	}
	for _, none := range [][]int{nil, {}} {
		if groups, e := order.Groups([][]int{{2}, none, none}); write(groups) != "1; 2; 0" || e != api.OK {
			t.Error(groups, e)
		}
	}
}

// R5, R6: what is handed in stays as it is, also behind its lists' ends; and the same comes of it again.
func TestNothingChanges(t *testing.T) {
	m := rand.New(rand.NewSource(3))
	for i := range 2000 {
		whole := made(m, i%12)
		uses := make([][]int, len(whole))
		for x, l := range whole {
			whole[x] = append(l, -7, -7, -7)
			uses[x] = whole[x][:len(l)]
		}
		wholeBefore, usesBefore := copied(whole), copied(uses)
		groups, e := order.Groups(uses)
		told := write(groups)
		fillEach(t, groups)
		if !reflect.DeepEqual(whole, wholeBefore) || !reflect.DeepEqual(uses, usesBefore) {
			t.Fatalf("%v, not %v", whole, wholeBefore)
		}
		if again, e2 := order.Groups(uses); write(again) != told || e2 != e {
			t.Fatalf("%v: %v, not %s", uses, again, told)
		}
	}
}

func copied(lists [][]int) [][]int {
	l := slices.Clone(lists)
	for i := range l {
		l[i] = slices.Clone(l[i])
	}
	return l
}

// fillEach writes over all memory of each group, and asks whether none of it is another one's.
func fillEach(t *testing.T, groups [][]int) {
	t.Helper()
	for i, g := range groups {
		g = g[:cap(g)]
		for k := range g {
			g[k] = i
		}
	}
	for i, g := range groups {
		if slices.ContainsFunc(g[:cap(g)], func(x int) bool { return x != i }) {
			t.Fatal(groups)
		}
	}
}

// J1: whatever is used, what is told is what the chapter says.
func FuzzGroups(f *testing.F) {
	for _, s := range []string{"", "\x00", "\x01\x00\x00\x01", "\x01\xff\x02\xff\x00\x03\xff", "\x00\xff\xff\x05"} {
		f.Add([]byte(s))
	}
	f.Fuzz(func(t *testing.T, bytes []byte) {
		// A byte is a number that is used, or begins the next thing.
		uses := [][]int{nil}
		for _, b := range bytes {
			last := len(uses) - 1
			if b == 255 {
				uses = append(uses, nil)
			} else {
				uses[last] = append(uses[last], int(b))
			}
		}
		isAsTold(t, uses)
	})
}
