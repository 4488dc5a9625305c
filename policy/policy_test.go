package policy

import (
	"math"
	"regexp"
	"slices"
	"strconv"
	"strings"
	"testing"

	"twinkeep/api"
)

// ages: the policy with these ages, and all else as Default has it.
func ages(a, b, c, d int64) api.Policy {
	return api.Policy{Age: [api.Tiers]int64{a, b, c, d}, Count: 8, Span: 30}
}

// sealed: the policy with this Count and Span, and the ages as Default has them.
func sealed(count int, span int64) api.Policy {
	return api.Policy{Age: [api.Tiers]int64{60, 600, 6000, 0}, Count: count, Span: span}
}

// checkRead: s says p.
func checkRead(t *testing.T, s string, want api.Policy) {
	t.Helper()
	if p, code, line := Parse(s); p != want || code != api.OK || line != 0 {
		t.Errorf("Parse(%.200q) = %v, %d, %d; want %v, 0, 0", s, p, code, line, want)
	}
}

// checkFault: s has this fault, at that line, and says nothing.
func checkFault(t *testing.T, s string, wantCode, wantLine int) {
	t.Helper()
	if p, code, line := Parse(s); p != (api.Policy{}) || code != wantCode || line != wantLine {
		t.Errorf("Parse(%.200q) = %v, %d, %d; want nothing, %d, %d", s, p, code, line, wantCode, wantLine)
	}
}

// some: policies that may be, at every edge.
func some() []api.Policy {
	var l []api.Policy
	for _, a := range [][api.Tiers]int64{
		{}, {1}, {1, 1}, {1, 1, 1}, {60, 600, 6000}, {60, 60, 6000}, {7, 8, 9}, {api.MaxTime}, {1, api.MaxTime}, {1, 2, api.MaxTime},
		{api.MaxTime, api.MaxTime}, {api.MaxTime, api.MaxTime, api.MaxTime}, {999999999999, 1000000000000, 1000000000001}, {10, 100, 1000},
	} {
		for _, count := range []int{1, 2, 8, 9, 10, 63, 64} {
			for _, span := range []int64{1, 2, 30, 99, 100, 199, 200} {
				l = append(l, api.Policy{Age: a, Count: count, Span: span})
			}
		}
	}
	return l
}

// wrong: policies that may not be, in one part each.
func wrong() []api.Policy {
	l := []api.Policy{
		{}, ages(-1, 600, 6000, 0), ages(60, -1, 6000, 0), ages(60, 600, -1, 0), ages(60, 600, 6000, -1), ages(math.MinInt64, 0, 0, 0),
		ages(api.MaxTime+1, 0, 0, 0), ages(1, api.MaxTime+1, 0, 0), ages(1, 2, api.MaxTime+1, 0), ages(math.MaxInt64, 0, 0, 0), ages(1, 2, math.MaxInt64, 0),
		ages(60, 59, 6000, 0), ages(60, 600, 599, 0), ages(601, 600, 6000, 0), ages(60, 6001, 6000, 0), ages(2, 1, 0, 0), ages(api.MaxTime, api.MaxTime-1, 0, 0),
		ages(0, 600, 6000, 0), ages(60, 0, 6000, 0), ages(0, 0, 6000, 0), ages(0, 1, 0, 0), ages(0, 0, 1, 0),
		ages(60, 600, 6000, 6000), ages(60, 600, 6000, 9000), ages(60, 600, 6000, 1), ages(60, 600, 6000, api.MaxTime), ages(0, 0, 0, 1), ages(1, 1, 1, 1),
	}
	for _, count := range []int{math.MinInt, -64, -1, 0, 65, 66, 200, math.MaxInt} {
		l = append(l, sealed(count, 30))
	}
	for _, span := range []int64{math.MinInt64, -30, -1, 0, 201, 202, api.MaxTime, math.MaxInt64} {
		l = append(l, sealed(8, span))
	}
	return l
}

// 5.1: Default, written out, may be.
func TestDefault(t *testing.T) {
	want := api.Policy{Age: [api.Tiers]int64{60, 600, 6000, 0}, Count: 8, Span: 30}
	first := Default()
	if first != want || !May(first) {
		t.Errorf("Default() = %v, want %v", first, want)
	}
	first.Age[0], first.Count = 1, 1
	if d := Default(); d != want {
		t.Errorf("Default() = %v behind a write into an older answer", d)
	}
}

// 5.1: what may be, and what may not in one part.
func TestMay(t *testing.T) {
	for _, p := range some() {
		if !May(p) {
			t.Errorf("May(%v) = false", p)
		}
	}
	for _, p := range wrong() {
		if May(p) {
			t.Errorf("May(%v) = true", p)
		}
	}
}

// 5.1: all ages about the edges, held against their shape: some that do not sink, from 1 to MaxTime, and then zeros, one at least.
func TestMayAges(t *testing.T) {
	edges := []int64{math.MinInt64, -1, 0, 1, 2, 3, api.MaxTime - 1, api.MaxTime, api.MaxTime + 1, math.MaxInt64}
	for i := range len(edges) * len(edges) * len(edges) * len(edges) {
		p := ages(edges[i%10], edges[i/10%10], edges[i/100%10], edges[i/1000])
		n := slices.Index(p.Age[:], 0)
		want := n >= 0 && slices.IsSorted(p.Age[:n]) && slices.Equal(p.Age[n:], make([]int64, api.Tiers-n))
		if n > 0 {
			want = want && p.Age[0] >= 1 && p.Age[n-1] <= api.MaxTime
		}
		if May(p) != want {
			t.Errorf("May(%v) = %v", p, !want)
		}
	}
}

// 5.1: every Count and Span about the edges.
func TestMayCountAndSpan(t *testing.T) {
	for n := -300; n <= 300; n++ {
		if is := May(sealed(n, 30)); is != (n >= 1 && n <= 64) {
			t.Errorf("Count %d: May %v", n, is)
		}
		if is := May(sealed(8, int64(n))); is != (n >= 1 && n <= 200) {
			t.Errorf("Span %d: May %v", n, is)
		}
	}
}

// 5.2: texts that say a policy; what they do not say is Default's.
func TestParseWritten(t *testing.T) {
	d := Default()
	for s, want := range map[string]api.Policy{
		"": d, "\n": d, " ": d, "   \n \n\n": d, "#": d, "##": d, "# seal 1": d, " # x\n\n  ": d, "#\n#x#y\n": d, "# a\tb\r\n": d,
		"keep raw 5": ages(5, 600, 6000, 0), "keep 5m 61": ages(60, 61, 6000, 0), "keep 1h 600": ages(60, 600, 600, 0), "keep 1d 0": d, "keep 1d ever": d,
		"keep 1h ever": ages(60, 600, 0, 0), "keep 1h 0": ages(60, 600, 0, 0), "keep 1h 0000000000000": ages(60, 600, 0, 0),
		"keep 5m ever\nkeep 1h ever": ages(60, 0, 0, 0), "keep raw ever\nkeep 5m 0\nkeep 1h ever": ages(0, 0, 0, 0),
		"seal 1": sealed(1, 30), "seal 64": sealed(64, 30), "seal 007": sealed(7, 30), "seal 0000000000009": sealed(9, 30),
		"span 1": sealed(8, 1), "span 200": sealed(8, 200), "span 0000000000200\n": sealed(8, 200),
		"  keep   raw  5  ": ages(5, 600, 6000, 0), "seal 9 ": sealed(9, 30), "\n\n seal 9\n\n": sealed(9, 30),
		"seal 9#": sealed(9, 30), "seal 9#9": sealed(9, 30), "seal 9 # 9": sealed(9, 30), "seal 9 #seal 8": sealed(9, 30), "seal 9 # x # seal 8": sealed(9, 30),
		"#seal 1\nseal 2#\n#seal 3": sealed(2, 30), "seal 2\nspan 3": sealed(2, 3), "span 3\nseal 2": sealed(2, 3), "keep raw 8#\x00\xFF": ages(8, 600, 6000, 0),
		"keep 1h 1099511627776":                      ages(60, 600, api.MaxTime, 0),
		"keep 1h 8\nkeep 5m 7\nkeep raw 6":           ages(6, 7, 8, 0), // above or below Default's: only all together may be
		"keep raw 7000\nkeep 1h 9000\nkeep 5m 8000":  ages(7000, 8000, 9000, 0),
		"keep raw 5\nkeep  5m 70 # y\n seal 64\n\n ": {Age: [api.Tiers]int64{5, 70, 6000, 0}, Count: 64, Span: 30},
	} {
		checkRead(t, s, want)
	}
}

// 5.2: a line that is none is told with its number.
func TestParseNoLine(t *testing.T) {
	for _, bad := range []string{
		"x", "keep", "seal", "span", "ever", "raw", "9", "keep raw", "keep 9", "keep ever", "raw 9", "keep keep 9", "keep raw 9 9", "keep raw 9 x", "seal 9 9", "span 9 9", "seal raw 9",
		"keep 2m 9", "keep rawx 9", "keep ra 9", "keep Raw 9", "keep 5M 9", "keep 0 9", "keep 9 raw", "keep seal 9", "Keep raw 9", "KEEP raw 9", "keeps raw 9", "kee raw 9", "Seal 9", "sealed 9", "Span 9", "spa 9",
		"seal ever", "span ever", "keep raw Ever", "keep raw evers", "keep raw eve", "keep raw never", "keep raw 0ever", "keep raw x", "seal x", "span x",
		"seal -1", "seal +1", "span -1", "span +1", "keep raw -1", "keep raw +1", "keep 1d -0", "seal 1.", "seal 1.0", "seal 1e1", "seal 0x1", "seal 1_0", "seal 1,", "seal \"1\"", "seal 1x", "seal x1", "span 1h",
		"seal 00000000000009", "span 00000000000009", "keep raw 12345678901234", "keep raw 00000000000000", "seal 18446744073709551624", "span 340282366920938463463374607431768211486",
		"seal\t9", "seal 9\t", "\tseal 9", "\t", "seal 9\r", "\r", "\x00", "seal\x009", "seal\v9", "seal\f9", "seal\u00a09", "seal\u20039", "\ufeffseal 9", "seal \u0669", "seal \uff19", "seal \xFF", "\xFF",
		"seal#9", "seal # 9", "keep raw#9", "keep#raw 9", "seal9", "keepraw 9", "keep raw9", "; x", "// x", "seal 9 ; x", "seal = 9", "seal: 9", "seal 9\\",
	} {
		checkFault(t, bad, api.ErrParse, 1)
		checkFault(t, bad+"\n", api.ErrParse, 1)
		checkFault(t, "  "+bad+"  \nspan 3", api.ErrParse, 1)
		checkFault(t, "\n"+bad, api.ErrParse, 2)
		checkFault(t, "# x\n\n  \nspan 3 # y\n"+bad+"\nkeep raw 5\nx", api.ErrParse, 5)
		checkFault(t, strings.Repeat("\n", 999)+bad, api.ErrParse, 1000)
		checkRead(t, "seal 9\n#"+bad+"\nspan 3", sealed(9, 3))
		checkRead(t, "seal 9 # "+bad+"\nspan 3", sealed(9, 3))
	}
	// A line ends at a byte 10, though a word does not.
	checkFault(t, "keep raw\n9", api.ErrParse, 1)
	checkFault(t, "seal 9\nkeep\nraw 9", api.ErrParse, 2)
}

// 5.2: each byte there is: as a line, between words, within a word, as a digit.
func TestParseBytes(t *testing.T) {
	for c := range 256 {
		b := string([]byte{byte(c)})
		if b == "\n" || b == " " || b == "#" {
			checkRead(t, b, Default())
			checkRead(t, "seal 9"+b, sealed(9, 30))
			checkRead(t, "seal 9"+b+"# x", sealed(9, 30))
		} else {
			checkFault(t, b, api.ErrParse, 1)
		}
		if b == " " {
			checkRead(t, "seal"+b+"9", sealed(9, 30))
		} else {
			checkFault(t, "seal"+b+"9", api.ErrParse, 1)
		}
		checkFault(t, "se"+b+"al 9", api.ErrParse, 1)
		switch {
		case b == "0":
			checkFault(t, "seal "+b, api.ErrRange, 0)
		case c >= '1' && c <= '9':
			checkRead(t, "seal "+b, sealed(c-'0', 30))
		default:
			checkFault(t, "seal "+b, api.ErrParse, 1)
		}
	}
}

// 5.2: what was said may not be said again, not even the same; of keep: of that NAME.
func TestParseTwice(t *testing.T) {
	lines := []string{"keep raw 60", "keep 5m 600", "keep 1h 6000", "keep 1d ever", "seal 8", "span 30"}
	all := strings.Join(lines, "\n")
	checkRead(t, all, Default())
	for _, l := range lines {
		checkFault(t, l+"\n"+l, api.ErrParse, 2)
		checkFault(t, all+"\n\n"+l, api.ErrParse, 8)
		checkFault(t, l+"\n# x\n"+all, api.ErrParse, 3+slices.Index(lines, l))
		checkFault(t, all+"\n"+l[:strings.LastIndex(l, " ")]+" 1\nx", api.ErrParse, 7)
	}
	checkFault(t, "keep 1d 0\nkeep 1d ever", api.ErrParse, 2)
	checkFault(t, "keep 1h ever\nkeep 1h 6000", api.ErrParse, 2)
	checkRead(t, "keep raw 60\nkeep 5m 60\nkeep 1h 60", ages(60, 60, 60, 0))
}

// 5.2: the lines' order says nothing.
func TestParseOrder(t *testing.T) {
	lines := []string{"keep raw 7", "keep 5m 8", "keep 1h 9", "keep 1d 0", "seal 3", "span 4"}
	want := api.Policy{Age: [api.Tiers]int64{7, 8, 9, 0}, Count: 3, Span: 4}
	for range len(lines) {
		lines = append(lines[1:], lines[0])
		checkRead(t, strings.Join(lines, "\n"), want)
		back := slices.Clone(lines)
		slices.Reverse(back)
		checkRead(t, strings.Join(back, "\n"), want)
	}
}

// 5.2: lines of which each is one, but that come to what may not be: no line is told.
func TestParseRange(t *testing.T) {
	for _, s := range []string{
		"keep raw 0", "keep raw ever", "keep raw 601", "keep 5m 0", "keep 5m 59", "keep 5m 6001", "keep 1h 599", "keep 1h 1099511627777", "keep 1h 9999999999999",
		"keep 1d 1", "keep 1d 7000", "keep 1d 1099511627776", "keep 1d 9999999999999", "keep 5m ever", "keep raw ever\nkeep 5m ever", "keep raw ever\nkeep 1h ever",
		"seal 0", "seal 65", "seal 4294967304", "seal 9999999999999", "seal 0000000000000", "span 0", "span 201", "span 4294967326", "span 9999999999999",
		"seal 65\nspan 3", "\n\nspan 201 # x\nseal 3\n", "keep raw 3\nkeep 5m 2",
	} {
		checkFault(t, s, api.ErrRange, 0)
	}
}

// 5.2: a line that is none is told ahead of what may not be, wherever the two stand; of several such lines the first.
func TestParseFirstFault(t *testing.T) {
	checkFault(t, "seal 0\nx", api.ErrParse, 2)
	checkFault(t, "x\nseal 0", api.ErrParse, 1)
	checkFault(t, "seal 0\nseal 1", api.ErrParse, 2)
	checkFault(t, "keep 1d 7000\n\n\nspan ever", api.ErrParse, 4)
	checkFault(t, "seal 1\nx\nseal 1\ny", api.ErrParse, 2)
	checkFault(t, "seal 1\nseal 1\nx", api.ErrParse, 2)
	checkFault(t, "seal 1\nseal x\nseal 1", api.ErrParse, 2)
}

// plain: what s says, by an expression of the lines that there are.
func plain(s string) (api.Policy, int, int) {
	p := Default()
	said := map[string]bool{}
	for i, line := range strings.Split(s, "\n") {
		line = remark.ReplaceAllString(line, "")
		if strings.Trim(line, " ") == "" {
			continue
		}
		m := lineForm.FindStringSubmatch(line)
		if m == nil || said[m[1]+m[3]] {
			return api.Policy{}, api.ErrParse, i + 1
		}
		said[m[1]+m[3]] = true
		n, _ := strconv.ParseInt(strings.Replace(m[2]+m[4], "ever", "0", 1), 10, 64)
		switch m[1] + m[3] {
		case "seal":
			p.Count = int(n)
		case "span":
			p.Span = n
		default:
			p.Age[map[string]int{"raw": 0, "5m": 1, "1h": 2, "1d": 3}[m[1]]] = n
		}
	}
	if !May(p) {
		return api.Policy{}, api.ErrRange, 0
	}
	return p, api.OK, 0
}

var remark = regexp.MustCompile(`#.*`)

var lineForm = regexp.MustCompile(`^ *(?:keep +(raw|5m|1h|1d) +([0-9]{1,13}|ever)|(seal|span) +([0-9]{1,13})) *$`)

// 5.2: all texts of six pieces, held against the expression.
func TestParsePlain(t *testing.T) {
	pieces := []string{"keep ", "raw ", "1h", " ", "7", "ever\n", "seal ", "span", "\n", "#"}
	well := 0
	for i := range 1000000 {
		var s string
		for rest := i; rest > 0; rest /= len(pieces) {
			s += pieces[rest%len(pieces)]
		}
		p, code, line := Parse(s)
		wantP, wantCode, wantLine := plain(s)
		if p != wantP || code != wantCode || line != wantLine {
			t.Fatalf("Parse(%q) = %v, %d, %d; want %v, %d, %d", s, p, code, line, wantP, wantCode, wantLine)
		}
		if code == api.OK && p != Default() {
			well++
		}
	}
	if well < 1000 {
		t.Errorf("only %d of the texts say something", well)
	}
}

// 5.2: long texts: of lines, of blanks, of words, of digits.
func TestParseLong(t *testing.T) {
	const n = 1 << 20
	checkRead(t, strings.Repeat("\n", n)+"seal 9", sealed(9, 30))
	checkRead(t, strings.Repeat(" ", n)+"seal"+strings.Repeat(" ", n)+"9"+strings.Repeat(" ", n), sealed(9, 30))
	checkRead(t, strings.Repeat("# seal 1\n", n)+"seal 9", sealed(9, 30))
	checkRead(t, "seal 9 "+strings.Repeat("#", n), sealed(9, 30))
	checkFault(t, strings.Repeat("\n", n)+"x", api.ErrParse, n+1)
	checkFault(t, strings.Repeat("seal ", n), api.ErrParse, 1)
	checkFault(t, "seal "+strings.Repeat("0", n), api.ErrParse, 1)
	checkFault(t, strings.Repeat("x", n), api.ErrParse, 1)
}

// 5.2: the lines, written out.
func TestPrint(t *testing.T) {
	for _, c := range []struct {
		p    api.Policy
		want string
	}{
		{Default(), "keep raw 60\nkeep 5m 600\nkeep 1h 6000\nkeep 1d ever\nseal 8\nspan 30\n"},
		{api.Policy{Count: 1, Span: 1}, "keep raw ever\nkeep 5m ever\nkeep 1h ever\nkeep 1d ever\nseal 1\nspan 1\n"},
		{api.Policy{Age: [api.Tiers]int64{1}, Count: 64, Span: 200}, "keep raw 1\nkeep 5m ever\nkeep 1h ever\nkeep 1d ever\nseal 64\nspan 200\n"},
		{ages(5, 70, 0, 0), "keep raw 5\nkeep 5m 70\nkeep 1h ever\nkeep 1d ever\nseal 8\nspan 30\n"},
		{ages(9, api.MaxTime, api.MaxTime, 0), "keep raw 9\nkeep 5m 1099511627776\nkeep 1h 1099511627776\nkeep 1d ever\nseal 8\nspan 30\n"},
	} {
		if s, code := Print(c.p); s != c.want || code != api.OK {
			t.Errorf("Print(%v) = %q, %d; want %q", c.p, s, code, c.want)
		}
	}
}

// 5.2: of what may not be, nothing is printed.
func TestPrintWrong(t *testing.T) {
	for _, p := range wrong() {
		if s, code := Print(p); s != "" || code != api.ErrArg {
			t.Errorf("Print(%v) = %q, %d; want nothing, ErrArg", p, s, code)
		}
	}
}

// 5.3: what is printed is read as the same; so is what was read, printed.
func TestPrintedIsRead(t *testing.T) {
	for _, p := range some() {
		s, code := Print(p)
		if code != api.OK {
			t.Fatalf("Print(%v) = %q, %d", p, s, code)
		}
		checkRead(t, s, p)
		checkRead(t, strings.TrimSuffix(s, "\n"), p)
		read, _, _ := Parse(s)
		if again, _ := Print(read); again != s {
			t.Errorf("%q was printed again as %q", s, again)
		}
	}
	for n := range int64(64) {
		p := api.Policy{Age: [api.Tiers]int64{n * n, n * n * n * 5, n * n * n * n * 60, 0}, Count: int(n) + 1, Span: 200 - n}
		s, _ := Print(p)
		checkRead(t, s, p)
	}
}
