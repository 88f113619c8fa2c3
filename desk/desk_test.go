package desk_test

import (
	"fmt"
	"slices"
	"strings"
	"testing"

	"tenor/api"
	"tenor/book"
	"tenor/desk"
)

// The chapter's example, line by line and as a script.
func TestExample(t *testing.T) {
	lines := []string{"curve 1 linear 2025-01-01 2030-01-01 0.5", "deal 7 pay 4 1 2030-01-01", "value 1", "deal 7 zero", "ladder 1 0", "show 7", "drop 7", "list", "buy"}
	answers := []string{"ok", "ok", "ok 0x1p+1", "error 201", "ok 0x0p+0", "ok pay 0x1p+2 1 2030-01-01", "ok", "ok", "error 210"}
	d := desk.New()
	for i, line := range lines {
		do(t, d, line, answers[i])
	}
	run(t, desk.New(), strings.Join(lines, "\n"), strings.Join(answers, "\n")+"\n")
}

// Promise 21.1: a new desk has a new book.
func TestNew(t *testing.T) {
	d := desk.New()
	if tells(d.Book()) != tells(book.New()) {
		t.Error("the book of a new desk is not a new one")
	}
	run(t, d, "list\ntotal\nvalue 1\nclear 8\nvalue 9\none 1 1\nshow 1\nflows 1\ndrop 1\nfactor 1 2025-01-01\nreport 1\nladder 1 0",
		"ok\nok 0x0p+0\nerror 202\nerror 202\nerror 140\nerror 200\nerror 200\nerror 200\nerror 200\nerror 202\nerror 202\nerror 202\n")
	do(t, d, "deal 5 zero", "ok")
	do(t, desk.New(), "list", "ok")
}

// Promise 21.1: Book is a copy; neither knows of the other.
func TestBook(t *testing.T) {
	d := set(t, "curve 1 linear 2025-01-01 2030-01-01 0.5", "rate 1 3", "deal 7 pay 4 1 2030-01-01")
	same := tells(d.Book())
	b := d.Book()
	if x, e := b.Total(); x != 6 || e != api.OK {
		t.Errorf("Total is %v, %v", x, e)
	}
	b.Drop(7)
	b.Clear(1)
	b.Rate(1, 1)
	b.Add(8, "zero")
	if tells(d.Book()) != same {
		t.Error("what was done to a copy has changed the desk's book")
	}
	do(t, d, "total", "ok 0x1.8p+2")
	b = d.Book()
	for _, line := range []string{"drop 7", "clear 1", "rate 1 1", "deal 8 zero"} {
		do(t, d, line, "ok")
	}
	if tells(b) != same {
		t.Error("what the desk did has changed a copy")
	}
}

// Promise 21.2: blanks and tabs part words, as many as there are, and nothing else does.
func TestWords(t *testing.T) {
	d := set(t, "deal 3 zero")
	for _, line := range []string{"list", " list", "list ", "\tlist", "list\t", "\t  \tlist  \t\t"} {
		do(t, d, line, "ok 3")
	}
	for _, line := range []string{"show 3", "show\t3", "  show \t 3\t"} {
		do(t, d, line, "ok zero")
	}
	for _, line := range []string{"", " ", "\t", "  \t \t"} {
		do(t, d, line, "")
	}
	for _, gap := range []string{"\n", "\r", "\v", "\f", "\x00", "\x1f", "\u00a0", "\u0085", "\u2003", "\u3000", "\ufeff", "\xff", "\xe2", "\xc2", "\xa0", "\x85", "é", ",", "_"} {
		refuse(t, d, gap, "error 210")
		refuse(t, d, " "+gap+"\t", "error 210")
		refuse(t, d, "list"+gap, "error 210")
		refuse(t, d, gap+"list", "error 210")
		refuse(t, d, "list "+gap, "error 210")
		refuse(t, d, "show"+gap+"3", "error 210")
		refuse(t, d, "show 3"+gap, "error 210")
		refuse(t, d, "show "+gap+"\t3", "error 210")
		refuse(t, d, "deal 4 zero"+gap, "error 170")
		refuse(t, d, "deal 4 "+gap+"zero", "error 170")
		refuse(t, d, "deal 4 give"+gap+"zero", "error 170")
		refuse(t, d, "deal 4 zero "+gap, "error 170")
		refuse(t, d, "deal 4 "+gap, "error 170")
	}
	refuse(t, d, "List", "error 210")
	refuse(t, d, "LIST", "error 210")
	refuse(t, d, "lis", "error 210")
	refuse(t, d, "listt", "error 210")
	refuse(t, d, "# list", "error 210")
}

// Promise 21.2: a line has at most 70,000 bytes, which is asked first.
func TestLong(t *testing.T) {
	d := set(t, "deal 3 zero")
	fill := func(line string, n int) string { return line + strings.Repeat(" ", n-len(line)) }
	do(t, d, fill("", 70000), "")
	do(t, d, fill("", 70001), "error 2")
	do(t, d, strings.Repeat("\t", 70001), "error 2")
	do(t, d, fill("list", 70000), "ok 3")
	refuse(t, d, fill("list", 70001), "error 2")
	refuse(t, d, strings.Repeat("x", 70000), "error 210")
	refuse(t, d, strings.Repeat("x", 70001), "error 2")
	refuse(t, d, strings.Repeat("é", 35000), "error 210")
	refuse(t, d, strings.Repeat("é", 35000)+"x", "error 2")
	refuse(t, d, fill("buy", 70001), "error 2")
	refuse(t, d, fill("drop 3", 70001), "error 2")
	refuse(t, d, strings.Repeat("x ", 35000), "error 210")
	refuse(t, d, "drop "+strings.Repeat("3 ", 34997), "error 210")
	do(t, d, fill("drop 3", 70000), "ok")
}

// leaves is the words of a deal of n payments of 1, the number of each with so many noughts ahead, in a tree that is nowhere deep.
func leaves(n int, noughts func(i int) int) string {
	var l []string
	for i := range n {
		l = append(l, "pay "+strings.Repeat("0", noughts(i))+"1 1 2030-01-01")
	}
	for len(l) > 1 {
		var more []string
		for i := 0; i+1 < len(l); i += 2 {
			more = append(more, "both "+l[i]+" "+l[i+1])
		}
		l = append(more, l[len(l)/2*2:]...)
	}
	return l[0]
}

// Promise 21.3: a deal's text is the words with one blank between two; that is what may have 65,536 bytes.
func TestLongDeal(t *testing.T) {
	text := leaves(160, func(int) int { return 380 })
	text = leaves(160, func(i int) int { return 380 + (65536-len(text))/160 + min(1, max(0, (65536-len(text))%160-i)) })
	if len(text) != 65536 {
		t.Fatalf("%d bytes", len(text))
	}
	d := set(t)
	do(t, d, "deal 1 "+text, "ok")
	do(t, d, "deal 2  \t"+strings.ReplaceAll(text, " pay ", " \tpay\t  "), "ok")
	one, e := d.Book().Text(1)
	two, f := d.Book().Text(2)
	if one != two || e != api.OK || f != api.OK || strings.Count(one, "pay 0x1p+0 1 2030-01-01") != 160 {
		t.Errorf("the texts are %s and %s", short(one), short(two))
	}
	longer := strings.Replace(text, "pay 0", "pay 00", 1)
	refuse(t, d, "deal 3 "+longer, "error 2")
	refuse(t, d, "deal 1 "+longer, "error 2")
	refuse(t, d, "deal 0 "+longer, "error 1")
	refuse(t, d, "deal x "+longer, "error 210")
	refuse(t, d, "deal 1 "+text, "error 201")
}

// Promise 21.1: a script's lines are what stands between line feeds; those that have a word are done.
func TestRun(t *testing.T) {
	d := set(t, "deal 3 zero")
	long := strings.Repeat(" ", 70001)
	for _, x := range []struct{ script, want string }{
		{"", ""}, {"\n", ""}, {"\n\n\n", ""}, {" \t ", ""}, {" \n\t\n", ""},
		{"list", "ok 3\n"}, {"list\n", "ok 3\n"}, {"\nlist", "ok 3\n"}, {"\n\nlist\n\n \n\tshow 3", "ok 3\nok zero\n"}, {"list\nlist", "ok 3\nok 3\n"},
		{"list\n\n", "ok 3\n"}, {"list\r\nlist\r\n", "error 210\nerror 210\n"}, {"list\n\r\nlist", "ok 3\nerror 210\nok 3\n"}, {"list\rlist", "error 210\n"}, {"list\n\x00\n\xff\n\u00a0\n\u0085", "ok 3\nerror 210\nerror 210\nerror 210\nerror 210\n"},
		{"list\u2028list", "error 210\n"}, {"show\n3", "error 210\nerror 210\n"}, {"show 3\\nlist", "error 210\n"},
		{long, ""}, {long + "\nlist\n" + long + "\n", "ok 3\n"}, {long + "list\nlist", "error 2\nok 3\n"}, {"list" + long + "\n" + long + "\t\nlist\n" + long + "\xff", "error 2\nok 3\nerror 2\n"}, {long[1:] + "\nlist" + long[5:], "ok 3\n"},
	} {
		run(t, d, x.script, x.want)
	}
	run(t, d, "deal 1 zero\nlist\nbuy\ndrop 3\nlist\ndrop 3\nlist\n", "ok\nok 1 3\nerror 210\nok\nok 1\nerror 200\nok 1\n")
}

// Promise 21.3: curve.
func TestCurve(t *testing.T) {
	d := set(t, "curve 2 linear 2025-01-01 2026-01-01 0.5 2028-01-01 0x1p-2")
	c, has, _, e := d.Book().Get(2)
	if !has || e != api.OK || c.Base != 45656 || c.Kind != api.ILinear || !slices.Equal(c.Days, []int{46021, 46751}) || !slices.Equal(c.Factors, []float64{0.5, 0.25}) {
		t.Errorf("the curve is %v, %t, %v", c, has, e)
	}
	for i, kind := range []string{"flat", "linear", "cubic", "log"} {
		do(t, d, "curve 8 "+kind+" 1900-01-01 2199-12-31 1e-3", "ok")
		if c, has, _, _ := d.Book().Get(8); !has || c.Base != 0 || c.Kind != api.IFlat+i || !slices.Equal(c.Days, []int{109572}) || !slices.Equal(c.Factors, []float64{0.001}) {
			t.Errorf("the curve is %v, %t", c, has)
		}
	}
	for _, line := range []string{"curve", "curve 1", "curve 1 flat", "curve 1 flat 2025-01-01", "curve 1 flat 2025-01-01 2026-01-01", "curve 1 flat 2025-01-01 2026-01-01 0.5 2027-01-01", "curve 1 flat 2025-01-01 0.5",
		"curve x flat 2025-01-01 2026-01-01 0.5", "curve 01 flat 2025-01-01 2026-01-01 0.5", "curve 1.0 flat 2025-01-01 2026-01-01 0.5", "curve 9223372036854775808 flat 2025-01-01 2026-01-01 0.5",
		"curve 1 1 2025-01-01 2026-01-01 0.5", "curve 1 Flat 2025-01-01 2026-01-01 0.5", "curve 1 fla 2025-01-01 2026-01-01 0.5", "curve 1 logs 2025-01-01 2026-01-01 0.5", "curve 9 open 2025-01-01 2026-01-01 0.5",
		"curve 1 flat 2025-1-1 2026-01-01 0.5", "curve 1 flat 45656 2026-01-01 0.5", "curve 1 flat 1899-12-31 2026-01-01 0.5", "curve 1 flat 2025-01-01 2026-02-29 0.5", "curve 1 flat 2025-01-01 2200-01-01 0.5", "curve 1 flat 2025-01-01 x 0.5",
		"curve 1 flat 2025-01-01 2026-01-01 1e400", "curve 1 flat 2025-01-01 2026-01-01 .5", "curve 1 flat 2025-01-01 2026-01-01 0x1.0p-1", "curve 1 flat 2025-01-01 2026-01-01 x", "curve 1 flat 2025-01-01 2026-01-01 0.5 2027-01-01 x",
		"curve 1 flat 2025-01-01 2026-01-01 0.5 2027-01-01 0.5 x 0.5", "curve 9 flat 2025-01-01 2024-01-01 x", "curve 1 flat 2025-01-01 2026-01-01 0.5 0.5", "curve 1 flat 2025-01-01 2026-01-01 2027-01-01 0.5 0.5"} {
		refuse(t, d, line, "error 210")
	}
	refuse(t, d, "curve 9 flat 2025-01-01 2024-01-01 0.5", "error 140")
	refuse(t, d, "curve 0 flat 2025-01-01 2026-01-01 0.5", "error 140")
	refuse(t, d, "curve -1 flat 2025-01-01 2026-01-01 0.5", "error 140")
	for _, nodes := range []string{"2024-01-01 0.5", "2025-01-01 0.5", "2026-01-01 0", "2026-01-01 -0", "2026-01-01 -0.5", "2026-01-01 1e-400", "2026-01-01 0.5 2026-01-01 0.5", "2026-01-01 0.5 2025-06-01 0.5"} {
		refuse(t, d, "curve 2 flat 2025-01-01 "+nodes, "error 100")
	}
	var nodes []string
	for i := range 256 {
		nodes = append(nodes, dayText(1+i), "0.5")
	}
	do(t, d, "curve 1 flat 1900-01-01 "+strings.Join(nodes[:510], " "), "ok")
	refuse(t, d, "curve 1 flat 1900-01-01 "+strings.Join(nodes, " "), "error 100")
	refuse(t, d, "curve 1 flat 1900-01-01 "+strings.Join(nodes, " ")+" x 0.5", "error 210")
	refuse(t, d, "curve 1 flat 1900-01-01 "+strings.Join(nodes[:511], " "), "error 210")
}

// Promise 21.3: build. The bits were reckoned outside of the program, in rationals.
func TestBuild(t *testing.T) {
	quotes := "dep act360 2025-07-01 0.04 dep act365 2026-01-01 0.0415 swap bond 2028-01-31 6 0.045 swap euro 2030-01-15 12 0.0475 swap actact 2033-03-01 5 -0.01 dep actact 2034-01-01 0.07"
	d := set(t, "build 1 flat 2025-01-15 "+quotes, "build 2 linear 2025-01-15 "+quotes)
	for day, want := range map[string][2]string{
		"2025-01-15": {"0x1p+0", "0x1p+0"}, "2025-07-01": {"0x1.f6ac317fad8efp-1", "0x1.f6ac317fad8efp-1"}, "2026-01-01": {"0x1.ec59e488bda54p-1", "0x1.ec59e488bda54p-1"},
		"2028-01-31": {"0x1.bd5590be6d982p-1", "0x1.bef7372dcc56ap-1"}, "2030-01-15": {"0x1.919c2ff8814d5p-1", "0x1.9588e4abbb97p-1"}, "2033-03-01": {"0x1.1257cb21cf866p+0", "0x1.12fb65fdf37ccp+0"},
		"2034-01-01": {"0x1.3aa0f1768bb97p-1", "0x1.3aa0f1768bb97p-1"}, "2025-10-10": {"0x1.f6ac317fad8efp-1", "0x1.f101ccd12ca65p-1"}, "2027-05-05": {"0x1.ec59e488bda54p-1", "0x1.cf2630f39daafp-1"},
		"2029-12-31": {"0x1.bd5590be6d982p-1", "0x1.9667674bfff82p-1"}, "2033-12-31": {"0x1.1257cb21cf866p+0", "0x1.3b65d33912b72p-1"},
	} {
		do(t, d, "factor 1 "+day, "ok "+want[0])
		do(t, d, "factor 2 "+day, "ok "+want[1])
	}
	do(t, d, "factor 1 2034-01-02", "error 51")
	for i, kind := range []string{"flat", "linear", "cubic", "log"} {
		do(t, d, "build 3 "+kind+" 1900-01-01 dep act360 1900-12-27 0.25", "ok")
		do(t, d, "factor 3 1900-12-27", "ok 0x1.999999999999ap-1")
		if c, _, _, _ := d.Book().Get(3); c.Kind != api.IFlat+i {
			t.Errorf("the kind is %d, not %s", c.Kind, kind)
		}
	}
	// 0.1 is a binary32 first.
	do(t, d, "build 3 flat 1900-01-01 dep act360 1900-12-27 0.1", "ok")
	do(t, d, "factor 3 1900-12-27", "ok 0x1.d1745d0cb1b81p-1")
}

// Promise 21.3: what build refuses, in its order.
func TestBuildRefusals(t *testing.T) {
	d := set(t, "build 1 flat 2025-01-01 dep act360 2026-01-01 0.04", "curve 3 log 2025-01-01 2026-01-01 0.5")
	for _, words := range []string{"", "1", "1 flat", "1 flat 2025-01-01", "1 flat 2025-01-01 dep", "1 flat 2025-01-01 dep act360", "1 flat 2025-01-01 dep act360 2026-01-01", "1 flat 2025-01-01 dep act360 2026-01-01 0.04 0.04",
		"1 flat 2025-01-01 dep act360 2026-01-01 12 0.04", "1 flat 2025-01-01 swap act360 2026-01-01 0.04", "1 flat 2025-01-01 swap act360 2026-01-01 12", "1 flat 2025-01-01 swap act360 2026-01-01 12 0.04 dep",
		"1 flat 2025-01-01 dep act360 2026-01-01 0.04 swap bond 2027-01-01 12", "1 flat 2025-01-01 swap bond 2026-01-01 12 0.04 dep bond 2027-01-01", "1 flat 2025-01-01 act360 2026-01-01 0.04", "1 flat dep act360 2026-01-01 0.04",
		"x flat 2025-01-01 dep act360 2026-01-01 0.04", "1 flit 2025-01-01 dep act360 2026-01-01 0.04", "1 flat 2025-13-01 dep act360 2026-01-01 0.04", "1 flat 2025-01-01 deposit act360 2026-01-01 0.04", "1 flat 2025-01-01 Dep act360 2026-01-01 0.04",
		"1 flat 2025-01-01 zero act360 2026-01-01 0.04", "1 flat 2025-01-01 dep act361 2026-01-01 0.04", "1 flat 2025-01-01 dep open 2026-01-01 0.04", "1 flat 2025-01-01 dep 1 2026-01-01 0.04", "1 flat 2025-01-01 dep act360 2026-02-29 0.04",
		"1 flat 2025-01-01 dep act360 2026-01-01 4%", "1 flat 2025-01-01 dep act360 2026-01-01 1e400", "1 flat 2025-01-01 swap act360 2026-01-01 12.0 0.04", "1 flat 2025-01-01 swap act360 2026-01-01 012 0.04", "1 flat 2025-01-01 swap act360 2026-01-01 12 x",
		"1 flat 2025-01-01 dep act360 2026-01-01 0.04 dep act360 2026-01-01 x", "9 flat 2025-01-01 dep act360 2024-01-01 x", "1 flat 2025-01-01 2026-01-01 0.5", "1 flat 2025-01-01 dep act360 2026-01-01 0.04 dep act365 2027-01-01 0.04 buy bond 2028-01-01 0.04"} {
		refuse(t, d, "build "+words, "error 210")
	}
	for words, want := range map[string]string{
		"dep act360 2026-01-01 3e39": "error 130", "dep act360 2026-01-01 -1e308": "error 130", "swap bond 2026-01-01 0 0.05": "error 130", "swap bond 2026-01-01 121 0.05": "error 130", "swap bond 2026-01-01 -1 0.05": "error 130",
		"dep act360 2025-01-01 0.04": "error 131", "dep act360 2024-01-01 0.04": "error 131", "dep act360 2026-01-01 0.04 dep act360 2026-01-01 0.04": "error 131", "dep act360 2026-01-01 -2": "error 120",
		"dep act360 2026-01-01 0.04 dep act360 2027-01-01 -2 dep act360 2026-01-01 0.04": "error 131", "swap bond 2125-02-01 1 0.04": "error 81",
	} {
		refuse(t, d, "build 1 flat 2025-01-01 "+words, want)
		refuse(t, d, "build 9 flat 2025-01-01 "+words, want)
		refuse(t, d, "build 3 flat 2025-01-01 "+words, want)
	}
	refuse(t, d, "build 9 flat 2025-01-01 dep act360 2026-01-01 0.04", "error 140")
	refuse(t, d, "build 0 flat 2025-01-01 dep act360 2026-01-01 0.04", "error 140")
	var quotes []string
	for i := range 65 {
		quotes = append(quotes, fmt.Sprintf("dep act365 %s 0.05", dayText(100+i)))
	}
	do(t, d, "build 2 flat 1900-01-01 "+strings.Join(quotes[:64], " "), "ok")
	refuse(t, d, "build 2 flat 1900-01-01 "+strings.Join(quotes, " "), "error 2")
	refuse(t, d, "build 2 flat 1900-01-01 "+strings.Join(quotes, " ")+" dep act365 x 0.05", "error 210")
}

// Promise 21.3: clear, rate, deal and drop.
func TestChanges(t *testing.T) {
	d := set(t, "curve 1 flat 2025-01-01 2030-01-01 0.5", "curve 8 flat 2025-01-01 2030-01-01 0.5")
	do(t, d, "clear 1", "ok")
	if _, has, _, _ := d.Book().Get(1); has {
		t.Error("the curve is there still")
	}
	if _, has, _, _ := d.Book().Get(8); !has {
		t.Error("the other curve is gone")
	}
	refuse(t, d, "clear 1", "error 202")
	refuse(t, d, "clear 9", "error 140")
	refuse(t, d, "clear 0", "error 140")
	do(t, d, "rate 3 1e-3", "ok")
	do(t, d, "rate 8 0x1p-1074", "ok")
	do(t, d, "rate 4 007.5e0", "ok")
	for cur, want := range map[int]float64{1: 1, 3: 0.001, 4: 7.5, 8: 0x1p-1074} {
		if _, _, x, _ := d.Book().Get(cur); x != want {
			t.Errorf("the rate of %d is %v, not %v", cur, x, want)
		}
	}
	refuse(t, d, "rate 9 0", "error 140")
	for _, x := range []string{"0", "-0", "-1", "-0x0p+0", "1e-400"} {
		refuse(t, d, "rate 3 "+x, "error 91")
	}
	do(t, d, "deal 7 zero", "ok")
	do(t, d, "deal 1000000 \tscale  2 pay 1e1 8 2030-01-01", "ok")
	do(t, d, "show 1000000", "ok scale 0x1p+1 pay 0x1.4p+3 8 2030-01-01")
	for words, want := range map[string]string{"0 zero": "error 1", "-1 zero": "error 1", "1000001 buy": "error 1", "7 buy": "error 170", "7 zero": "error 201", "7 pay": "error 170", "8 pay 1 9 2030-01-01": "error 170", "8 zero zero": "error 170",
		"8 scale 1e308 pay 1e308 1 2030-01-01": "error 91", "8 repeat 4096 1 both pay 1 1 1900-01-01 zero": "error 51", "8 repeat 4096 1 both pay 1 1 1900-01-01 pay 1 1 1900-01-01": "error 81", "8 " + strings.Repeat("give ", 64) + "zero": "error 172"} {
		refuse(t, d, "deal "+words, want)
	}
	do(t, d, "deal 9 "+strings.Repeat("give ", 63)+"zero", "ok")
	do(t, d, "drop 7", "ok")
	do(t, d, "list", "ok 9 1000000")
	refuse(t, d, "drop 7", "error 200")
	refuse(t, d, "drop 0", "error 200")
	for i := range 254 {
		do(t, d, fmt.Sprintf("deal %d zero", 10+i), "ok")
	}
	refuse(t, d, "deal 500 zero", "error 81")
	refuse(t, d, "deal 10 zero", "error 201")
}

// Promise 21.3: of each first word how many words may stand behind it, and what these must be.
func TestForms(t *testing.T) {
	d := set(t, "curve 1 flat 2025-01-01 2030-01-01 0.5", "deal 1 pay 1 1 2030-01-01")
	for _, x := range []struct {
		word string
		good []string
	}{
		{"clear", []string{"1"}}, {"rate", []string{"1", "0.5"}}, {"drop", []string{"1"}}, {"list", nil}, {"show", []string{"1"}}, {"one", []string{"1", "1"}}, {"value", []string{"1"}}, {"total", nil},
		{"factor", []string{"1", "2030-01-01"}}, {"report", []string{"1"}}, {"ladder", []string{"1", "0.5"}}, {"flows", []string{"1"}}, {"deal", []string{"2", "zero"}},
	} {
		line := strings.Join(append([]string{x.word}, x.good...), " ")
		for n := range len(x.good) {
			refuse(t, d, strings.Join(append([]string{x.word}, x.good[:n]...), " "), "error 210")
		}
		if x.word != "deal" {
			for _, more := range []string{"1", "0.5", "2030-01-01", "x", "ok"} {
				refuse(t, d, line+" "+more, "error 210")
			}
			for i, good := range x.good {
				for _, bad := range []string{"x", "01", "-0", "1.", "+1", "2030-1-01", "2030-02-29", "1e400", "0x1.0p+0", "9223372036854775808", "0x1p+0", "0.25", "2031-01-01"} {
					isNumber := strings.Contains("01 -0 0x1p+0 0.25 9223372036854775808", bad)
					if good == "0.5" && isNumber || good == "2030-01-01" && bad == "2031-01-01" {
						continue
					}
					words := append([]string{x.word}, x.good...)
					words[1+i] = bad
					refuse(t, d, strings.Join(words, " "), "error 210")
				}
			}
		}
		if got := set(t, "curve 1 flat 2025-01-01 2030-01-01 0.5", "deal 1 pay 1 1 2030-01-01").Do(line); got != "ok" && !strings.HasPrefix(got, "ok ") {
			t.Errorf("Do(%s) is %s", line, got)
		}
	}
	refuse(t, d, "deal x zero", "error 210")
	refuse(t, d, "deal 02 zero", "error 210")
	refuse(t, d, "deal zero", "error 210")
}

// Promise 21.3: what is told. The bits were reckoned outside of the program, in rationals.
func TestTells(t *testing.T) {
	d := set(t, "curve 2 linear 2025-01-01 2026-01-01 0.97 2030-01-01 0x1.9p-1", "curve 1 flat 2025-02-01 2027-01-01 9e-1 2031-01-01 0.8", "rate 2 1.25",
		"deal 3 fixed 1000 0.05 bond 2025-01-31 2027-01-31 6 2", "deal 20 both pay 0.1 1 2026-06-01 give pay 0.3 2 2029-05-05", "deal 1 repeat 6 6 pay 5 1 2024-12-31")
	for _, x := range []struct{ line, want string }{
		{"list", "ok 1 3 20"}, {"value 1", "ok 0x1.899999999999ap+4"}, {"value 2", "ok 0x1.7c13029bde9b6p+6"}, {"total", "ok 0x1.1ebf14d49e545p+7"},
		{"report 1", "ok 1 6 0x1.88p+4 3 4 0x0p+0 20 2 0x1.99999ap-4"}, {"report 2", "ok 1 6 0x0p+0 3 4 0x1.7d0c94p+6 20 2 -0x1.f3212ap-3"},
		{"one 20 2", "ok -0x1.f3212ae1c0416p-3"}, {"one 3 1", "ok 0x0p+0"}, {"factor 2 2026-01-01", "ok 0x1.f0a3d70a3d70ap-1"}, {"factor 1 2025-02-01", "ok 0x1p+0"},
		{"show 20", "ok both pay 0x1.999999999999ap-4 1 2026-06-01 give pay 0x1.3333333333333p-2 2 2029-05-05"}, {"show 1", "ok repeat 6 6 pay 0x1.4p+2 1 2024-12-31"},
		{"flows 1", "ok 2024-12-31 0x1.4p+2 1 2025-06-30 0x1.4p+2 1 2025-12-31 0x1.4p+2 1 2026-06-30 0x1.4p+2 1 2026-12-31 0x1.4p+2 1 2027-06-30 0x1.4p+2 1"},
		{"flows 3", "ok 2025-07-31 0x1.9p+4 2 2026-01-31 0x1.9p+4 2 2026-07-31 0x1.9p+4 2 2027-01-31 0x1.9p+4 2"},
		{"flows 20", "ok 2026-06-01 0x1.999999999999ap-4 1 2029-05-05 -0x1.3333333333333p-2 2"},
		{"ladder 1 0.01", "ok -0x1.5da07f3e65ep-4 0x0p+0"}, {"ladder 1 -0x1p-2", "ok 0x1.61b640f41c3p+1 0x0p+0"},
		{"ladder 2 0.01", "ok -0x1.84043821b92p-1 -0x1.9f0fde23ec4p-2"}, {"ladder 2 -25e-2", "ok 0x1.5a1ecb8f211acp+4 0x1.4b4c5875ea91cp+4"}, {"ladder 2 -0", "ok 0x0p+0 0x0p+0"},
		{"one 2 9", "error 200"}, {"one 1 9", "error 140"}, {"one 1 3", "error 202"}, {"value 0", "error 140"}, {"value 3", "error 202"}, {"show 2", "error 200"}, {"flows 2", "error 200"}, {"report 3", "error 202"}, {"report 9", "error 140"},
		{"ladder 3 0.1", "error 202"}, {"ladder 9 0.1", "error 140"}, {"ladder 1 1e308", "error 91"}, {"factor 9 2025-01-01", "error 140"}, {"factor 3 2025-01-01", "error 202"}, {"factor 1 2025-01-31", "error 51"}, {"factor 1 2031-01-02", "error 51"},
	} {
		refuse(t, d, x.line, x.want)
	}
	do(t, d, "deal 5 both zero zero", "ok")
	do(t, d, "deal 6 pay -0 4 1900-01-01", "ok")
	for _, x := range []struct{ line, want string }{
		{"flows 5", "ok"}, {"flows 6", "ok 1900-01-01 -0x0p+0 4"}, {"show 6", "ok pay -0x0p+0 4 1900-01-01"}, {"total", "error 202"}, {"list", "ok 1 3 5 6 20"},
		{"report 2", "ok 1 6 0x0p+0 3 4 0x1.7d0c94p+6 5 0 0x0p+0 6 1 0x0p+0 20 2 -0x1.f3212ap-3"},
	} {
		refuse(t, d, x.line, x.want)
	}
	do(t, d, "deal 8 pay 1e300 1 2026-01-01", "ok")
	refuse(t, d, "report 1", "error 91")
	refuse(t, d, "report 2", "ok 1 6 0x0p+0 3 4 0x1.7d0c94p+6 5 0 0x0p+0 6 1 0x0p+0 8 1 0x0p+0 20 2 -0x1.f3212ap-3")
	do(t, d, "deal 9 pay 1 1 2031-01-02", "ok")
	for _, line := range []string{"value 1", "one 9 1", "ladder 1 0", "total"} {
		refuse(t, d, line, "error 51")
	}
	// The first error by rising number: that of the deal 8.
	refuse(t, d, "report 1", "error 91")
	e := set(t, "curve 1 flat 2025-01-01 2026-01-01 0.5")
	do(t, e, "report 1", "ok")
	do(t, e, "ladder 1 0.5", "ok 0x0p+0")
	do(t, e, "value 1", "ok 0x0p+0")
}

// Promises 21.4 and 21.6 (W10), with 21.2 and 21.3: scattered lines, many of them spoilt, each answer against the chapter's words; what is refused changes nothing.
func TestScattered(t *testing.T) {
	state := uint64(214)
	answers, done := map[string]int{}, map[string]int{}
	for range 150 {
		d, c := desk.New(), &clerk{book.New()}
		same := tells(c.b)
		for range 120 {
			line := someLine(&state)
			if below(&state, 4) == 0 {
				line = spoilt(&state, line)
			}
			want := c.Do(line)
			if got := d.Do(line); got != want {
				t.Fatalf("Do(%q) is %s, not %s", line, got, want)
			}
			kind, _, _ := strings.Cut(want, " ")
			if answers[want]++; kind == "ok" {
				first, _, _ := strings.Cut(strings.TrimLeft(line, " \t"), " ")
				done[first]++
				same = tells(c.b)
			}
			if tells(d.Book()) != same {
				t.Fatalf("behind %q, answered by %s, the book is another", line, want)
			}
		}
	}
	for _, e := range []api.Errno{api.ErrArg, api.ErrRange, api.ErrValue, api.ErrNodes, api.ErrBracket, api.ErrQuote, api.ErrOrder, api.ErrCur, api.ErrWord, api.ErrDeal, api.ErrSame, api.ErrCurve, api.ErrLine} {
		if answers[e.Error()] < 5 {
			t.Errorf("%v came only %d times", e, answers[e.Error()])
		}
	}
	for _, first := range strings.Fields("curve build clear rate deal drop list show one value total factor report ladder flows") {
		if done[first] < 50 {
			t.Errorf("%s was done only %d times", first, done[first])
		}
	}
}

// Promises 21.4 and 21.6: lines of scattered bytes.
func TestBytes(t *testing.T) {
	state := uint64(216)
	d, c := set(t, "deal 3 zero"), &clerk{book.New()}
	c.Do("deal 3 zero")
	for range 3000 {
		line := make([]byte, below(&state, 40))
		for i := range line {
			line[i] = pick(&state, byte(scatter(&state)), ' ', '\t', '3', 0xc2, 0xa0)
		}
		text := pick(&state, "", "list", "show", "deal 4 ") + string(line)
		do(t, d, text, c.Do(text))
	}
}

// Promise 21.5: Run is Do, line by line, and two desks that were given the same lines tell the same.
func TestRunIsDo(t *testing.T) {
	state := uint64(215)
	for range 60 {
		one, other, third := desk.New(), desk.New(), desk.New()
		script, want := "", ""
		for range 60 {
			line := someLine(&state)
			if below(&state, 4) == 0 {
				line = strings.ReplaceAll(spoilt(&state, line), "\n", "")
			}
			if below(&state, 12) == 0 {
				line = pick(&state, "", " ", "\t\t", "\r", strings.Repeat(" ", 70001), "list"+strings.Repeat(" ", 70000))
			}
			script += line + "\n"
			if strings.Trim(line, " \t") != "" {
				want += one.Do(line) + "\n"
			}
			if below(&state, 20) == 0 {
				run(t, other, script, want)
				script, want = "", ""
			}
		}
		script = strings.TrimSuffix(script, "\n")
		run(t, other, script, want)
		run(t, third, script, set(t).Run(script))
		if tells(one.Book()) != tells(other.Book()) {
			t.Fatal("the books are not the same")
		}
	}
}

// Promise 21.5 (W2): in which order deals, curves and rates were given makes nothing.
func TestAnyOrder(t *testing.T) {
	state := uint64(217)
	told := 0
	for range 120 {
		var lines, asked []string
		for cur := 1; cur <= 4; cur++ {
			lines = append(lines, fmt.Sprintf("rate %d 0.%d", cur, 1+below(&state, 1000)), fmt.Sprintf("curve %d %s 2024-01-01%s", cur, pick(&state, "flat", "linear", "cubic", "log"), someNodes(&state)))
			asked = append(asked, fmt.Sprintf("value %d", cur), fmt.Sprintf("report %d", cur), fmt.Sprintf("ladder %d 0.01", cur))
		}
		for id := range 8 {
			lines = append(lines, fmt.Sprintf("deal %d %s", 1+id, someDeal(&state, 2)))
		}
		script := "list\ntotal\n" + strings.Join(asked, "\n")
		d := desk.New()
		d.Run(strings.Join(lines, "\n"))
		want := d.Run(script)
		told += strings.Count(want, "ok 0x") + strings.Count(want, "ok -0x")
		for range 3 {
			for i := range lines {
				k := i + below(&state, len(lines)-i)
				lines[i], lines[k] = lines[k], lines[i]
			}
			d := desk.New()
			d.Run(strings.Join(lines, "\n"))
			run(t, d, script, want)
			// Some deals are dropped and given again.
			for _, line := range lines {
				if w := strings.Fields(line); w[0] == "deal" && d.Do("drop "+w[1]) == "ok" {
					do(t, d, line, "ok")
				}
			}
			run(t, d, script, want)
		}
	}
	if told < 300 {
		t.Errorf("only %d numbers were told", told)
	}
}
