// Package checks holds tests of the whole project: the numbers that all layers share, the calls that the document lists, and the rules of the language.
package checks

import (
	"math"
	"testing"

	"tenor/api"
)

func TestErrorNumbers(t *testing.T) {
	for _, c := range []struct {
		name string
		got  api.Errno
		want int
	}{
		{"OK", api.OK, 0}, {"ErrArg", api.ErrArg, 1}, {"ErrLong", api.ErrLong, 2},
		{"ErrNumber", api.ErrNumber, 20},
		{"ErrDate", api.ErrDate, 50}, {"ErrRange", api.ErrRange, 51},
		{"ErrCal", api.ErrCal, 60},
		{"ErrCount", api.ErrCount, 70},
		{"ErrSpec", api.ErrSpec, 80}, {"ErrMany", api.ErrMany, 81},
		{"ErrKind", api.ErrKind, 90}, {"ErrValue", api.ErrValue, 91},
		{"ErrNodes", api.ErrNodes, 100},
		{"ErrBracket", api.ErrBracket, 120},
		{"ErrQuote", api.ErrQuote, 130}, {"ErrOrder", api.ErrOrder, 131},
		{"ErrCur", api.ErrCur, 140},
		{"ErrWord", api.ErrWord, 170}, {"ErrTree", api.ErrTree, 171}, {"ErrDeep", api.ErrDeep, 172},
		{"ErrCode", api.ErrCode, 180},
		{"ErrOver", api.ErrOver, 190},
		{"ErrDeal", api.ErrDeal, 200}, {"ErrSame", api.ErrSame, 201}, {"ErrCurve", api.ErrCurve, 202},
		{"ErrLine", api.ErrLine, 210},
		{"ErrLoop", api.ErrLoop, 230}, {"ErrPath", api.ErrPath, 231},
		{"ErrPast", api.ErrPast, 240},
		{"ErrText", api.ErrText, 260}, {"ErrSum", api.ErrSum, 261},
	} {
		if int(c.got) != c.want {
			t.Errorf("%s is %d, not %d", c.name, c.got, c.want)
		}
	}
}

func TestErrorText(t *testing.T) {
	var e error = api.ErrSum
	if e.Error() != "error 261" {
		t.Error(e.Error())
	}
}

func TestLimits(t *testing.T) {
	for _, c := range []struct {
		name      string
		got, want int
	}{
		{"LastDay", api.LastDay, 109572},
		{"FirstYear", api.FirstYear, 1900}, {"LastYear", api.LastYear, 2199},
		{"MaxRules", api.MaxRules, 64},
		{"MaxSteps", api.MaxSteps, 1200}, {"MaxPeriods", api.MaxPeriods, 1200},
		{"MaxLag", api.MaxLag, 30},
		{"MaxNodes", api.MaxNodes, 256}, {"MaxQuotes", api.MaxQuotes, 64},
		{"MaxFlows", api.MaxFlows, 4096},
		{"MaxText", api.MaxText, 65536}, {"MaxLine", api.MaxLine, 70000},
		{"MaxDepth", api.MaxDepth, 64}, {"MaxTree", api.MaxTree, 1024}, {"MaxCode", api.MaxCode, 8192},
		{"MaxDeals", api.MaxDeals, 256}, {"MaxCur", api.MaxCur, 8}, {"MaxID", api.MaxID, 1000000},
		{"MaxDigits", api.MaxDigits, 400}, {"MaxPlaces", api.MaxPlaces, 30},
		{"MaxPower", api.MaxPower, 1048576},
		{"MaxPairs", api.MaxPairs, 28},
		{"MaxShifts", api.MaxShifts, 256}, {"MaxEdges", api.MaxEdges, 256}, {"MaxParts", api.MaxParts, 1000000},
		{"MaxSaved", api.MaxSaved, 16777216},
	} {
		if c.got != c.want {
			t.Errorf("%s is %d, not %d", c.name, c.got, c.want)
		}
	}
}

func TestKinds(t *testing.T) {
	for name, l := range map[string][]int{
		"classes":    {api.FZero, api.FSub, api.FNormal, api.FInf, api.FNaN},
		"holidays":   {api.HFix, api.HNth, api.HEaster, api.HDay},
		"counts":     {api.D360, api.D365, api.DAct, api.DBond, api.DEuro, api.DOpen},
		"units":      {api.UDay, api.UWeek, api.UMonth, api.UYear},
		"stubs":      {api.SShortFirst, api.SLongFirst, api.SShortLast, api.SLongLast},
		"rates":      {api.KSimple, api.KAnnual, api.KSemi, api.KQuarter, api.KMonth, api.KCont},
		"tables":     {api.IFlat, api.ILinear, api.ICubic, api.ILog},
		"quotes":     {api.QDeposit, api.QSwap},
		"legs":       {api.LFixed, api.LFloat},
		"terms":      {api.TZero, api.TPay, api.TFixed, api.TGive, api.TBoth, api.TScale, api.TWindow, api.TRepeat},
		"operations": {api.OMark, api.OPay, api.OFixed, api.OGive, api.OScale, api.OWindow, api.ORepeat},
		"shifts":     {api.GAll, api.GNode, api.GTilt},
	} {
		checkRun(t, name, 1, l)
	}
	checkRun(t, "ways to move", 0, []int{api.CNone, api.CFollow, api.CPrecede, api.CModFollow, api.CModPrecede})
	checkRun(t, "rolls", 0, []int{api.RNone, api.REnd, api.RThird})
}

func checkRun(t *testing.T, name string, first int, l []int) {
	t.Helper()
	for i, got := range l {
		if got != first+i {
			t.Errorf("%s: the kind at place %d is %d", name, i, got)
		}
	}
}

func TestBits(t *testing.T) {
	if u := api.Bits(math.Copysign(0, -1)); u != 1<<63 {
		t.Errorf("%x", u)
	}
	if x := api.Float(0x3ff0000000000001); x != 1+0x1p-52 {
		t.Errorf("%x", x)
	}
	if u := api.Bits32(-1); u != 0xbf800000 {
		t.Errorf("%x", u)
	}
	if x := api.Float32(1); x != 0x1p-149 {
		t.Errorf("%x", x)
	}
}
