package flow

import (
	"cmp"
	"slices"

	"tenor/acc"
	"tenor/api"
)

// key is what the flows share that are netted into one.
type key struct {
	cur, day int
}

// Net is one flow of each day and currency that occurs, of the exact sum of its amounts, rounded once.
func Net(l []api.Flow) ([]api.Flow, api.Errno) {
	if e, _ := Check(l); e != api.OK {
		return nil, e
	}
	keys, sums := sumByKey(l)
	slices.SortFunc(keys, compareKeys)
	var netted []api.Flow
	for _, k := range keys {
		amount := sums[k].Value()
		if !isNumber(amount) {
			return nil, api.ErrValue
		}
		netted = append(netted, api.Flow{Day: k.day, Amount: amount, Cur: k.cur})
	}
	return netted, api.OK
}

// sumByKey is the keys that occur, each once, and the exact sum of each. The keys stand beside the map so that nothing is told in the map's order.
func sumByKey(l []api.Flow) ([]key, map[key]*acc.Acc) {
	var keys []key
	sums := map[key]*acc.Acc{}
	for _, f := range l {
		k := key{f.Cur, f.Day}
		sum, ok := sums[k]
		if !ok {
			sum = acc.New()
			sums[k] = sum
			keys = append(keys, k)
		}
		sum.Add(f.Amount)
	}
	return keys, sums
}

// compareKeys puts currencies ahead of days.
func compareKeys(a, b key) int {
	return cmp.Or(cmp.Compare(a.cur, b.cur), cmp.Compare(a.day, b.day))
}
