package life

import (
	"tenor/api"
	"tenor/price"
)

// purse is what was paid, as an exact sum. The sum has a name here, so that what embeds a purse does not get the sum's own calls too.
type purse struct {
	cash *price.Worth // never changed itself, so that copies of a purse may share it
}

func empty() purse {
	return purse{price.Nothing()}
}

// put adds the amounts of flows that may be and are all in the currency.
func (p *purse) put(paid []api.Flow, cur int) {
	// Such flows have a worth on this curve, whatever their days.
	w, _ := price.Of(paid, cur, atPar())
	p.cash = p.cash.Plus(w)
}

// atPar is the curve on which 1 is worth 1 on every day that there is.
func atPar() api.Curve {
	return api.Curve{Base: 0, Kind: api.IFlat, Days: []int{api.LastDay}, Factors: []float64{1}}
}
