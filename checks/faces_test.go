package checks

import (
	"tenor/acc"
	"tenor/api"
	"tenor/bond"
	"tenor/book"
	"tenor/boot"
	"tenor/cal"
	"tenor/code"
	"tenor/count"
	"tenor/curve"
	"tenor/date"
	"tenor/deal"
	"tenor/desk"
	"tenor/flow"
	"tenor/fn"
	"tenor/fx"
	"tenor/grid"
	"tenor/ieee"
	"tenor/interp"
	"tenor/life"
	"tenor/price"
	"tenor/rate"
	"tenor/risk"
	"tenor/save"
	"tenor/sched"
	"tenor/solve"
	"tenor/text"
	"tenor/vm"
)

// Each call that the document lists, with its signature: where one is missing or another, this does not compile.
var (
	// ieee
	_ func(float64) int                      = ieee.Class
	_ func(float64) bool                     = ieee.Negative
	_ func(float64, float64) bool            = ieee.Same
	_ func(float64) (int, bool)              = ieee.Rank
	_ func(int) (float64, bool)              = ieee.At
	_ func(float64) float64                  = ieee.Up
	_ func(float64) float64                  = ieee.Down
	_ func(float64, float64) (float64, bool) = ieee.Mid
	_ func(float64, float64) (uint64, bool)  = ieee.Gap
	_ func(float64) (int, int, bool)         = ieee.Split
	_ func(int, int) float64                 = ieee.Join
	_ func(float64) float32                  = ieee.Single
	_ func(float32) float64                  = ieee.Double
	_ func(float64, float64) bool            = ieee.Less
	_ func([]float64) []float64              = ieee.Sort
	// text
	_ func(string) (float64, api.Errno)      = text.Parse
	_ func(float64, int) (string, api.Errno) = text.Print
	_ func(float64) (string, api.Errno)      = text.Hex
	_ func(string) (float64, api.Errno)      = text.Unhex
	_ func(string) (int, bool)               = text.Int
	// acc
	_ func() *acc.Acc                            = acc.New
	_ func(*acc.Acc, float64)                    = (*acc.Acc).Add
	_ func(*acc.Acc, float64, float64)           = (*acc.Acc).Prod
	_ func(*acc.Acc, *acc.Acc)                   = (*acc.Acc).Merge
	_ func(*acc.Acc)                             = (*acc.Acc).Turn
	_ func(*acc.Acc) *acc.Acc                    = (*acc.Acc).Copy
	_ func(*acc.Acc) float64                     = (*acc.Acc).Value
	_ func(*acc.Acc, int) (float64, bool)        = (*acc.Acc).Over
	_ func(*acc.Acc) int                         = (*acc.Acc).Sign
	_ func(*acc.Acc, *acc.Acc) bool              = (*acc.Acc).Same
	_ func(...float64) float64                   = acc.Sum
	_ func([]float64, []float64) (float64, bool) = acc.Dot
	_ func([]float64) float64                    = acc.Left
	_ func([]float64) float64                    = acc.Pair
	_ func([]float64) float64                    = acc.Kahan
	// fn
	_ func(float64, int) float64       = fn.Pow
	_ func(float64) float64            = fn.Exp
	_ func(float64) float64            = fn.Ln
	_ func([]float64, float64) float64 = fn.Horner
	// date
	_ func(int) bool                        = date.Leap
	_ func(int, int) (int, api.Errno)       = date.Length
	_ func(int, int, int) (int, api.Errno)  = date.Of
	_ func(int) (int, int, int, api.Errno)  = date.Civil
	_ func(int) (int, api.Errno)            = date.Weekday
	_ func(int, int, bool) (int, api.Errno) = date.Months
	_ func(int, int) (int, api.Errno)       = date.Third
	_ func(int) (int, api.Errno)            = date.Easter
	_ func(string) (int, api.Errno)         = date.Parse
	_ func(int) (string, api.Errno)         = date.Print
	// cal
	_ func(api.Calendar) (api.Errno, int)                        = cal.Check
	_ func(api.Calendar, int) (bool, api.Errno)                  = cal.Open
	_ func(api.Calendar, int) (bool, api.Errno)                  = cal.Holiday
	_ func(api.Calendar, int, int) (int, api.Errno)              = cal.Adjust
	_ func(api.Calendar, int, int) (int, api.Errno)              = cal.Add
	_ func(api.Calendar, int, int) (int, api.Errno)              = cal.Count
	_ func(api.Calendar, api.Calendar) (api.Calendar, api.Errno) = cal.Join
	// count
	_ func(int, api.Calendar, int, int) (int, int, api.Errno) = count.Fraction
	_ func(int, api.Calendar, int, int) (float64, api.Errno)  = count.Year
	// sched
	_ func(api.Spec) api.Errno                 = sched.Check
	_ func(api.Spec, int, int) (int, bool)     = sched.Point
	_ func(api.Spec) ([]int, api.Errno)        = sched.Dates
	_ func(api.Spec) ([]api.Period, api.Errno) = sched.Periods
	// rate
	_ func(int, float64, float64) (float64, api.Errno)      = rate.Factor
	_ func(int, float64, float64) (float64, api.Errno)      = rate.Yield
	_ func(float64, float64, float64) (float64, api.Errno)  = rate.Forward
	_ func(int, int, float64, float64) (float64, api.Errno) = rate.Convert
	// interp
	_ func(api.Table) api.Errno                   = interp.Check
	_ func(api.Table, int) (float64, api.Errno)   = interp.At
	_ func(api.Table, int) (int, api.Errno)       = interp.Find
	_ func(api.Table) ([]float64, api.Errno)      = interp.Slopes
	_ func(api.Table, int) ([]float64, api.Errno) = interp.Points
	// curve
	_ func(api.Curve) api.Errno                                         = curve.Check
	_ func(api.Curve, int) (float64, api.Errno)                         = curve.Factor
	_ func(api.Curve) (int, api.Errno)                                  = curve.Last
	_ func(api.Curve, int, api.Calendar, int, int) (float64, api.Errno) = curve.Forward
	_ func(api.Curve, int, int, api.Calendar, int) (float64, api.Errno) = curve.Zero
	_ func(api.Curve) (bool, api.Errno)                                 = curve.Falls
	_ func(api.Curve) (api.Curve, api.Errno)                            = curve.Single
	// solve
	_ func(func(float64) float64, float64, float64) (float64, int, api.Errno) = solve.Root
	_ func([]float64, float64, float64) (float64, int, api.Errno)             = solve.Poly
	// boot
	_ func(int, int, api.Calendar, []api.Quote) (api.Errno, int)            = boot.Check
	_ func(api.Curve, api.Calendar, api.Quote) (float64, api.Errno)         = boot.Worth
	_ func(int, int, api.Calendar, []api.Quote) (api.Curve, api.Errno, int) = boot.Build
	// flow
	_ func([]api.Flow) (api.Errno, int)                 = flow.Check
	_ func(api.Leg) ([]api.Flow, api.Errno)             = flow.Fixed
	_ func(api.Leg, api.Curve) ([]api.Flow, api.Errno)  = flow.Float
	_ func(api.Leg) ([]api.Flow, api.Errno)             = flow.Bond
	_ func([]api.Flow) []api.Flow                       = flow.Give
	_ func(float64, []api.Flow) ([]api.Flow, api.Errno) = flow.Scale
	_ func([]api.Flow, int, int) []api.Flow             = flow.Window
	_ func([]api.Flow, int) ([]api.Flow, api.Errno)     = flow.Shift
	_ func([]api.Flow) ([]api.Flow, api.Errno)          = flow.Net
	// price
	_ func([]api.Flow, int, api.Curve) (*price.Worth, api.Errno) = price.Of
	_ func() *price.Worth                                        = price.Nothing
	_ func(*price.Worth, *price.Worth) *price.Worth              = (*price.Worth).Plus
	_ func(*price.Worth) *price.Worth                            = (*price.Worth).Turned
	_ func(*price.Worth) float64                                 = (*price.Worth).Value
	_ func(*price.Worth) int                                     = (*price.Worth).Sign
	_ func(*price.Worth, *price.Worth) bool                      = (*price.Worth).Same
	_ func([]api.Flow, int, api.Curve) (float64, api.Errno)      = price.Present
	_ func([]api.Flow, int, api.Curve) (float64, api.Errno)      = price.Flat
	_ func(api.Leg, api.Curve) (float64, api.Errno)              = price.Par
	// risk
	_ func(api.Curve, int, float64) (api.Curve, api.Errno)                                       = risk.Bump
	_ func(api.Curve, float64) (api.Curve, api.Errno)                                            = risk.Parallel
	_ func([]api.Flow, int, api.Curve, float64) ([]float64, api.Errno)                           = risk.Ladder
	_ func([]api.Flow, int, api.Curve, float64) (float64, api.Errno)                             = risk.Delta
	_ func([]api.Flow, int, api.Curve, float64) (float64, api.Errno)                             = risk.Gamma
	_ func([]api.Flow, int, int, int, api.Calendar, []api.Quote, float32) ([]float64, api.Errno) = risk.Quotes
	// deal
	_ func([]api.Term) (api.Errno, int)         = deal.Check
	_ func(string) ([]api.Term, api.Errno, int) = deal.Parse
	_ func([]api.Term) (string, api.Errno)      = deal.Print
	_ func([]api.Term) ([]api.Flow, api.Errno)  = deal.Flows
	_ func([]api.Term) (int, api.Errno)         = deal.Depth
	// code
	_ func([]api.Term) ([]api.Op, api.Errno) = code.Compile
	_ func([]api.Op) (api.Errno, int)        = code.Check
	_ func([]api.Op) ([]api.Term, api.Errno) = code.Back
	_ func([]api.Op) ([]api.Op, api.Errno)   = code.Trim
	_ func([]api.Op) (int, api.Errno)        = code.Marks
	// vm
	_ func([]api.Op) (*vm.Machine, api.Errno, int)     = vm.New
	_ func(*vm.Machine, int) (api.Progress, api.Errno) = (*vm.Machine).Step
	_ func(*vm.Machine) ([]api.Flow, api.Errno)        = (*vm.Machine).Flows
	_ func(*vm.Machine) (int, int)                     = (*vm.Machine).Size
	_ func(*vm.Machine) *vm.Machine                    = (*vm.Machine).Copy
	_ func([]api.Op) ([]api.Flow, api.Errno)           = vm.Run
	// book
	_ func() *book.Book                                           = book.New
	_ func(*book.Book, int, api.Curve) api.Errno                  = (*book.Book).Curve
	_ func(*book.Book, int) api.Errno                             = (*book.Book).Clear
	_ func(*book.Book, int, float64) api.Errno                    = (*book.Book).Rate
	_ func(*book.Book, int, string) (api.Errno, int)              = (*book.Book).Add
	_ func(*book.Book, int) api.Errno                             = (*book.Book).Drop
	_ func(*book.Book) []int                                      = (*book.Book).List
	_ func(*book.Book, int) (string, api.Errno)                   = (*book.Book).Text
	_ func(*book.Book, int) ([]api.Flow, api.Errno)               = (*book.Book).Flows
	_ func(*book.Book, int, int) (float64, api.Errno)             = (*book.Book).One
	_ func(*book.Book, int) (float64, api.Errno)                  = (*book.Book).Value
	_ func(*book.Book) (float64, api.Errno)                       = (*book.Book).Total
	_ func(*book.Book, int) ([]api.Line, api.Errno)               = (*book.Book).Report
	_ func(*book.Book, int, float64) ([]float64, api.Errno)       = (*book.Book).Ladder
	_ func(*book.Book, int, int) (float64, api.Errno)             = (*book.Book).Factor
	_ func(*book.Book, int) (api.Curve, bool, float64, api.Errno) = (*book.Book).Get
	_ func(*book.Book, *book.Book) api.Errno                      = (*book.Book).Join
	_ func(*book.Book) *book.Book                                 = (*book.Book).Copy
	// desk
	_ func() *desk.Desk               = desk.New
	_ func(*desk.Desk, string) string = (*desk.Desk).Do
	_ func(*desk.Desk, string) string = (*desk.Desk).Run
	_ func(*desk.Desk) *book.Book     = (*desk.Desk).Book
	// bond
	_ func(api.Leg, int) (float64, api.Errno)                                     = bond.Accrued
	_ func(api.Leg, api.Curve) (float64, api.Errno)                               = bond.Dirty
	_ func(api.Leg, api.Curve) (float64, api.Errno)                               = bond.Clean
	_ func([]api.Flow, int, int, int, int, float64) (float64, api.Errno)          = bond.Worth
	_ func([]api.Flow, int, int, int, int, float64) (float64, api.Errno)          = bond.Yield
	_ func([]api.Flow, int, int, int, int, float64, float64) (float64, api.Errno) = bond.Duration
	// fx
	_ func([]api.Pair) (*fx.Table, api.Errno, int)             = fx.New
	_ func(*fx.Table, int, int) (float64, api.Errno)           = (*fx.Table).Cross
	_ func(*fx.Table, int, int) (bool, api.Errno)              = (*fx.Table).Joined
	_ func(*fx.Table, []api.Flow, int) ([]api.Flow, api.Errno) = (*fx.Table).Convert
	_ func(*fx.Table, []api.Flow, int) (float64, api.Errno)    = (*fx.Table).Sum
	// life
	_ func([]api.Flow, int, int) (*life.Ledger, api.Errno) = life.New
	_ func(*life.Ledger, []api.Flow) api.Errno             = (*life.Ledger).Add
	_ func(*life.Ledger, int) ([]api.Flow, api.Errno)      = (*life.Ledger).Pass
	_ func(*life.Ledger) int                               = (*life.Ledger).Day
	_ func(*life.Ledger) []api.Flow                        = (*life.Ledger).Left
	_ func(*life.Ledger) (float64, api.Errno)              = (*life.Ledger).Cash
	_ func(*life.Ledger, api.Curve) (float64, api.Errno)   = (*life.Ledger).Worth
	_ func(*life.Ledger) *life.Ledger                      = (*life.Ledger).Copy
	_ func(api.Curve, int) (api.Curve, api.Errno)          = life.Roll
	// grid
	_ func(api.Curve, api.Shift) (api.Curve, api.Errno)                    = grid.Apply
	_ func([]api.Flow, int, api.Curve, []api.Shift) ([]float64, api.Errno) = grid.Run
	_ func([]float64, int, int) (float64, api.Errno)                       = grid.Quantile
	_ func([]float64) (int, api.Errno)                                     = grid.Worst
	_ func([]float64) (float64, api.Errno)                                 = grid.Mean
	_ func([]float64, []float64) ([]int, api.Errno)                        = grid.Count
	// save
	_ func(string) uint32                       = save.Sum
	_ func(*book.Book) (string, api.Errno)      = save.Save
	_ func(string) (*book.Book, api.Errno, int) = save.Load
)
