// Package calls holds no code: it compiles only while every layer has the calls that the chapters list, with their signatures.
package calls

import (
	"indelible/agree"
	"indelible/apart"
	"indelible/api"
	"indelible/assign"
	"indelible/axis"
	"indelible/bitmap"
	"indelible/bound"
	"indelible/codebook"
	"indelible/core"
	"indelible/damage"
	"indelible/delta"
	"indelible/desk"
	"indelible/digest"
	"indelible/evidence"
	"indelible/exact"
	"indelible/expr"
	"indelible/family"
	"indelible/font"
	"indelible/freedom"
	"indelible/glyph"
	"indelible/head"
	"indelible/image"
	"indelible/journal"
	"indelible/kern"
	"indelible/label"
	"indelible/language"
	"indelible/machine"
	"indelible/merge"
	"indelible/names"
	"indelible/options"
	"indelible/outline"
	"indelible/parcel"
	"indelible/printer"
	"indelible/probe"
	"indelible/proof"
	"indelible/query"
	"indelible/raster"
	"indelible/read"
	"indelible/reader"
	"indelible/register"
	"indelible/reprint"
	"indelible/script"
	"indelible/shape"
	"indelible/stream"
	"indelible/subset"
	"indelible/subst"
	"indelible/unite"
	"indelible/verify"
	"indelible/wire"
)

// exact
var (
	_ func(a, b int) (int, bool)             = exact.Floor
	_ func(a, b int) (int, bool)             = exact.Round
	_ func(a, b, c int) (int, bool)          = exact.MulDiv
	_ func(x, y api.Ratio) int               = exact.Cmp
	_ func(x api.Ratio) (api.Ratio, bool)    = exact.Lowest
	_ func(x, y api.Ratio) (api.Ratio, bool) = exact.Sum
	_ func(x, y api.Ratio) (api.Ratio, bool) = exact.Mul
)

// wire
var (
	_ func(n int) string            = wire.Int
	_ func(s string) string         = wire.Text
	_ func(l []int) string          = wire.Ints
	_ func(l []string) string       = wire.Texts
	_ func(s string) *wire.Reader   = wire.New
	_ func(r *wire.Reader) int      = (*wire.Reader).Int
	_ func(r *wire.Reader) string   = (*wire.Reader).Text
	_ func(r *wire.Reader) []int    = (*wire.Reader).Ints
	_ func(r *wire.Reader) []string = (*wire.Reader).Texts
	_ func(r *wire.Reader) int      = (*wire.Reader).Left
	_ func(r *wire.Reader) bool     = (*wire.Reader).Bad
)

// digest
var (
	_ func(s string) string                               = digest.Of
	_ func(before, s string) string                       = digest.Chain
	_ func(key, msg string) string                        = digest.Mark
	_ func(key, msg, mark string) bool                    = digest.Check
	_ func(l []string) string                             = digest.Root
	_ func(l []string, i int) ([]string, bool)            = digest.Prove
	_ func(root, leaf string, i int, proof []string) bool = digest.Verify
)

// bitmap
var (
	_ func(b api.Bitmap) api.Errno                               = bitmap.Check
	_ func(w, h int) (api.Bitmap, api.Errno)                     = bitmap.New
	_ func(b api.Bitmap, x, y int) bool                          = bitmap.Get
	_ func(b, c api.Bitmap, x, y int) api.Bitmap                 = bitmap.Paste
	_ func(b api.Bitmap, x, y, w, h int) (api.Bitmap, api.Errno) = bitmap.Crop
	_ func(b api.Bitmap) int                                     = bitmap.Count
	_ func(a, b api.Bitmap, dx, dy, from, till int) int          = bitmap.Only
	_ func(b api.Bitmap) string                                  = bitmap.Text
	_ func(s string) (api.Bitmap, bool)                          = bitmap.Parse
	_ func(a, b api.Bitmap) bool                                 = bitmap.Same
)

// axis
var (
	_ func(l []api.Axis) api.Errno                      = axis.Check
	_ func(l []api.Axis, user []int) ([]int, api.Errno) = axis.Normal
	_ func(a api.Axis, n int) int                       = axis.User
	_ func(region []api.Tent, n int) bool               = axis.Fits
	_ func(region []api.Tent, at []int) api.Ratio       = axis.Scalar
)

// outline
var (
	_ func(o [][]api.Point) api.Errno                                           = outline.Check
	_ func(o [][]api.Point) int                                                 = outline.Count
	_ func(o [][]api.Point, l []api.Delta, at []int) ([][]api.Point, api.Errno) = outline.Instance
	_ func(o [][]api.Point, n int) [][]api.Point                                = outline.Scale
	_ func(o [][]api.Point, x, y int) [][]api.Point                             = outline.Shift
	_ func(o [][]api.Point) [][]api.Point                                       = outline.Flat
	_ func(o [][]api.Point) api.Rect                                            = outline.Box
	_ func(a, b [][]api.Point) bool                                             = outline.Same
)

// raster
var (
	_ func(l [][]api.Point, x, y int) int                      = raster.Winding
	_ func(l [][]api.Point, unit, x, y int) int                = raster.Cover
	_ func(l [][]api.Point, unit int) (api.Picture, api.Errno) = raster.Dots
)

// verify
var (
	_ func(p []api.Op, points int) (api.Facts, api.Errno) = verify.Check
	_ func(p []api.Op) string                             = verify.Text
	_ func(s string) ([]api.Op, bool)                     = verify.Parse
)

// machine
var (
	_ func(p []api.Op, o [][]api.Point, size int) ([][]api.Point, int, api.Errno) = machine.Run
)

// font
var (
	_ func(f api.Font) api.Errno        = font.Check
	_ func(f api.Font, name string) int = font.Find
	_ func(f api.Font, code int) int    = font.Of
	_ func(f api.Font) string           = font.Bytes
	_ func(s string) (api.Font, bool)   = font.Parse
	_ func(a, b api.Font) bool          = font.Same
)

// glyph
var (
	_ func(f api.Font, g int, at []int, size int) ([][]api.Point, api.Errno) = glyph.Outline
	_ func(f api.Font, g int, at []int, size int) (api.Picture, api.Errno)   = glyph.Draw
	_ func(f api.Font, g int) []int                                          = glyph.Used
)

// names
var (
	_ func(s string) api.Errno = names.Check
	_ func(c byte) int         = names.Symbol
	_ func(c byte) int         = names.Script
	_ func(s string) []api.Run = names.Runs
	_ func(a, b string) bool   = names.Less
	_ func(a, b string) int    = names.Edits
)

// subst
var (
	_ func(l []api.Lookup, glyphs int) api.Errno   = subst.Check
	_ func(x api.Lookup, g []int, i int) int       = subst.Match
	_ func(l []api.Lookup, g []int) ([]int, []int) = subst.Apply
)

// stream
var (
	_ func(l []api.Lookup) api.Flow                             = stream.Start
	_ func(l []api.Lookup, f api.Flow, g int) (api.Flow, []int) = stream.Feed
	_ func(l []api.Lookup, f api.Flow) []int                    = stream.End
	_ func(f api.Flow) string                                   = stream.Key
	_ func(x api.Lookup) int                                    = stream.Window
)

// kern
var (
	_ func(f api.Font, a, b int) int                                = kern.By
	_ func(f api.Font, g []int, space []int, size int) ([]int, int) = kern.Place
)

// family
var (
	_ func(l []api.Font) api.Errno                                = family.Check
	_ func(f api.Font, name string, from int) int                 = family.Reach
	_ func(l []api.Font, name string) ([]api.Run, int, api.Errno) = family.Choose
)

// shape
var (
	_ func(l []api.Font, name string) ([]api.Item, api.Errno) = shape.Shape
	_ func(l []api.Font, x []api.Item) string                 = shape.Text
)

// expr
var (
	_ func(e api.Expr) (int, api.Errno)                         = expr.Check
	_ func(e api.Expr, x api.Env) (int, api.Errno)              = expr.Eval
	_ func(e api.Expr, low, high api.Env) (int, int, api.Errno) = expr.Bounds
	_ func(e api.Expr, low, high api.Env) (api.Expr, api.Errno) = expr.Fold
	_ func(e api.Expr) int                                      = expr.Size
	_ func(e api.Expr) (string, api.Errno)                      = expr.Text
	_ func(s string) (api.Expr, bool)                           = expr.Parse
	_ func(a, b api.Expr) bool                                  = expr.Same
)

// freedom
var (
	_ func(l []api.Rule) api.Errno                                  = freedom.Check
	_ func(l []api.Rule, x api.Env) (api.Freedom, api.Errno)        = freedom.Of
	_ func(f api.Freedom, p api.Pick) bool                          = freedom.Allows
	_ func(l []api.Rule, low, high api.Env) ([]api.Rule, api.Errno) = freedom.Partial
	_ func(a, b []api.Rule) bool                                    = freedom.Same
)

// label
var (
	_ func(x api.Format) api.Errno                                                               = label.Check
	_ func(l []api.Font, name string, p []api.Pick, x api.Format) (api.Bitmap, api.Errno)        = label.Draw
	_ func(l []api.Font, name string) ([]api.Pick, api.Errno)                                    = label.Plain
	_ func(l []api.Font, name string, p []api.Pick, x api.Format) ([]api.Item, []int, api.Errno) = label.Place
)

// reader
var (
	_ func(r api.Reader) api.Errno                             = reader.Check
	_ func(r api.Reader, b api.Bitmap) (api.Bitmap, api.Errno) = reader.See
	_ func(r api.Reader, a, b api.Bitmap) (int, api.Errno)     = reader.Differ
)

// image
var (
	_ func(x api.Image) api.Errno                                  = image.Check
	_ func(b api.Bitmap, dx, dy int) (api.Image, api.Errno)        = image.Put
	_ func(x api.Image, from, till int) api.Image                  = image.Hide
	_ func(x api.Image) int                                        = image.Known
	_ func(x api.Image, b api.Bitmap, dx, dy int) (int, int, bool) = image.Fits
	_ func(x api.Image) string                                     = image.Text
	_ func(s string) (api.Image, bool)                             = image.Parse
	_ func(a, b api.Image) bool                                    = image.Same
)

// damage
var (
	_ func(m api.Material) api.Errno                                  = damage.Check
	_ func(m api.Material, years int) (api.Budget, bool)              = damage.At
	_ func(b api.Bitmap, h api.Hit) (api.Image, api.Errno)            = damage.Apply
	_ func(b api.Bitmap, h api.Hit, x api.Budget) bool                = damage.Within
	_ func(x api.Image, b api.Bitmap, y api.Budget) (api.Match, bool) = damage.Explains
)

// apart
var (
	_ func(a, b api.Bitmap, x, y api.Budget) (api.Clash, bool)                   = apart.Confused
	_ func(a, b api.Bitmap, x, y api.Budget) (int, bool)                         = apart.Slack
	_ func(a, b api.Bitmap, x, y api.Budget, c api.Clash) (api.Image, api.Errno) = apart.Common
	_ func(x, y api.Budget) []api.Move                                           = apart.Shifts
)

// proof
var (
	_ func(a, b api.Bitmap, x, y api.Budget) ([]api.Witness, api.Errno)                  = proof.Make
	_ func(a, b api.Bitmap, x, y api.Budget, p []api.Witness) api.Errno                  = proof.Check
	_ func(a, b api.Bitmap, x, y api.Budget, p []api.Witness) ([]api.Witness, api.Errno) = proof.Shrink
	_ func(p []api.Witness) string                                                       = proof.Bytes
	_ func(s string) ([]api.Witness, bool)                                               = proof.Parse
)

// bound
var (
	_ func(a, b api.Bitmap, x, y api.Budget) (int, bool)                      = bound.Least
	_ func(l []api.Bitmap, of []api.Budget, b api.Bitmap, x api.Budget) []int = bound.Near
	_ func(b api.Bitmap) ([]int, []int)                                       = bound.Columns
)

// options
var (
	_ func(p []api.Pick) int                                                                          = options.Cost
	_ func(l []api.Font, r []api.Rule, x api.Format, name string) ([]api.Freedom, api.Errno)          = options.Freedoms
	_ func(l []api.Font, r []api.Rule, x api.Format, name string, most int) ([]api.Option, api.Errno) = options.Options
)

// assign
var (
	_ func(p api.Problem) api.Errno                                                = assign.Check
	_ func(p api.Problem, a, b api.Bitmap, x, y api.Budget) (int, api.Clash, bool) = assign.Clash
	_ func(p api.Problem, choice []int) bool                                       = assign.Holds
	_ func(p api.Problem) ([]int, api.Errno)                                       = assign.Solve
)

// core
var (
	_ func(p api.Problem, names []int) (api.Problem, api.Errno) = core.Part
	_ func(p api.Problem) ([]int, api.Errno)                    = core.Least
	_ func(p api.Problem) ([]api.Step, api.Errno)               = core.Refute
	_ func(p api.Problem, l []api.Step) api.Errno               = core.Check
)

// reprint
var (
	_ func(p api.Problem, l []api.Hang) (api.Plan, api.Errno)                 = reprint.Make
	_ func(p api.Problem, l []api.Hang, x api.Plan) bool                      = reprint.Holds
	_ func(p api.Problem, l []api.Hang, x api.Plan) ([][]api.Step, api.Errno) = reprint.Why
	_ func(p api.Problem, l []api.Hang, anew []int) (api.Problem, api.Errno)  = reprint.With
)

// codebook
var (
	_ func(b api.Book) api.Errno                                                                   = codebook.Check
	_ func(b api.Book, id int) (api.Bitmap, api.Errno)                                             = codebook.Label
	_ func(b api.Book, id, year int) (api.Budget, bool)                                            = codebook.Budget
	_ func(m api.Material) api.Budget                                                              = codebook.Last
	_ func(b api.Book) (int, int, bool)                                                            = codebook.Mistaken
	_ func(b api.Book, names []string, materials []int) (api.Problem, [][]api.Option, api.Errno)   = codebook.Problem
	_ func(b api.Book, ids []int, names []string, materials []int) (api.Book, []string, api.Errno) = codebook.Add
	_ func(b api.Book) string                                                                      = codebook.Bytes
	_ func(s string) (api.Book, bool)                                                              = codebook.Parse
	_ func(a, b api.Book) bool                                                                     = codebook.Same
)

// read
var (
	_ func(b api.Book, kind int, x api.Image, year int) ([]api.Found, api.Errno) = read.Read
	_ func(l []api.Found) (string, bool)                                         = read.Sure
	_ func(b api.Book, kind, id int, h api.Hit) (api.Image, api.Errno)           = read.Show
)

// probe
var (
	_ func(x api.Image, l []api.Bitmap, y []api.Match) (api.Rect, int, bool) = probe.Next
	_ func(x api.Image) []api.Rect                                           = probe.Blocks
	_ func(x, y api.Image, r api.Rect) (api.Image, api.Errno)                = probe.Fill
)

// evidence
var (
	_ func(b api.Book, reader int, x api.Image, year int, key string) (api.Evidence, api.Errno) = evidence.Make
	_ func(b api.Book, e api.Evidence, key string) api.Errno                                    = evidence.Audit
	_ func(e api.Evidence) string                                                               = evidence.Bytes
	_ func(s string) (api.Evidence, bool)                                                       = evidence.Parse
)

// subset
var (
	_ func(f api.Font, names []string) ([]int, api.Errno)       = subset.Closure
	_ func(f api.Font, keep []int) (api.Font, []int, api.Errno) = subset.Cut
	_ func(f api.Font, names []string) (api.Font, api.Errno)    = subset.For
)

// parcel
var (
	_ func(f api.Font) ([]api.Parcel, api.Errno)                                 = parcel.Split
	_ func(f api.Font) (string, api.Errno)                                       = parcel.Root
	_ func(root string, p api.Parcel) bool                                       = parcel.Good
	_ func(root string, l []api.Parcel) (f api.Font, missing []int, e api.Errno) = parcel.Join
	_ func(have, want api.Font) ([]int, api.Errno)                               = parcel.Need
)

// head
var (
	_ func(h api.Head) api.Errno                                     = head.Check
	_ func(h api.Head, b api.Bitmap) (int, bool)                     = head.Offset
	_ func(h api.Head, b api.Bitmap, at int) (api.Bitmap, api.Errno) = head.Print
)

// printer
var (
	_ func(bytes int, h api.Head) *printer.Printer                                              = printer.New
	_ func(p *printer.Printer, roots []string) api.Errno                                        = (*printer.Printer).Expect
	_ func(p *printer.Printer, family int, x api.Parcel) api.Errno                              = (*printer.Printer).Take
	_ func(p *printer.Printer, nozzle int) api.Errno                                            = (*printer.Printer).Wear
	_ func(p *printer.Printer, name string, l []api.Pick, x api.Format) (api.Bitmap, api.Errno) = (*printer.Printer).Print
	_ func(p *printer.Printer, name string, l []api.Pick) ([]api.Move, api.Errno)               = (*printer.Printer).Wants
	_ func(p *printer.Printer) (int, int)                                                       = (*printer.Printer).Held
)

// delta
var (
	_ func(a, b api.Font) []api.Edit                       = delta.Diff
	_ func(f api.Font, l []api.Edit) (api.Font, api.Errno) = delta.Apply
	_ func(l []api.Edit) string                            = delta.Bytes
	_ func(s string) ([]api.Edit, bool)                    = delta.Parse
)

// merge
var (
	_ func(base, left, right api.Font) (api.Font, []api.Conflict, api.Errno) = merge.Fonts
	_ func(base, f api.Font) bool                                            = merge.Grown
)

// language
var (
	_ func(l api.Lang) api.Errno           = language.Check
	_ func(s string) (api.Lang, api.Errno) = language.Parse
	_ func(l api.Lang, s string) bool      = language.Has
	_ func(l api.Lang, most int) []string  = language.First
	_ func(l api.Lang) []bool              = language.Live
)

// agree
var (
	_ func(a, b api.Font, g, h int, sizes, steps []int) bool                        = agree.Alike
	_ func(a, b api.Font, l api.Lang, sizes, steps []int) (string, bool, api.Errno) = agree.Agree
	_ func(a, b api.Font, name string, sizes, steps []int) bool                     = agree.Differs
)

// register
var (
	_ func(b api.Book, a api.Act) (api.Book, api.Done, api.Errno) = register.Do
	_ func(b api.Book, l []api.Act) (api.Book, int, api.Errno)    = register.Run
	_ func(a api.Act) string                                      = register.Bytes
	_ func(s string) (api.Act, bool)                              = register.Parse
)

// unite
var (
	_ func(base, left, right api.Book) (api.Book, []api.Conflict, []int, api.Errno) = unite.Books
	_ func(base, left, right api.Book) ([]api.Tag, []api.Conflict)                  = unite.Tags
)

// journal
var (
	_ func(d api.Disk, s string) (api.Disk, api.Errno) = journal.Append
	_ func(d api.Disk) api.Disk                        = journal.Sync
	_ func(d api.Disk, n int) api.Disk                 = journal.Crash
	_ func(d api.Disk) ([]string, api.Disk)            = journal.Open
)

// desk
var (
	_ func(b api.Book, d api.Disk) (*desk.Desk, api.Errno)                     = desk.Open
	_ func(x *desk.Desk, a api.Act) (api.Done, api.Errno)                      = (*desk.Desk).Do
	_ func(x *desk.Desk) api.Book                                              = (*desk.Desk).Book
	_ func(x *desk.Desk, id int) (api.Bitmap, api.Errno)                       = (*desk.Desk).Label
	_ func(x *desk.Desk, reader, first, second int) ([]api.Witness, api.Errno) = (*desk.Desk).Proof
	_ func(x *desk.Desk) (int, int)                                            = (*desk.Desk).Count
	_ func(x *desk.Desk) api.Disk                                              = (*desk.Desk).Disk
)

// query
var (
	_ func(b api.Book, id int) (api.Bitmap, api.Errno)                    = query.Printed
	_ func(b api.Book, id int, l []api.Font) (api.Bitmap, int, api.Errno) = query.Now
	_ func(b api.Book, from, till int) []int                              = query.Leaving
	_ func(b api.Book, name string, n int) []int                          = query.Near
	_ func(b api.Book, kind, id int) ([]int, api.Errno)                   = query.Doubts
)

// script
var (
	_ func(s string) string = script.Run
)
