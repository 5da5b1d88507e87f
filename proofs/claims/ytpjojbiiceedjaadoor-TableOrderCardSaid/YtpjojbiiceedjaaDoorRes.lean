/- Results of which the first lies in memory. Nothing of the program is named. -/
import Derived.Tactics
import Derived.Deep.WholeRow
namespace Go.Proofs.YtpjojbiiceedjaaDoor.Rr
open Go

theorem results_row_tmp {P : Program} {fn : Func} {p u : Tmp} {ty : TypeId} (h : fn.results = #[.cell p ty, .tmp u]) (tmps : Array Value) (w : World) (a : Addr) (v : Value)
    {v1 : Value} (hp : tmps.getD p undef = .pointer (some a)) (h1 : tmps.getD u undef = v1) (hl : (loadVar ty a).run P w = .ok v w) : (results fn tmps).run P w = .ok (.tuple #[v, v1]) w := by
  subst h1
  have hp' : tmps[p]?.getD undef = .pointer (some a) := by simpa using hp
  simp [results, h, hp', asAddr, hl]

theorem results_row_tmp2 {P : Program} {fn : Func} {p u x : Tmp} {ty : TypeId} (h : fn.results = #[.cell p ty, .tmp u, .tmp x]) (tmps : Array Value) (w : World) (a : Addr) (v : Value)
    {v1 v2 : Value} (hp : tmps.getD p undef = .pointer (some a)) (h1 : tmps.getD u undef = v1) (h2 : tmps.getD x undef = v2) (hl : (loadVar ty a).run P w = .ok v w) : (results fn tmps).run P w = .ok (.tuple #[v, v1, v2]) w := by
  subst h1 h2
  have hp' : tmps[p]?.getD undef = .pointer (some a) := by simpa using hp
  simp [results, h, hp', asAddr, hl]

end Go.Proofs.YtpjojbiiceedjaaDoor.Rr
