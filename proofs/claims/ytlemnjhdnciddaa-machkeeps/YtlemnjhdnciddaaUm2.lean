/- An operation that lays a new block, in a region whose operations come in their order. -/
import Derived.Test.YtlemnjhdnciddaaUl
namespace Go.Proofs.Ytlemnjhdnciddaa
open Go.RowKit
theorem lst_new {P : Program} {ops : Array Oper} {Q : Exit → Act → World → Prop} {a : Act} {w w' : World} {rest : List Oper} {o : Oper} {v : Value} (hg : Region.wanted o (yielded ops a.tmps) = true) (hv : (execOp a.eval o).run P w = .ok (.value v) w') (h : wpList P ops Q rest (a.put o.dst v) w') : wpList P ops Q (o :: rest) a w :=
  wpList_step fun K hK => by
    rw [if_pos hg]
    unfold Oper.wp
    rw [hv]
    exact hK _ _ h
end Go.Proofs.Ytlemnjhdnciddaa

