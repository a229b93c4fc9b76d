/- A region that draws its order, whose operations only read and whose callees only make memory, up to a tail that waits for them all (a store at the end). -/
import Derived.Test.YtbmcmabimfoknaaGreatDoorTreeR
namespace Go.Proofs.YtbmcmabimfoknaaGreatDoor
set_option maxRecDepth 100000
open Go Go.RowKit
theorem wp_region_cls_tail {P : Program} {id : Nat} {Q : Exit → Act → World → Prop} {a : Act} {w : World} {l : List Oper} (n : Nat) (hm : P.follows .mixedOrders = true) (hB : Region.lexTailB .any l.toArray n = true)
    (h : wpQuiet P l.toArray (Cls w) (fun a' => ∀ w', Cls w w' → wpList P l.toArray Q (l.drop n) a' w') (l.take n) a) : (Code.region id l.toArray true).wp P Q a w := by
  simp only [Region.lexTailB, Bool.and_eq_true, decide_eq_true_eq] at hB
  obtain ⟨⟨⟨⟨hsel, hn⟩, hs⟩, hc⟩, hlex⟩ := hB
  have h1 : n < l.length := by simpa using hn
  have h2 : (l.take n).length = n := by simp; omega
  have h3 : (l.drop n).length = l.toArray.size - n := by simp
  have H := headQ_lex (g := l.toArray.size - n) hsel hs hc hn (l.take n) 0 (Array.replicate l.toArray.size false) a (fun j hj => by rw [h2] at hj; simp [hj]) (by omega)
    ⟨by simp, fun j oj _ hx => (by rw [getD_replicate_false] at hx; cases hx), fun t _ ht => getD_in (by simpa using ht) (getD_replicate_false _ _)⟩ (by rw [h2]; exact hlex) h
  have K := any_of_headQ (Q := Q) (g := l.toArray.size - n) (fun done a' w' hw' hL => by
    have := wpAny_of_seq (md := .any) (Q' := Q) (l.drop n) n done a' w' (fun j => by simp [List.getElem?_drop]) (by rw [h3]; exact hL.1) (hL.2 w' hw')
    rwa [h3] at this) _ _ _ _ (⟨(Below.refl _ w).drew⟩ : Cls w { w with drawn := w.drawn + 1 }) H
  rw [h2, show n + (l.toArray.size - n) = l.toArray.size by omega] at K
  exact wp_region_any hm K
end Go.Proofs.YtbmcmabimfoknaaGreatDoor
