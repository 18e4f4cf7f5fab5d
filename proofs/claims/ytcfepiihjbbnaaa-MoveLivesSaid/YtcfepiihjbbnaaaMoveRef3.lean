/-
  The document's Live under way with the words it has gathered, and what a step of it leaves. Condition: its arenas are as the lists say.
-/
import Derived.Test.YtcfepiihjbbnaaaMoveRef2
import Derived.Test.YtcfepiihjbbnaaaMoveWalks4
namespace Go.Proofs.Ytcfepiihjbbnaaa
open Go.RowKit
namespace MW
open AW AP RP RW
/-- With the words gathered in the row vo, which no thing's row is. -/
structure Bo (w0 w : World) (ba qa n : Nat) (va : Value) (ts : List Th) (ha : List Value) (bb qb : Nat) (vb : Value) (hb : List Value) (wb : Nat) (s : MP.St) (vo : Value) (l : List Int) : Prop where
  bg : Bg w0 w ba qa n va ts ha bb qb vb hb wb s
  out : w.ownsRow bb 42 1 vo l.length (U64s l)
  apart : ∀ y ∈ hb, ∀ b, y.ownBlock = some b → vo.ownBlock ≠ some b
section
variable {w0 w w' : World} {ba qa n : Nat} {va : Value} {ts : List Th} {ha : List Value} {bb qb : Nat} {vb vb' : Value} {hb hb' : List Value} {wb : Nat} {s s' : MP.St} {vo vo' : Value} {l l' : List Int}
theorem Bo.far_nil (h : Bo w0 w ba qa n va ts ha bb qb vb hb wb s vo l) (f : MM.Far [] w w') : Bo w0 w' ba qa n va ts ha bb qb vb hb wb s vo l :=
  ⟨h.bg.far f (fun b hb => by cases hb), MM.own_far h.out f (fun _ _ hm => by cases hm), h.apart⟩
/-- Behind a word brought. -/
theorem Bo.brought (h : Bo w0 w ba qa n va ts ha bb qb vb hb wb s vo l) (hB : Bg w0 w' ba qa n va ts ha bb qb vb' hb' wb s') (f : MM.Far (wb :: qb :: vb.ownBlock.toList) w w') (hh : ∀ y ∈ hb', y ∈ hb ∨ ∀ b, y.ownBlock = some b → w.heap.size ≤ b) :
    Bo w0 w' ba qa n va ts ha bb qb vb' hb' wb s' vo l := by
  have h1 := h.bg.new
  have hlo := MM.own_lt h.out
  refine ⟨hB, MM.own_far h.out f (fun b hb hm => ?_), fun y hy b hb ho => ?_⟩
  · rcases List.mem_cons.1 hm with e | e
    · have := hlo b hb
      omega
    · rcases List.mem_cons.1 e with e | e
      · subst e
        exact MM.own_row_ne h.out h.bg.dst.head (by decide) hb
      · exact MM.own_own_ne h.out h.bg.dst.row (by decide) b hb (by simpa using e)
  · rcases hh y hy with e | e
    · exact h.apart y e b hb ho
    · have := e b hb
      have := hlo b ho
      omega
/-- Behind a word more in the row. -/
theorem Bo.more (h : Bo w0 w ba qa n va ts ha bb qb vb hb wb s vo l) (f : MM.Far vo.ownBlock.toList w w') (ho : w'.ownsRow bb 42 1 vo' l'.length (U64s l')) (hv : ∀ b, vo'.ownBlock = some b → vo.ownBlock = some b ∨ w.heap.size ≤ b) :
    Bo w0 w' ba qa n va ts ha bb qb vb hb wb s vo' l' := by
  have h1 := h.bg.new
  have h2 := h.bg.room
  have h3 := f.size
  have hlo := MM.own_lt h.out
  have hin : ∀ b, b ∈ vo.ownBlock.toList → vo.ownBlock = some b := fun b hb => by simpa using hb
  refine ⟨⟨h.bg.inv, h.bg.src, h.bg.far0.trans f (fun b hb hl => ?_), ⟨h.bg.dst.ok, h.bg.dst.head.far f (fun hm => ?_), MM.own_far h.bg.dst.row f (fun b hb hm => ?_), h.bg.dst.kids.far f (fun y hy b hb hm => ?_)⟩, h.bg.went.far f (fun hm => ?_), h.bg.new, by omega⟩, ho, fun y hy b hb hw => ?_⟩
  · have := hlo b (hin b hb)
    omega
  · exact MM.own_row_ne h.out h.bg.dst.head (by decide) (hin _ hm)
  · exact MM.own_own_ne h.out h.bg.dst.row (by decide) b (hin b hm) hb
  · exact h.apart y hy b hb (hin b hm)
  · have := hlo _ (hin _ hm)
    omega
  · rcases hv b hw with e | e
    · exact h.apart y hy b hb e
    · have := h.bg.dst.kids.low y hy b hb
      omega
/-- Behind a store into a thing's words. -/
theorem Bo.put (h : Bo w0 w ba qa n va ts ha bb qb vb hb wb s vo l) {j gq d k : Nat} {x : Int} (hj : j < s.us.length) (hh : hb[j]? = some (.slice (some ⟨gq, 0, none⟩) (th s.us j).l.length d)) (hx : WP.U x) :
    Bo w0 (w.setCell ⟨gq, k, none⟩ (.int .u64 x)) ba qa n va ts ha bb qb vb hb wb ⟨put s.us j k x, s.od⟩ vo l := by
  have h1 := h.bg.new
  have h2 := h.bg.room
  have hP := (h.bg.dst.put (j := k) hj hh hx).1
  have hm := List.mem_of_getElem? hh
  have hlow := h.bg.dst.kids.low _ hm gq rfl
  have hone := (MM.Far.refl [gq] w).setCell (p := ⟨gq, k, none⟩) (by simp) (.int .u64 x)
  have hs := hone.size
  refine ⟨⟨MP.inv_put h.bg.inv j k hx, h.bg.src, h.bg.far0.trans hone (fun b hb hl => ?_), hP, ?_, h.bg.new, by omega⟩, MM.own_far h.out hone (fun b hb hb2 => ?_), h.apart⟩
  · have : b = gq := by simpa using hb
    omega
  · rw [MP.went_put]
    exact h.bg.went.far hone (fun hm => by have : wb = gq := by simpa using hm
                                           omega)
  · have : b = gq := by simpa using hb2
    subst this
    exact h.apart _ hm b rfl hb
theorem bo_begin (hR : Rr w ba qa n va ts ha) : Bo w ((w.alloc (.cells #[.int .i64 n, .int .i64 0, .slice none 0 0] 65)).alloc (.cells (madeCells #[.int .u64 0] ts.length) 42)) ba qa n va ts ha (w.heap.size + 2) w.heap.size (.slice none 0 0) [] (w.heap.size + 1) ⟨[], []⟩ (.slice none 0 0) [] := by
  have h1 := MM.Row.new w 65 [.int .i64 n, .int .i64 0, .slice none 0 0]
  have h2 := made_half (w.alloc (.cells #[.int .i64 n, .int .i64 0, .slice none 0 0] 65)) (List.replicate ts.length 0)
  have hh : half (List.replicate ts.length (0 : Int)) 0 = List.replicate ts.length 0 := by simp [half]
  rw [List.length_replicate, hh, World.size_alloc] at h2
  refine ⟨⟨MP.inv_nil n ts, hR, ((MM.Far.refl [] w).alloc _).alloc _, ⟨ok_nil n hR.ok.size, h1.alloc _, MO.none_ _ _ _ _, MN.Kids.nil _ _ _⟩, ?_, ⟨by omega, by omega, Nat.le_refl _⟩, by simp⟩, MO.none_ _ _ _ _, fun y hy => by cases hy⟩
  rw [MP.went_nil]
  exact h2
/-- What the document's Live has made. -/
def RLived (w : World) (n : Nat) (ts : List Th) (roots : List Int) (e : Ending) (w' : World) : Prop :=
  ∃ qb vb hb vo, e = .returned (.tuple #[ptr qb, vo]) ∧ w.heap.size ≤ qb ∧ Rr w' (w.heap.size + 2) qb n vb (MP.liveT ts roots) hb ∧ w'.ownsRow (w.heap.size + 2) 42 1 vo roots.length (U64s (MP.liveW ts roots)) ∧ MM.Far [] w w'
theorem rtw_snoc (ts : List Th) (s : MP.St) (xs : List Int) (k : Nat) (hk : k < xs.length) : MP.rtw ts s (xs.take (k + 1)) = MP.rtw ts s (xs.take k) ++ [MP.cwW ts (MP.rts ts s (xs.take k)) xs[k]] := by
  induction xs generalizing s k with
  | nil => simp at hk
  | cons x xs ih =>
    cases k with
    | zero => rfl
    | succ k =>
      simp only [List.take_succ_cons, MP.rtw, MP.rts, List.getElem_cons_succ, List.cons_append]
      rw [ih _ k (by simpa using hk)]
/-- Between two things: j of them have been gone through. -/
structure Ro (w0 w : World) (ba qa n : Nat) (va : Value) (ts : List Th) (ha : List Value) (bb qb : Nat) (wb : Nat) (vo : Value) (l : List Int) (fin : MP.St) (j : Nat) (vb : Value) (hb : List Value) (sj : MP.St) : Prop where
  bo : Bo w0 w ba qa n va ts ha bb qb vb hb wb sj vo l
  eq : MP.goF ts (ts.length + 1 - j) j sj = fin
  le : j ≤ sj.us.length
/-- Inside a thing: k of its words have been brought. -/
structure Ri (w0 w : World) (ba qa n : Nat) (va : Value) (ts : List Th) (ha : List Value) (bb qb : Nat) (wb : Nat) (vo : Value) (l : List Int) (fin : MP.St) (j L k : Nat) (vb : Value) (hb : List Value) (sk : MP.St) : Prop where
  bo : Bo w0 w ba qa n va ts ha bb qb vb hb wb sk vo l
  eq : MP.flds ts j k ((th sk.us j).l.drop k) sk = fin
  lt : j < sk.us.length
  len : (th sk.us j).l.length = L
theorem Ri.next {bv : Value} {fin : MP.St} {j L k : Nat} {sk : MP.St} (h : Ri w0 w ba qa n va ts ha bb qb wb vo l fin j L k vb hb sk) (hk : k < L) (hx : WP.U ((th sk.us j).l.getD k 0)) {gq d : Nat} (hh : hb'[j]? = some (.slice (some ⟨gq, 0, none⟩) L d))
    (hB : Bo w0 w' ba qa n va ts ha bb qb bv hb' wb (MP.cwS ts sk ((th sk.us j).l.getD k 0)) vo l) :
    Ri w0 (w'.setCell ⟨gq, k, none⟩ (.int .u64 (MP.cwW ts sk ((th sk.us j).l.getD k 0)))) ba qa n va ts ha bb qb wb vo l fin j L (k + 1) bv hb' (MP.fld ts j k sk ((th sk.us j).l.getD k 0)) := by
  obtain ⟨c1, c2⟩ := MP.cw_len ts sk ((th sk.us j).l.getD k 0) j h.lt
  have c3 := MP.fld_len ts sk ((th sk.us j).l.getD k 0) j k h.lt
  have hl : (th (MP.cwS ts sk ((th sk.us j).l.getD k 0)).us j).l.length = L := by rw [c2]; exact h.len
  rw [← hl] at hh
  refine ⟨hB.put c1 hh (MP.cwW_u _ hx), ?_, c3.1, c3.2.trans h.len⟩
  have e1 : (th (MP.fld ts j k sk ((th sk.us j).l.getD k 0)).us j).l.drop (k + 1) = (th sk.us j).l.drop (k + 1) := by
    unfold MP.fld
    simp only
    rw [th_put_same _ _ _ _ c1, c2]
    simp only
    rw [List.drop_set_of_lt (by omega)]
  rw [e1, ← h.eq]
  have hk2 : k < (th sk.us j).l.length := by rw [h.len]; exact hk
  rw [List.drop_eq_getElem_cons hk2]
  simp only [MP.flds]
  rw [show (th sk.us j).l.getD k 0 = (th sk.us j).l[k] by simp [List.getD, List.getElem?_eq_getElem hk2]]
end
end MW
end Go.Proofs.Ytcfepiihjbbnaaa
