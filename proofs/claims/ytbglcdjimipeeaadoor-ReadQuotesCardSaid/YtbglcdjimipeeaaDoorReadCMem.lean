/-
  The code's reader in memory: its data, those by themselves, what is open, each with its list; no two rows the same. No condition.
-/
import Derived.Test.YtbglcdjimipeeaaDoorReadMem
namespace Go.Proofs.YtbglcdjimipeeaaDoor
open Go.RowKit
namespace RC6
open LX RX RW6
open RM6 (Kin ndC kinsN kinsP ints_snoc ints_len ndC_snoc own_off one_far)
def ptC (os : List (Pt × Value)) : List Value := os.flatMap fun x => [.int .u8 4, .int .i64 x.1.at_, .int .i64 0, .string emp, x.2, .bool x.1.q]
theorem ptC_snoc (os : List (Pt × Value)) (x : Pt × Value) : ptC (os ++ [x]) = ptC os ++ [.int .u8 4, .int .i64 x.1.at_, .int .i64 0, .string emp, x.2, .bool x.1.q] := by simp [ptC]
theorem ptC_len (os : List (Pt × Value)) : (ptC os).length = os.length * 6 := by
  induction os with
  | nil => rfl
  | cons x r ih => simp only [ptC, List.flatMap_cons, List.length_append, List.length_cons] at ih ⊢; rw [ih]; simp; omega
/-- The reader at q: its three rows, and the lists of what is in them; ex: lists besides. -/
structure Rdr (w0 w : World) (q : Nat) (rv tv ov : Value) (rs : List (Nd × Value)) (tops : List Nat) (os : List (Pt × Value)) (ex : List (Value × List Nat)) : Prop where
  far : MM.Far [] w0 w
  qb : w0.heap.size ≤ q
  head : MM.Row w q 41 [rv, tv, ov]
  row : w.ownsRow w0.heap.size 33 5 rv rs.length (ndC rs)
  op : w.ownsRow w0.heap.size 56 6 ov os.length (ptC os.reverse)
  kin : Kin w w0.heap.size ((tv, tops) :: (kinsN rs ++ (kinsP os ++ ex)))
section
variable {w0 w w1 : World} {q : Nat} {rv tv ov : Value} {rs : List (Nd × Value)} {tops : List Nat} {os : List (Pt × Value)} {ex : List (Value × List Nat)}
/-- Nothing of the reader's has turned. -/
theorem Rdr.to (h : Rdr w0 w q rv tv ov rs tops os ex) (f : MM.Far [] w w1) : Rdr w0 w1 q rv tv ov rs tops os ex :=
  ⟨h.far.trans f (by simp), h.qb, h.head.far f (by simp), MM.own_far h.row f (by simp), MM.own_far h.op f (by simp), h.kin.far f (by simp)⟩
theorem Rdr.ex_perm {ex' : List (Value × List Nat)} (h : Rdr w0 w q rv tv ov rs tops os ex) (p : ex.Perm ex') : Rdr w0 w q rv tv ov rs tops os ex' :=
  ⟨h.far, h.qb, h.head, h.row, h.op, h.kin.perm (List.Perm.cons _ (List.Perm.append_left _ (List.Perm.append_left _ p)))⟩
theorem Rdr.ex_none (h : Rdr w0 w q rv tv ov rs tops os ex) : Rdr w0 w q rv tv ov rs tops os ((.slice none 0 0, []) :: ex) := by
  refine ⟨h.far, h.qb, h.head, h.row, h.op, h.kin.none_.perm ?_⟩
  refine (List.Perm.swap _ _ _).trans (List.Perm.cons _ ?_)
  rw [← List.append_assoc, ← List.append_assoc]
  exact List.perm_middle.symm
theorem own_off {e e' : TypeId} {size size' n n' base base' : Nat} {v v' : Value} {xs xs' : List Value} (h : w.ownsRow base e size v n xs) (h' : w.ownsRow base' e' size' v' n' xs') (ht : e ≠ e') : ∀ b, v.ownBlock = some b → b ∉ v'.ownBlock.toList := by
  intro b hb hm
  exact MM.own_own_ne h h' ht b hb (by simpa using hm)
theorem one_far (w : World) (q i : Nat) (u : Value) : MM.Far [q] w (w.setCell ⟨q, i, none⟩ u) := (MM.Far.refl [q] w).setCell (by simp) u
/-- A datum more in the row. -/
theorem Rdr.node {rv' : Value} (x : Nd) (hx : Value) (h : Rdr w0 w q rv tv ov rs tops os ((hx, x.l) :: ex))
    (hr : w1.ownsRow w0.heap.size 33 5 rv' (rs.length + 1) (ndC rs ++ [.int .u8 x.kind, .int .i64 x.at_, .int .i64 x.n, .string x.s, hx])) (f : MM.Far rv.ownBlock.toList w w1) :
    Rdr w0 (w1.setCell ⟨q, 0, none⟩ rv') q rv' tv ov (rs ++ [(x, hx)]) tops os ex := by
  have hlow := fun b (hb : b ∈ rv.ownBlock.toList) => (MM.own_lt h.row b (by simpa using hb)).2
  have hH : MM.Row w1 q 41 [rv, tv, ov] := h.head.far f (fun hm => MM.own_row_ne h.row h.head (by decide) (by simpa using hm))
  have hO : w1.ownsRow w0.heap.size 56 6 ov os.length (ptC os.reverse) := MM.own_far h.op f (own_off h.op h.row (by decide))
  have hK : Kin w1 w0.heap.size ((tv, tops) :: (kinsN rs ++ (kinsP os ++ ((hx, x.l) :: ex)))) := h.kin.far f (fun k hk => own_off (h.kin.each k hk) h.row (by decide))
  have g := one_far w1 q 0 rv'
  have offq {e : TypeId} {size n : Nat} {v : Value} {xs : List Value} (ho : w1.ownsRow w0.heap.size e size v n xs) (ht : e ≠ 41) : ∀ b, v.ownBlock = some b → b ∉ [q] := by
    intro b hb hm
    have : b = q := by simpa using hm
    subst this
    exact MM.own_row_ne ho hH ht hb
  have hqn : ∀ b, b ∈ [q] → b < w0.heap.size → b ∈ ([] : List Nat) := by
    intro b hb hl
    have e : b = q := by simpa using hb
    have := h.qb
    omega
  refine ⟨(h.far.trans f (fun b hb hl => by have := hlow b hb; omega)).trans g hqn, h.qb, ?_, ?_, MM.own_far hO g (offq hO (by decide)), ?_⟩
  · exact hH.put 0 rv'
  · rw [List.length_append, ndC_snoc]
    exact MM.own_far hr g (offq hr (by decide))
  · refine (hK.far g (fun k hk => offq (hK.each k hk) (by decide))).perm (List.Perm.cons _ ?_)
    rw [show kinsN (rs ++ [(x, hx)]) = kinsN rs ++ [(hx, x.l)] by simp [kinsN], List.append_assoc]
    refine List.Perm.append_left _ ?_
    rw [List.singleton_append]
    exact List.perm_middle
/-- One more that stands by itself. -/
theorem Rdr.top {tv' : Value} {n : Nat} (h : Rdr w0 w q rv tv ov rs tops os ex)
    (hr : w1.ownsRow w0.heap.size 3 1 tv' (tops.length + 1) (ints tops ++ [.int .i64 ((n : Nat) : Int)])) (f : MM.Far tv.ownBlock.toList w w1) (hat : tv'.ownBlock = tv.ownBlock ∨ ∃ b, tv'.ownBlock = some b ∧ w.heap.size ≤ b) :
    Rdr w0 (w1.setCell ⟨q, 1, none⟩ tv') q rv tv' ov rs (tops ++ [n]) os ex := by
  have ht := h.kin.each _ (List.mem_cons_self ..)
  have hlow := fun b (hb : b ∈ tv.ownBlock.toList) => (MM.own_lt ht b (by simpa using hb)).2
  have hH : MM.Row w1 q 41 [rv, tv, ov] := h.head.far f (fun hm => MM.own_row_ne ht h.head (by decide) (by simpa using hm))
  have hR := MM.own_far h.row f (own_off h.row ht (by decide))
  have hO := MM.own_far h.op f (own_off h.op ht (by decide))
  have hK := h.kin.grow hr f hat
  have g := one_far w1 q 1 tv'
  have offq {e : TypeId} {size n : Nat} {v : Value} {xs : List Value} (ho : w1.ownsRow w0.heap.size e size v n xs) (ht : e ≠ 41) : ∀ b, v.ownBlock = some b → b ∉ [q] := by
    intro b hb hm
    have : b = q := by simpa using hm
    subst this
    exact MM.own_row_ne ho hH ht hb
  have hqn : ∀ b, b ∈ [q] → b < w0.heap.size → b ∈ ([] : List Nat) := by
    intro b hb hl
    have e : b = q := by simpa using hb
    have := h.qb
    omega
  exact ⟨(h.far.trans f (fun b hb hl => by have := hlow b hb; omega)).trans g hqn, h.qb, hH.put 1 tv', MM.own_far hR g (offq hR (by decide)), MM.own_far hO g (offq hO (by decide)), hK.far g (fun k hk => offq (hK.each k hk) (by decide))⟩
/-- One more that is open. -/
theorem Rdr.push {ov' : Value} (p : Pt) (hp : p.l = []) (h : Rdr w0 w q rv tv ov rs tops os ex)
    (hr : w1.ownsRow w0.heap.size 56 6 ov' (os.length + 1) (ptC os.reverse ++ [.int .u8 4, .int .i64 p.at_, .int .i64 0, .string emp, .slice none 0 0, .bool p.q])) (f : MM.Far ov.ownBlock.toList w w1) :
    Rdr w0 (w1.setCell ⟨q, 2, none⟩ ov') q rv tv ov' rs tops ((p, .slice none 0 0) :: os) ex := by
  have hlow := fun b (hb : b ∈ ov.ownBlock.toList) => (MM.own_lt h.op b (by simpa using hb)).2
  have hH : MM.Row w1 q 41 [rv, tv, ov] := h.head.far f (fun hm => MM.own_row_ne h.op h.head (by decide) (by simpa using hm))
  have hR := MM.own_far h.row f (own_off h.row h.op (by decide))
  have hK := h.kin.far f (fun k hk => own_off (h.kin.each k hk) h.op (by decide))
  have g := one_far w1 q 2 ov'
  have offq {e : TypeId} {size n : Nat} {v : Value} {xs : List Value} (ho : w1.ownsRow w0.heap.size e size v n xs) (ht : e ≠ 41) : ∀ b, v.ownBlock = some b → b ∉ [q] := by
    intro b hb hm
    have : b = q := by simpa using hm
    subst this
    exact MM.own_row_ne ho hH ht hb
  have hqn : ∀ b, b ∈ [q] → b < w0.heap.size → b ∈ ([] : List Nat) := by
    intro b hb hl
    have e : b = q := by simpa using hb
    have := h.qb
    omega
  refine ⟨(h.far.trans f (fun b hb hl => by have := hlow b hb; omega)).trans g hqn, h.qb, hH.put 2 ov', MM.own_far hR g (offq hR (by decide)), ?_, ?_⟩
  · rw [List.length_cons, List.reverse_cons, ptC_snoc]
    exact MM.own_far hr g (offq hr (by decide))
  · have k2 := (hK.far g (fun k hk => offq (hK.each k hk) (by decide))).none_
    refine k2.perm ((List.Perm.swap _ _ _).trans (List.Perm.cons _ ?_))
    have e : kinsP ((p, .slice none 0 0) :: os) = (.slice none 0 0, []) :: kinsP os := by unfold kinsP; rw [List.map_cons, hp]
    rw [e, List.cons_append]
    exact List.perm_middle.symm
/-- What was opened last is no more among what is open; its list stands besides. -/
theorem Rdr.pop {ov' : Value} {p : Pt} {hp : Value} {os' : List (Pt × Value)} (h : Rdr w0 w q rv tv ov rs tops ((p, hp) :: os') ex)
    (hr : w1.ownsRow w0.heap.size 56 6 ov' os'.length (ptC os'.reverse)) (f : MM.Far [] w w1) :
    Rdr w0 (w1.setCell ⟨q, 2, none⟩ ov') q rv tv ov' rs tops os' ((hp, p.l) :: ex) := by
  have hH : MM.Row w1 q 41 [rv, tv, ov] := h.head.far f (by simp)
  have hR := MM.own_far h.row f (by simp)
  have hK := h.kin.far f (by simp)
  have g := one_far w1 q 2 ov'
  have offq {e : TypeId} {size n : Nat} {v : Value} {xs : List Value} (ho : w1.ownsRow w0.heap.size e size v n xs) (ht : e ≠ 41) : ∀ b, v.ownBlock = some b → b ∉ [q] := by
    intro b hb hm
    have : b = q := by simpa using hm
    subst this
    exact MM.own_row_ne ho hH ht hb
  have hqn : ∀ b, b ∈ [q] → b < w0.heap.size → b ∈ ([] : List Nat) := by
    intro b hb hl
    have e : b = q := by simpa using hb
    have := h.qb
    omega
  refine ⟨(h.far.trans f (by simp)).trans g hqn, h.qb, hH.put 2 ov', MM.own_far hR g (offq hR (by decide)), MM.own_far hr g (offq hr (by decide)), ?_⟩
  refine (hK.far g (fun k hk => offq (hK.each k hk) (by decide))).perm (List.Perm.cons _ (List.Perm.append_left _ ?_))
  show ((hp, p.l) :: (kinsP os' ++ ex)).Perm (kinsP os' ++ (hp, p.l) :: ex)
  exact List.perm_middle.symm
/-- What was opened last has one more. -/
theorem Rdr.more {hp' : Value} {p : Pt} {hp : Value} {os' : List (Pt × Value)} {n og c : Nat} (h : Rdr w0 w q rv tv ov rs tops ((p, hp) :: os') ex)
    (hov : ov = .slice (some ⟨og, 0, none⟩) (os'.length + 1) c)
    (hr : w1.ownsRow w0.heap.size 3 1 hp' (p.l.length + 1) (ints p.l ++ [.int .i64 ((n : Nat) : Int)])) (f : MM.Far hp.ownBlock.toList w w1) (hat : hp'.ownBlock = hp.ownBlock ∨ ∃ b, hp'.ownBlock = some b ∧ w.heap.size ≤ b) :
    Rdr w0 (w1.setCell ⟨og, os'.length * 6 + 4, none⟩ hp') q rv tv ov rs tops ((⟨p.at_, p.q, p.l ++ [n]⟩, hp') :: os') ex := by
  have hmem : (hp, p.l) ∈ ((tv, tops) :: (kinsN rs ++ (kinsP ((p, hp) :: os') ++ ex))) := by simp [kinsP]
  have ht := h.kin.each _ hmem
  have hlow := fun b (hb : b ∈ hp.ownBlock.toList) => (MM.own_lt ht b (by simpa using hb)).2
  have hH : MM.Row w1 q 41 [rv, tv, ov] := h.head.far f (fun hm => MM.own_row_ne ht h.head (by decide) (by simpa using hm))
  have hR := MM.own_far h.row f (own_off h.row ht (by decide))
  have hO := MM.own_far h.op f (own_off h.op ht (by decide))
  have pm : ((tv, tops) :: (kinsN rs ++ (kinsP ((p, hp) :: os') ++ ex))).Perm ((hp, p.l) :: ((tv, tops) :: (kinsN rs ++ (kinsP os' ++ ex)))) := by
    refine (List.Perm.cons _ ?_).trans (List.Perm.swap _ _ _)
    show (kinsN rs ++ ((hp, p.l) :: (kinsP os' ++ ex))).Perm _
    exact List.perm_middle
  have hK := (h.kin.perm pm).grow hr f hat
  have g := one_far w1 og (os'.length * 6 + 4) hp'
  have hog := MM.own_lt hO og (by rw [hov]; rfl)
  have hOs := hO
  rw [hov] at hOs
  have offo {e : TypeId} {size n : Nat} {v : Value} {xs : List Value} (ho : w1.ownsRow w0.heap.size e size v n xs) (ht : e ≠ 56) : ∀ b, v.ownBlock = some b → b ∉ [og] := by
    intro b hb hm
    have : b = og := by simpa using hm
    subst this
    exact MM.own_own_ne ho hOs ht b hb rfl
  refine ⟨(h.far.trans f (fun b hb hl => by have := hlow b hb; omega)).trans g (fun b hb hl => by
    have e : b = og := by simpa using hb
    omega), h.qb, ?_, MM.own_far hR g (offo hR (by decide)), ?_, ?_⟩
  · refine hH.far g (fun hm => ?_)
    have e : q = og := by simpa using hm
    subst e
    exact MM.own_row_ne hOs hH (by decide) rfl
  · have hst := (hOs.stored (os'.length * 6 + 4) hp').1
    rw [hov, List.length_cons]
    have e : (ptC ((p, hp) :: os').reverse).set (os'.length * 6 + 4) hp' = ptC ((⟨p.at_, p.q, p.l ++ [n]⟩, hp') :: os').reverse := by
      rw [List.reverse_cons, List.reverse_cons, ptC_snoc, ptC_snoc, List.set_append_right _ _ (by rw [ptC_len, List.length_reverse]; omega), ptC_len, List.length_reverse]
      congr 1
      rw [show os'.length * 6 + 4 - os'.length * 6 = 4 by omega]
      rfl
    rw [← e]
    exact hst
  · have k2 := hK.far g (fun k hk => offo (hK.each k hk) (by decide))
    refine k2.perm ((List.Perm.swap _ _ _).trans (List.Perm.cons _ ?_))
    show ((hp', p.l ++ [n]) :: (kinsN rs ++ (kinsP os' ++ ex))).Perm (kinsN rs ++ ((hp', p.l ++ [n]) :: (kinsP os' ++ ex)))
    exact List.perm_middle.symm
end
end RC6
end Go.Proofs.YtbglcdjimipeeaaDoor
