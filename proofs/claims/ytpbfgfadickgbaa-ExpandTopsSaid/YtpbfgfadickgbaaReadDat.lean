/-
  Data of the call's own, that grow: a datum more, a place more. No condition but sizes.
-/
import Derived.Test.YtpbfgfadickgbaaReadMays
namespace Go.Proofs.Ytpbfgfadickgbaa
open Go.RowKit
namespace RW6
open LX RX RM6
/-- Data and those by themselves, in rows made since base; ex: lists besides. -/
structure Dat (w : World) (base : Nat) (rv tv : Value) (rs : List (Nd × Value)) (tops : List Nat) (ex : List (Value × List Nat)) : Prop where
  row : w.ownsRow base 81 5 rv rs.length (ndC rs)
  kin : Kin w base ((tv, tops) :: (kinsN rs ++ ex))
section
variable {w w' w1 : World} {base : Nat} {rv tv : Value} {rs : List (Nd × Value)} {tops : List Nat} {ex : List (Value × List Nat)}
theorem Done.dat {w0 : World} (h : Done w0 w rv tv rs tops) : Dat w w0.heap.size rv tv rs tops [] := ⟨h.row, by rw [List.append_nil]; exact h.kin⟩
theorem Dat.far {S : List Nat} (h : Dat w base rv tv rs tops ex) (f : MM.Far S w w1) (hS : ∀ b ∈ S, b < base) : Dat w1 base rv tv rs tops ex :=
  ⟨MM.own_far h.row f (fun b hb hm => by have := (MM.own_lt h.row b hb).2; have := hS b hm; omega), h.kin.far f (fun k hk b hb hm => by have := (MM.own_lt (h.kin.each k hk) b hb).2; have := hS b hm; omega)⟩
theorem Dat.to (h : Dat w base rv tv rs tops ex) (f : MM.Far [] w w1) : Dat w1 base rv tv rs tops ex := h.far f (by simp)
theorem Dat.tops_row (h : Dat w base rv tv rs tops ex) : ∃ A c, tv = .slice A tops.length c ∧ tops.length ≤ c ∧ c ≤ maxLen ∧ (A = none → c = 0) ∧ IntRow w A tops := own_ints (h.kin.each (tv, tops) (List.mem_cons_self ..))
theorem Dat.nodes (h : Dat w base rv tv rs tops ex) : ∃ A c, rv = .slice A rs.length c ∧ rs.length ≤ c ∧ c ≤ maxLen ∧ (A = none → c = 0) ∧ NdRow w A (rs.map (·.1)) := by
  obtain ⟨A, c, rfl, k0, k1, k2, k3, hh⟩ := MO.form h.row
  refine ⟨A, c, rfl, k1, k2, k0, fun k hk => ?_⟩
  have hk2 : k < rs.length := by simpa using hk
  rcases hh with ⟨_, hz, _⟩ | ⟨g, rfl, _, hlt⟩
  · omega
  obtain ⟨LA, lc, e, _, _, _, hI⟩ := own_ints (h.kin.each (rs[k].2, rs[k].1.l) (by
    refine List.mem_cons_of_mem _ (List.mem_append_left _ ?_)
    unfold kinsN
    exact List.mem_map.2 ⟨rs[k], List.getElem_mem hk2, rfl⟩))
  have c (j : Nat) (hj : j < 5) (u : Value) (hu : ([.int .u8 rs[k].1.kind, .int .i64 rs[k].1.at_, .int .i64 rs[k].1.n, .string rs[k].1.s, rs[k].2] : List Value)[j]? = some u) : w.cell? ⟨g, 0 + k * 5 + j, none⟩ = some u := by
    have := @World.ownsRow.cells w _ _ _ _ _ _ h.row g rfl (k * 5 + j) u ((ndC_at rs k hk2 j hj).trans hu)
    rw [MM.head_add] at this
    rw [Nat.zero_add]; exact this
  have em : (rs.map (·.1))[k] = rs[k].1 := by simp
  rw [em]
  exact ⟨g, 0, LA, lc, rfl, hlt, c 0 (by omega) _ rfl, c 1 (by omega) _ rfl, c 2 (by omega) _ rfl, c 3 (by omega) _ rfl, (c 4 (by omega) _ rfl).trans (congrArg some e), hI⟩
theorem Dat.at (h : Dat w base rv tv rs tops ex) {k : Nat} (hk : k < rs.length) : ∃ g c LA e, rv = .slice (some ⟨g, 0, none⟩) rs.length c ∧ base ≤ g ∧ g < w.heap.size ∧ w.cell? ⟨g, k * 5, none⟩ = some (.int .u8 rs[k].1.kind) ∧ w.cell? ⟨g, k * 5 + 1, none⟩ = some (.int .i64 rs[k].1.at_) ∧
    w.cell? ⟨g, k * 5 + 2, none⟩ = some (.int .i64 rs[k].1.n) ∧ w.cell? ⟨g, k * 5 + 3, none⟩ = some (.string rs[k].1.s) ∧ w.cell? ⟨g, k * 5 + 4, none⟩ = some rs[k].2 ∧ rs[k].2 = .slice LA rs[k].1.l.length e := by
  obtain ⟨A, c, rfl, k0, k1, k2, k3, hh⟩ := MO.form h.row
  rcases hh with ⟨_, hz, _⟩ | ⟨g, rfl, hg, hlt⟩
  · omega
  obtain ⟨LA, lc, e, _⟩ := own_ints (h.kin.each (rs[k].2, rs[k].1.l) (by
    refine List.mem_cons_of_mem _ (List.mem_append_left _ ?_)
    unfold kinsN
    exact List.mem_map.2 ⟨rs[k], List.getElem_mem hk, rfl⟩))
  have c (j : Nat) (hj : j < 5) (u : Value) (hu : ([.int .u8 rs[k].1.kind, .int .i64 rs[k].1.at_, .int .i64 rs[k].1.n, .string rs[k].1.s, rs[k].2] : List Value)[j]? = some u) : w.cell? ⟨g, k * 5 + j, none⟩ = some u := by
    have := @World.ownsRow.cells w _ _ _ _ _ _ h.row g rfl (k * 5 + j) u ((ndC_at rs k hk j hj).trans hu)
    rw [MM.head_add] at this
    exact this
  exact ⟨g, _, LA, lc, rfl, hg, hlt, c 0 (by omega) _ rfl, c 1 (by omega) _ rfl, c 2 (by omega) _ rfl, c 3 (by omega) _ rfl, c 4 (by omega) _ rfl, e⟩
theorem Dat.list (h : Dat w base rv tv rs tops ex) {x : Nd} {LA : Option Addr} {n c : Nat} (hm : (x, Value.slice LA n c) ∈ rs) : IntRow w LA x.l := by
  obtain ⟨A, c2, e, _, _, _, hI⟩ := own_ints (h.kin.each (.slice LA n c, x.l) (by
    refine List.mem_cons_of_mem _ (List.mem_append_left _ ?_)
    unfold kinsN
    exact List.mem_map.2 ⟨_, hm, rfl⟩))
  injection e with e1 _ _
  subst e1
  exact hI
theorem Dat.nil (h : Dat w base rv tv rs tops ex) : Dat w base rv tv rs tops ((.slice none 0 0, []) :: ex) := by
  refine ⟨h.row, h.kin.none_.perm ((List.Perm.swap _ _ _).trans (List.Perm.cons _ ?_))⟩
  exact List.perm_middle.symm
/-- A place more in the list besides. -/
theorem Dat.more {v v' : Value} {l : List Nat} {n : Nat} (h : Dat w base rv tv rs tops ((v, l) :: ex)) (hv : w1.ownsRow base 3 1 v' (l.length + 1) (ints l ++ [.int .i64 ((n : Nat) : Int)])) (f : MM.Far v.ownBlock.toList w w1)
    (hat : v'.ownBlock = v.ownBlock ∨ ∃ b, v'.ownBlock = some b ∧ w.heap.size ≤ b) : Dat w1 base rv tv rs tops ((v', l ++ [n]) :: ex) := by
  have ht := h.kin.each (v, l) (by simp)
  have pm : ((tv, tops) :: (kinsN rs ++ ((v, l) :: ex))).Perm ((v, l) :: ((tv, tops) :: (kinsN rs ++ ex))) := (List.Perm.cons _ List.perm_middle).trans (List.Perm.swap _ _ _)
  refine ⟨MM.own_far h.row f (own_off h.row ht (by decide)), ((h.kin.perm pm).grow hv f hat).perm ((List.Perm.swap _ _ _).trans (List.Perm.cons _ ?_))⟩
  exact List.perm_middle.symm
/-- A place more of those by themselves. -/
theorem Dat.top {tv' : Value} {n : Nat} (h : Dat w base rv tv rs tops ex) (hv : w1.ownsRow base 3 1 tv' (tops.length + 1) (ints tops ++ [.int .i64 ((n : Nat) : Int)])) (f : MM.Far tv.ownBlock.toList w w1)
    (hat : tv'.ownBlock = tv.ownBlock ∨ ∃ b, tv'.ownBlock = some b ∧ w.heap.size ≤ b) : Dat w1 base rv tv' rs (tops ++ [n]) ex := by
  have ht := h.kin.each (tv, tops) (List.mem_cons_self ..)
  exact ⟨MM.own_far h.row f (own_off h.row ht (by decide)), h.kin.grow hv f hat⟩
/-- A datum more. -/
theorem Dat.node {rv' : Value} (x : Nd) (hx : Value) (h : Dat w base rv tv rs tops ((hx, x.l) :: ex)) (hr : w1.ownsRow base 81 5 rv' (rs.length + 1) (ndC rs ++ [.int .u8 x.kind, .int .i64 x.at_, .int .i64 x.n, .string x.s, hx])) (f : MM.Far rv.ownBlock.toList w w1) :
    Dat w1 base rv' tv (rs ++ [(x, hx)]) tops ex := by
  refine ⟨by rw [List.length_append, ndC_snoc]; exact hr, (h.kin.far f (fun k hk => own_off (h.kin.each k hk) h.row (by decide))).perm (List.Perm.cons _ ?_)⟩
  rw [show kinsN (rs ++ [(x, hx)]) = kinsN rs ++ [(hx, x.l)] by simp [kinsN], List.append_assoc]
  refine List.Perm.append_left _ ?_
  rw [List.singleton_append]
/-- A box of a datum besides turns. -/
theorem Dat.box {bx : Nat} {l : List Value} (h : Dat w base rv tv rs tops ex) (hb : MM.Row w bx 81 l) (hne : rv.ownBlock ≠ some bx) (f : MM.Far [bx] w w1) : Dat w1 base rv tv rs tops ex := by
  refine ⟨MM.own_far h.row f (fun b hb2 hm => ?_), h.kin.far f (fun k hk b hb2 hm => ?_)⟩
  · have e : b = bx := by simpa using hm
    subst e
    exact hne hb2
  · have e : b = bx := by simpa using hm
    subst e
    exact MM.own_row_ne (h.kin.each k hk) hb (by decide) hb2
/-- An append of a place, as one operation of the walk. -/
theorem place_push {ops : Array Oper} {rest : List Oper} {o : Oper} {a : Act} {Q : Exit → Act → World → Prop} {w : World} {v : Value} {l : List Nat} {n : Nat} {z : Int} (hz : z = ((n : Nat) : Int))
    (hO : w.ownsRow base 3 1 v l.length (ints l)) (hb : base ≤ w.heap.size) (hl : l.length ≤ 100000) (hgd : o.guard = none) (s x : Operand)
    (ho : o.op = .call { callee := .builtin .append, args := #[s, x], argTypes := #[24, 24] })
    (hs : a.eval s = v) (hx : a.eval x = .slice (some ⟨w.heap.size, 0, none⟩) 1 1)
    (h : ∀ A c w', w'.ownsRow base 3 1 (.slice A (l.length + 1) c) (l.length + 1) (ints l ++ [.int .i64 ((n : Nat) : Int)]) → MM.Far v.ownBlock.toList w w' →
      ((Value.slice A (l.length + 1) c).ownBlock = v.ownBlock ∨ ∃ b, (Value.slice A (l.length + 1) c).ownBlock = some b ∧ w.heap.size ≤ b) → wpList Try.prog ops Q rest (a.put o.dst (.slice A (l.length + 1) c)) w') :
    wpList Try.prog ops Q (o :: rest) a (w.alloc (.cells #[.int .i64 z] 3)) := by
  subst hz
  exact RC6.kin_push hO hb hl hgd s x ho hs hx h
theorem far_app0 {W w2 : World} {o : Obj} {b : Option Nat} (h : (W.alloc o).grownBy w2 b) : MM.Far b.toList W w2 :=
  ((MM.Far.refl b.toList W).alloc o).trans (MM.Far.of_grown (S := b.toList) (a := W.alloc o) h (by intro k hk _; simp [hk])) (fun k hk _ => hk)
/-- An append of a datum, as one operation of the walk. -/
theorem node_push {ops : Array Oper} {rest : List Oper} {o : Oper} {a : Act} {Q : Exit → Act → World → Prop} {w : World} {v : Value} {rs : List (Nd × Value)} (x : Nd) (LA : Option Addr) (lc : Nat) {m pz : Nat} (hm : m = x.l.length) (hpz : pz = w.heap.size)
    (hO : w.ownsRow base 81 5 v rs.length (ndC rs)) (hb : base ≤ w.heap.size) (hl : rs.length ≤ 100000) (hgd : o.guard = none) (s u : Operand)
    (ho : o.op = .call { callee := .builtin .append, args := #[s, u], argTypes := #[39, 39] })
    (hs : a.eval s = v) (hu : a.eval u = .slice (some ⟨pz, 0, none⟩) 1 1)
    (h : ∀ A c w', w'.ownsRow base 81 5 (.slice A (rs.length + 1) c) (rs.length + 1) (ndC rs ++ [.int .u8 x.kind, .int .i64 x.at_, .int .i64 x.n, .string x.s, .slice LA x.l.length lc]) → MM.Far v.ownBlock.toList w w' →
      ((Value.slice A (rs.length + 1) c).ownBlock = v.ownBlock ∨ ∃ b, (Value.slice A (rs.length + 1) c).ownBlock = some b ∧ w.heap.size ≤ b) → wpList Try.prog ops Q rest (a.put o.dst (.slice A (rs.length + 1) c)) w') :
    wpList Try.prog ops Q (o :: rest) a (w.alloc (.cells #[.int .u8 x.kind, .int .i64 x.at_, .int .i64 x.n, .string x.s, .slice LA m lc] 81)) := by
  subst hm hpz
  have hF : MM.Far [] w (w.alloc (.cells #[.int .u8 x.kind, .int .i64 x.at_, .int .i64 x.n, .string x.s, .slice LA x.l.length lc] 81)) := (MM.Far.refl [] w).alloc _
  refine MO.wpList_append _ hgd s u 39 ho base 81 _ 5 64 RC6.nodes_slice RC6.node_info rfl (by omega) v rs.length (ndC rs) hs (hO.alloc _) (some ⟨w.heap.size, 0, none⟩) 1 1 [.int .u8 x.kind, .int .i64 x.at_, .int .i64 x.n, .string x.s, .slice LA x.l.length lc] hu rfl (fun h => by cases h) [] ?_ (RC6.nd_one x LA lc) ?_ ?_ (by have := hF.size; omega) ?_
  · exact MM.Src.row (MM.Row.new w 81 [.int .u8 x.kind, .int .i64 x.at_, .int .i64 x.n, .string x.s, .slice LA x.l.length lc]) (by simp) _ (fun j u hu => hu)
  · simp only [maxLen]; omega
  · omega
  · intro v' w' hv hg hat
    obtain ⟨A, c, rfl, _⟩ := MO.form hv
    refine h A c w' hv (far_app0 hg) ?_
    rcases hat with e | e
    · exact .inl e
    · exact .inr ⟨_, e, by have := hF.size; omega⟩
end
end RW6
end Go.Proofs.Ytpbfgfadickgbaa
