/-
  Layer 8's law of texts one behind the other: what was made stays where a row of numbers of before is written; forms appended. No condition.
-/
import Derived.Test.YtpbfgfadickgbaaExpTp2
import Derived.Test.YtpbfgfadickgbaaExpL
import Derived.Test.YtpbfgfadickgbaaReadDat
namespace Go.Proofs.Ytpbfgfadickgbaa
open Go.RowKit
set_option linter.unusedVariables false
namespace EW
open LX SX RW6 EX
open RX (Nd Rd)
open RM6 (Kin)
/-- The blocks G are rows of numbers of before. -/
def Old (w : World) (B : Nat) (G : List Nat) : Prop := ∀ g ∈ G, g < B ∧ ∃ cs fz, w.heap[g]? = some (.cells cs 3 fz)
theorem sl_off {w : World} {Z : List Nat} {v : Value} {names : List ByteArray} {B : Nat} {G : List Nat} (h : Sl w Z v (strs names)) (hG : Old w B G) : Sl w (G ++ Z) v (strs names) := by
  obtain ⟨A, c, e, h1, ⟨h2, hty⟩, h3⟩ := h
  refine ⟨A, c, e, h1, ⟨h2, hty⟩, fun k u hu => ?_⟩
  obtain ⟨g, o, eA, hz, hl, hc⟩ := h3 k u hu
  refine ⟨g, o, eA, fun hm => ?_, hl, hc⟩
  rcases List.mem_append.1 hm with hm | hm
  · obtain ⟨_, cs, fz, hh⟩ := hG g hm
    obtain ⟨i, hi⟩ := hty g o none cs fz eA hh u (List.mem_of_getElem? hu)
    unfold strs at hu
    rw [List.getElem?_map] at hu
    cases hx : names[k]? with
    | none => rw [hx] at hu; cases hu
    | some s =>
      rw [hx] at hu
      injection hu with hu
      rw [hi] at hu
      cases hu
  · exact hz hm
/-- Forms and those by themselves, as they lie. -/
structure DoneR (B : Nat) (w : World) (fv tv : Value) (rs : List (Fm × Value × Value)) (tops : List Nat) : Prop where
  row : w.ownsRow B 32 8 fv rs.length (fmC rs)
  kin : Kin w B ((tv, tops) :: kinsF rs)
  nam : ∀ x ∈ rs, Sl w [] x.2.1 (strs x.1.p)
theorem DoneF.r {w0 w : World} {fv tv : Value} {rs : List (Fm × Value × Value)} {tops : List Nat} (h : DoneF w0 w fv tv rs tops) : DoneR w0.heap.size w fv tv rs tops := ⟨h.row, h.kin, h.nam⟩
theorem DoneR.to {B : Nat} {w w1 : World} {fv tv : Value} {rs : List (Fm × Value × Value)} {tops : List Nat} (h : DoneR B w fv tv rs tops) (f : MM.Far [] w w1) : DoneR B w1 fv tv rs tops := ⟨MM.own_far h.row f (by simp), h.kin.far f (by simp), fun x hx => (h.nam x hx).far f (by simp)⟩
theorem DoneR.farG {B : Nat} {w w1 : World} {fv tv : Value} {rs : List (Fm × Value × Value)} {tops : List Nat} {G : List Nat} (h : DoneR B w fv tv rs tops) (hG : Old w B G) (f : MM.Far G w w1) : DoneR B w1 fv tv rs tops :=
  ⟨MM.own_far h.row f (fun b hb hm => by have := (MM.own_lt h.row b hb).2; have := (hG b hm).1; omega),
   h.kin.far f (fun k hk b hb hm => by have := (MM.own_lt (h.kin.each k hk) b hb).2; have := (hG b hm).1; omega),
   fun x hx => ((sl_off (h.nam x hx) hG).far f (fun b hb _ => List.mem_append_left _ hb)).more (fun b hb => by cases hb)⟩
theorem fm_rows {B : Nat} {w : World} {fv : Value} {rs : List (Fm × Value × Value)} (hr : w.ownsRow B 32 8 fv rs.length (fmC rs)) (hl : ∀ x ∈ rs, ∃ LA lc, x.2.2 = .slice LA x.1.l.length lc ∧ IntRow w LA x.1.l) (hn : ∀ x ∈ rs, Sl w [] x.2.1 (strs x.1.p)) :
    ∃ A c, fv = .slice A rs.length c ∧ rs.length ≤ c ∧ c ≤ maxLen ∧ (A = none → c = 0) ∧ FmR w A (rs.map (·.1)) := by
  obtain ⟨A, c, rfl, k0, k1, k2, k3, hh⟩ := MO.form hr
  refine ⟨A, c, rfl, k1, k2, k0, fun k hk => ?_⟩
  have hk2 : k < rs.length := by simpa using hk
  rcases hh with ⟨_, hz, _⟩ | ⟨g, rfl, _, hlt⟩
  · omega
  obtain ⟨LA, lc, e, hI⟩ := hl rs[k] (List.getElem_mem hk2)
  have hnam := hn rs[k] (List.getElem_mem hk2)
  obtain ⟨PA, pc, ep, _⟩ := hnam.form
  have c (j : Nat) (hj : j < 8) (u : Value) (hu : (fmL rs[k])[j]? = some u) : w.cell? ⟨g, 0 + k * 8 + j, none⟩ = some u := by
    have := @World.ownsRow.cells w _ _ _ _ _ _ hr g rfl (k * 8 + j) u ((fmC_at rs k hk2 j hj).trans hu)
    rw [MM.head_add] at this
    rw [Nat.zero_add]; exact this
  have em : (rs.map (·.1))[k] = rs[k].1 := by simp
  rw [em]
  rw [strs_len] at ep
  rw [ep] at hnam
  exact ⟨g, 0, PA, pc, LA, lc, rfl, hlt, c 0 (by omega) _ rfl, c 1 (by omega) _ rfl, c 2 (by omega) _ rfl, c 3 (by omega) _ rfl, c 4 (by omega) _ rfl, (c 5 (by omega) _ rfl).trans (congrArg some ep), c 6 (by omega) _ rfl, (c 7 (by omega) _ rfl).trans (congrArg some e), hnam, hI⟩
theorem DoneR.lists {B : Nat} {w : World} {fv tv : Value} {rs : List (Fm × Value × Value)} {tops : List Nat} (h : DoneR B w fv tv rs tops) : ∀ x ∈ rs, ∃ LA lc, x.2.2 = .slice LA x.1.l.length lc ∧ IntRow w LA x.1.l := fun x hx => by
  obtain ⟨LA, lc, e, l1, l2, _, hI⟩ := own_ints (h.kin.each (x.2.2, x.1.l) (List.mem_cons_of_mem _ (by unfold kinsF; exact List.mem_map.2 ⟨x, hx, rfl⟩)))
  exact ⟨LA, lc, e, hI⟩
theorem DoneR.rows {B : Nat} {w : World} {fv tv : Value} {rs : List (Fm × Value × Value)} {tops : List Nat} (h : DoneR B w fv tv rs tops) : ∃ A c, fv = .slice A rs.length c ∧ rs.length ≤ c ∧ c ≤ maxLen ∧ (A = none → c = 0) ∧ FmR w A (rs.map (·.1)) := fm_rows h.row h.lists h.nam
theorem DoneR.tops_row {B : Nat} {w : World} {fv tv : Value} {rs : List (Fm × Value × Value)} {tops : List Nat} (h : DoneR B w fv tv rs tops) : ∃ A c, tv = .slice A tops.length c ∧ tops.length ≤ c ∧ c ≤ maxLen ∧ (A = none → c = 0) ∧ IntRow w A tops := own_ints (h.kin.each (tv, tops) (List.mem_cons_self ..))
theorem sl_row {w : World} {Z : List Nat} {v : Value} {l : List Nat} (h : Sl w Z v (ints l)) : ∃ LA lc, v = .slice LA l.length lc ∧ IntRow w LA l := by
  obtain ⟨A, c, e, h1, h2, h3⟩ := h
  have hlen : (ints l).length = l.length := by unfold ints; rw [List.length_map]
  rw [hlen] at e
  refine ⟨A, c, e, fun k hk => ?_⟩
  obtain ⟨g, o, eA, _, hl, hc⟩ := h3 k (.int .i64 ((l[k] : Nat) : Int)) (by unfold ints; rw [List.getElem?_map, List.getElem?_eq_getElem hk]; rfl)
  exact ⟨g, o, eA, hl, hc⟩
/-- The forms that are wanted: a row of the call's own; their names and lists are in none of its blocks, nor in G. -/
structure Wt (w8 wr : World) (G : List Nat) (v : Value) (rs : List (Fm × Value × Value)) : Prop where
  row : wr.ownsRow w8.heap.size 32 8 v rs.length (fmC rs)
  rd : ∀ x ∈ rs, Sl wr (G ++ v.ownBlock.toList) x.2.1 (strs x.1.p) ∧ Sl wr (G ++ v.ownBlock.toList) x.2.2 (ints x.1.l)
  far : MM.Far [] w8 wr
theorem Wt.to {w8 wr w1 : World} {G : List Nat} {v : Value} {rs : List (Fm × Value × Value)} (h : Wt w8 wr G v rs) (f : MM.Far [] wr w1) : Wt w8 w1 G v rs :=
  ⟨MM.own_far h.row f (by simp), fun x hx => ⟨(h.rd x hx).1.far f (by simp), (h.rd x hx).2.far f (by simp)⟩, h.far.trans f (by simp)⟩
theorem Wt.push {w8 wr w5 : World} {G : List Nat} {v v' : Value} {rs : List (Fm × Value × Value)} (x : Fm) (pv hx : Value) (h : Wt w8 wr G v rs) (hG : ∀ g ∈ G, g < w8.heap.size) (hp : Sl wr (G ++ v.ownBlock.toList) pv (strs x.p)) (hl : Sl wr (G ++ v.ownBlock.toList) hx (ints x.l))
    (hr : w5.ownsRow w8.heap.size 32 8 v' (rs.length + 1) (fmC rs ++ fmL (x, pv, hx))) (f : MM.Far v.ownBlock.toList wr w5) (hat : v'.ownBlock = v.ownBlock ∨ ∃ b, v'.ownBlock = some b ∧ wr.heap.size ≤ b) : Wt w8 w5 G v' (rs ++ [(x, pv, hx)]) := by
  have hz : ∀ b ∈ G ++ v'.ownBlock.toList, b ∈ G ++ v.ownBlock.toList ∨ wr.heap.size ≤ b := fun b hb => by
    rcases List.mem_append.1 hb with hb | hb
    · exact .inl (List.mem_append_left _ hb)
    · have hb : v'.ownBlock = some b := by simpa using hb
      rcases hat with e | ⟨g, e, hg⟩
      · exact .inl (List.mem_append_right _ (by rw [← e]; simpa using hb))
      · rw [e] at hb; injection hb with hb; exact .inr (by omega)
  have go {u : Value} {vs : List Value} (hs : Sl wr (G ++ v.ownBlock.toList) u vs) : Sl w5 (G ++ v'.ownBlock.toList) u vs := by
    have h1 : Sl wr (v.ownBlock.toList ++ (G ++ v'.ownBlock.toList)) u vs := hs.more (fun b hb => by
      rcases List.mem_append.1 hb with hb | hb
      · exact .inl (List.mem_append_right _ hb)
      · exact hz b hb)
    exact (h1.far f (fun b hb _ => List.mem_append_left _ hb)).more (fun b hb => .inl (List.mem_append_right _ hb))
  have hlow : ∀ b ∈ v.ownBlock.toList, w8.heap.size ≤ b := fun b hb => (MM.own_lt h.row b (by simpa using hb)).2
  refine ⟨by rw [List.length_append, fmC_snoc]; exact hr, fun y hy => ?_, h.far.trans f (fun b hb hlt => by have := hlow b hb; omega)⟩
  rcases List.mem_append.1 hy with hy | hy
  · exact ⟨go (h.rd y hy).1, go (h.rd y hy).2⟩
  · have : y = (x, pv, hx) := by simpa using hy
    subst this
    exact ⟨go hp, go hl⟩
theorem Wt.rows {w8 wr w9 : World} {G : List Nat} {v : Value} {rs : List (Fm × Value × Value)} (h : Wt w8 wr G v rs) (hG : ∀ g ∈ G, g < w8.heap.size) (f : MM.Far G wr w9) : ∃ A c, v = .slice A rs.length c ∧ rs.length ≤ c ∧ c ≤ maxLen ∧ (A = none → c = 0) ∧ FmR w9 A (rs.map (·.1)) :=
  fm_rows (MM.own_far h.row f (fun b hb hm => by have := (MM.own_lt h.row b hb).2; have := hG b hm; omega)) (fun x hx => sl_row ((h.rd x hx).2.far f (fun b hb _ => List.mem_append_left _ hb))) (fun x hx => ((h.rd x hx).1.far f (fun b hb _ => List.mem_append_left _ hb)).more (fun b hb => by cases hb))
/-- An append of a form, as one operation of the walk. -/
theorem form_push {base : Nat} {ops : Array Oper} {rest : List Oper} {o : Oper} {a : Act} {Q : Exit → Act → World → Prop} {w : World} {v : Value} {rs : List (Fm × Value × Value)} (x : Fm) (PA LA : Option Addr) (np pc ml lc : Nat) {pz : Nat} (hpz : pz = w.heap.size)
    (hO : w.ownsRow base 32 8 v rs.length (fmC rs)) (hb : base ≤ w.heap.size) (hl : rs.length ≤ 100000) (hgd : o.guard = none) (s u : Operand)
    (ho : o.op = .call { callee := .builtin .append, args := #[s, u], argTypes := #[23, 23] })
    (hs : a.eval s = v) (hu : a.eval u = .slice (some ⟨pz, 0, none⟩) 1 1)
    (h : ∀ A c w', w'.ownsRow base 32 8 (.slice A (rs.length + 1) c) (rs.length + 1) (fmC rs ++ fmL (x, .slice PA np pc, .slice LA ml lc)) → MM.Far v.ownBlock.toList w w' →
      ((Value.slice A (rs.length + 1) c).ownBlock = v.ownBlock ∨ ∃ b, (Value.slice A (rs.length + 1) c).ownBlock = some b ∧ w.heap.size ≤ b) → wpList Try.prog ops Q rest (a.put o.dst (.slice A (rs.length + 1) c)) w') :
    wpList Try.prog ops Q (o :: rest) a (w.alloc (.cells #[.int .u8 x.kind, .int .i64 x.at_, .int .i64 x.n, .int .i64 0, .string x.s, .slice PA np pc, .int .u64 0, .slice LA ml lc] 32)) := by
  subst hpz
  have hF : MM.Far [] w (w.alloc (.cells #[.int .u8 x.kind, .int .i64 x.at_, .int .i64 x.n, .int .i64 0, .string x.s, .slice PA np pc, .int .u64 0, .slice LA ml lc] 32)) := (MM.Far.refl [] w).alloc _
  refine MO.wpList_append _ hgd s u 23 ho base 32 _ 8 104 forms_slice form_info rfl (by omega) v rs.length (fmC rs) hs (hO.alloc _) (some ⟨w.heap.size, 0, none⟩) 1 1 (fmL (x, .slice PA np pc, .slice LA ml lc)) hu rfl (fun h => by cases h) [] ?_ (fm_one x PA LA np pc ml lc) ?_ ?_ (by have := hF.size; omega) ?_
  · exact MM.Src.row (MM.Row.new w 32 (fmL (x, .slice PA np pc, .slice LA ml lc))) (by simp) _ (fun j u hu => hu)
  · simp only [maxLen]; omega
  · omega
  · intro v' w' hv hg hat
    obtain ⟨A, c, rfl, _⟩ := MO.form hv
    refine h A c w' hv (far_app0 hg) ?_
    rcases hat with e | e
    · exact .inl e
    · exact .inr ⟨_, e, by have := hF.size; omega⟩
theorem fm_ones (rs : List (Fm × Value × Value)) (h : ∀ x ∈ rs, (∃ A n c, x.2.1 = .slice A n c) ∧ ∃ A n c, x.2.2 = .slice A n c) : ∀ u ∈ fmC rs, u.oneCell' = true := by
  intro u hu
  unfold fmC at hu
  obtain ⟨x, hx, hm⟩ := List.mem_flatMap.1 hu
  obtain ⟨⟨A, n, c, e1⟩, B, m, d, e2⟩ := h x hx
  obtain ⟨f, pv, hv⟩ := x
  simp only at e1 e2
  subst e1 e2
  exact fm_one f A B n c m d u hm
end EW
end Go.Proofs.Ytpbfgfadickgbaa
