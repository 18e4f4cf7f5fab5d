/-
  The printer of data in memory: its text's bytes and what is open are rows of the call's own; contracts of its builder's methods, the builder being a field of it. Condition: the text's length.
-/
import Derived.Test.YtpbfgfadickgbaaGreatDoorReadMems
import Derived.Lib.Builder
import Derived.Lib.AppendStr
namespace Go.Proofs.YtpbfgfadickgbaaGreatDoor
open Go.RowKit
namespace SW
open LX RX RW6
open RC6 (own_off one_far form_ far_app far_app0 one_int own_front ints_slice int_info own_row)
/-- A list that is open: its places, how many are printed, where it lies. -/
structure Op where
  l : List Nat
  k : Nat
  A : Option Addr
  c : Nat
def oC (os : List Op) : List Value := os.flatMap fun x => [.slice x.A x.l.length x.c, .int .i64 (x.k : Int)]
theorem oC_snoc (os : List Op) (x : Op) : oC (os ++ [x]) = oC os ++ [.slice x.A x.l.length x.c, .int .i64 (x.k : Int)] := by simp [oC]
theorem oC_len (os : List Op) : (oC os).length = os.length * 2 := by
  induction os with
  | nil => rfl
  | cons x r ih => simp only [oC, List.flatMap_cons, List.length_append, List.length_cons] at ih ⊢; rw [ih]; simp; omega
theorem bc_snoc (T : List UInt8) (c : UInt8) : Lib.byteCells (T ++ [c]) = Lib.byteCells T ++ [.int .u8 (c.toNat : Int)] := by simp [Lib.byteCells]
theorem bc_app (T U : List UInt8) : Lib.byteCells (T ++ U) = Lib.byteCells T ++ Lib.byteCells U := by simp [Lib.byteCells]
/-- The printer at q. -/
structure PrV (w0 w : World) (q : Nat) (dv pv bv ov : Value) (T : List UInt8) (os : List Op) : Prop where
  far : MM.Far [] w0 w
  qb : w0.heap.size ≤ q
  head : MM.Row w q 61 [dv, pv, bv, ov]
  pn : pv = .pointer none ∨ pv = .pointer (some ⟨q, 1, none⟩)
  buf : w.ownsRow w0.heap.size 5 1 bv T.length (Lib.byteCells T)
  op : w.ownsRow w0.heap.size 98 2 ov os.length (oC os.reverse)
def Pr (w0 w : World) (q : Nat) (dv : Value) (T : List UInt8) (os : List Op) : Prop := ∃ pv bv ov, PrV w0 w q dv pv bv ov T os
/-- The boxes of data round about are kept. -/
structure KeepN (w w' : World) : Prop where
  size : w.heap.size ≤ w'.heap.size
  node : ∀ b l, MM.Row w b 81 l → MM.Row w' b 81 l
theorem KeepN.refl (w : World) : KeepN w w := ⟨Nat.le_refl _, fun _ _ h => h⟩
theorem KeepN.trans {w w1 w2 : World} (h : KeepN w w1) (k : KeepN w1 w2) : KeepN w w2 := ⟨Nat.le_trans h.size k.size, fun b l r => k.node b l (h.node b l r)⟩
theorem KeepN.far {S : List Nat} {w w' : World} (f : MM.Far S w w') (hS : ∀ b ∈ S, ∃ t l, MM.Row w b t l ∧ t ≠ 81) : KeepN w w' :=
  ⟨f.size, fun b l r => r.far f (fun hm => by
    obtain ⟨t, l2, r2, h1⟩ := hS b hm
    exact r2.ne r h1 rfl)⟩
theorem KeepN.of_far {w w' : World} (f : MM.Far [] w w') : KeepN w w' := KeepN.far f (by simp)
section
variable {w0 w w1 : World} {q : Nat} {dv pv bv ov : Value} {T : List UInt8} {os : List Op}
theorem PrV.to (h : PrV w0 w q dv pv bv ov T os) (f : MM.Far [] w w1) : PrV w0 w1 q dv pv bv ov T os :=
  ⟨h.far.trans f (by simp), h.qb, h.head.far f (by simp), h.pn, MM.own_far h.buf f (by simp), MM.own_far h.op f (by simp)⟩
theorem PrV.qn (h : PrV w0 w q dv pv bv ov T os) : ∀ b, b ∈ [q] → b < w0.heap.size → b ∈ ([] : List Nat) := by
  intro b hb hl
  have e : b = q := by simpa using hb
  have := h.qb
  omega
theorem off_q {l : List Value} {e : TypeId} {base size n : Nat} {v : Value} {xs : List Value} (hH : MM.Row w1 q 61 l) (ho : w1.ownsRow base e size v n xs) (ht : e ≠ 61) : ∀ b, v.ownBlock = some b → b ∉ [q] := by
  intro b hb hm
  have : b = q := by simpa using hm
  subst this
  exact MM.own_row_ne ho hH ht hb
/-- The builder knows where it is. -/
theorem PrV.used (h : PrV w0 w q dv pv bv ov T os) : PrV w0 (w.setCell ⟨q, 1, none⟩ (.pointer (some ⟨q, 1, none⟩))) q dv (.pointer (some ⟨q, 1, none⟩)) bv ov T os := by
  have g := one_far w q 1 (.pointer (some ⟨q, 1, none⟩))
  exact ⟨h.far.trans g h.qn, h.qb, h.head.put 1 _, .inr rfl, MM.own_far h.buf g (off_q h.head h.buf (by decide)), MM.own_far h.op g (off_q h.head h.op (by decide))⟩
theorem keep_q {l : List Value} (h : MM.Row w q 61 l) (i : Nat) (u : Value) : KeepN w (w.setCell ⟨q, i, none⟩ u) := by
  refine KeepN.far (one_far w q i u) (fun b hb => ?_)
  have e : b = q := by simpa using hb
  rw [e]
  exact ⟨_, _, h, by decide⟩
/-- More text. -/
theorem PrV.text {bv' : Value} {T' : List UInt8} (h : PrV w0 w q dv pv bv ov T os) (hr : w1.ownsRow w0.heap.size 5 1 bv' T'.length (Lib.byteCells T')) (f : MM.Far bv.ownBlock.toList w w1) :
    PrV w0 (w1.setCell ⟨q, 2, none⟩ bv') q dv pv bv' ov T' os ∧ MM.Row w1 q 61 [dv, pv, bv, ov] ∧ KeepN w (w1.setCell ⟨q, 2, none⟩ bv') := by
  have hlow := fun b (hb : b ∈ bv.ownBlock.toList) => (MM.own_lt h.buf b (by simpa using hb)).2
  have hH : MM.Row w1 q 61 [dv, pv, bv, ov] := h.head.far f (fun hm => MM.own_row_ne h.buf h.head (by decide) (by simpa using hm))
  have hO := MM.own_far h.op f (own_off h.op h.buf (by decide))
  have g := one_far w1 q 2 bv'
  refine ⟨⟨(h.far.trans f (fun b hb hl => by have := hlow b hb; omega)).trans g h.qn, h.qb, hH.put 2 bv', h.pn, MM.own_far hr g (off_q hH hr (by decide)), MM.own_far hO g (off_q hH hO (by decide))⟩, hH, ?_⟩
  refine (KeepN.far f (fun b hb => ?_)).trans (keep_q hH 2 bv')
  obtain ⟨l, r⟩ := own_row h.buf b (by simpa using hb)
  exact ⟨_, l, r, by decide⟩
/-- One more list that is open. -/
theorem PrV.push {ov' : Value} {x : Op} (h : PrV w0 w q dv pv bv ov T os) (hr : w1.ownsRow w0.heap.size 98 2 ov' (os.length + 1) (oC os.reverse ++ [.slice x.A x.l.length x.c, .int .i64 (x.k : Int)])) (f : MM.Far ov.ownBlock.toList w w1) :
    PrV w0 (w1.setCell ⟨q, 3, none⟩ ov') q dv pv bv ov' T (x :: os) ∧ MM.Row w1 q 61 [dv, pv, bv, ov] := by
  have hlow := fun b (hb : b ∈ ov.ownBlock.toList) => (MM.own_lt h.op b (by simpa using hb)).2
  have hH : MM.Row w1 q 61 [dv, pv, bv, ov] := h.head.far f (fun hm => MM.own_row_ne h.op h.head (by decide) (by simpa using hm))
  have hB := MM.own_far h.buf f (own_off h.buf h.op (by decide))
  have g := one_far w1 q 3 ov'
  refine ⟨⟨(h.far.trans f (fun b hb hl => by have := hlow b hb; omega)).trans g h.qn, h.qb, hH.put 3 ov', h.pn, MM.own_far hB g (off_q hH hB (by decide)), ?_⟩, hH⟩
  rw [List.length_cons, List.reverse_cons, oC_snoc]
  exact MM.own_far hr g (off_q hH hr (by decide))
end
section
variable {w0 w : World} {q : Nat} {dv pv bv ov : Value} {T : List UInt8} {x : Op} {os1 : List Op}
/-- What was opened last, in memory. -/
theorem op_at (h : PrV w0 w q dv pv bv ov T (x :: os1)) : ∃ og oc, ov = .slice (some ⟨og, 0, none⟩) (os1.length + 1) oc ∧ os1.length + 1 ≤ oc ∧ oc ≤ maxLen ∧
    w.cell? ⟨og, os1.length * 2, none⟩ = some (.slice x.A x.l.length x.c) ∧ w.cell? ⟨og, os1.length * 2 + 1, none⟩ = some (.int .i64 (x.k : Int)) ∧ (∀ i, w.frozen? ⟨og, i, none⟩ = false) ∧ og < w.heap.size := by
  have ho := h.op
  obtain ⟨A, c, e, _, hc1, hc2, _, hh⟩ := MO.form ho
  have hlt := fun b (hb : ov.ownBlock = some b) => MM.own_lt ho b hb
  rcases hh with ⟨_, hz, _⟩ | ⟨og, rfl, _, _⟩
  · simp at hz
  subst e
  have hcells := fun j u (hu : (oC (x :: os1).reverse)[j]? = some u) => @World.ownsRow.cells w _ _ _ _ _ _ ho og rfl j u hu
  have hadd : ∀ j, (⟨og, 0, none⟩ : Addr).add j = ⟨og, j, none⟩ := by intro j; unfold Addr.add; split <;> simp_all
  have hget : ∀ j u, ([.slice x.A x.l.length x.c, .int .i64 (x.k : Int)] : List Value)[j]? = some u → (oC (x :: os1).reverse)[os1.length * 2 + j]? = some u := by
    intro j u hu
    rw [List.reverse_cons, oC_snoc, List.getElem?_append_right (by rw [oC_len, List.length_reverse]; omega), oC_len, List.length_reverse, show os1.length * 2 + j - os1.length * 2 = j by omega]
    exact hu
  have at_ := fun j u hu => (hadd (os1.length * 2 + j)) ▸ hcells _ u (hget j u hu)
  refine ⟨og, c, rfl, hc1, hc2, at_ 0 _ rfl, at_ 1 _ rfl, ?_, (hlt og rfl).1⟩
  intro i
  rcases ho.2 with ⟨hz, _⟩ | ⟨g, cap, cur, hz, _, hg, _⟩
  · cases hz
  · injection hz with hz
    injection hz with hz
    injection hz with hz
    subst hz
    simp [World.frozen?, hg]
/-- What was opened last is no more. -/
theorem PrV.pop {og oc : Nat} {w1 : World} (h : PrV w0 w q dv pv bv (.slice (some ⟨og, 0, none⟩) (os1.length + 1) oc) T (x :: os1)) (f : MM.Far [] w w1) :
    PrV w0 (w1.setCell ⟨q, 3, none⟩ (.slice (some ⟨og, 0, none⟩) os1.length oc)) q dv pv bv (.slice (some ⟨og, 0, none⟩) os1.length oc) T os1 := by
  have k := h.to f
  have hf := own_front (n := os1.length + 1) k.op os1.length (by omega)
  rw [List.reverse_cons, oC_snoc, List.take_append_of_le_length (by rw [oC_len, List.length_reverse]; omega), List.take_of_length_le (by rw [oC_len, List.length_reverse]; omega)] at hf
  have g := one_far w1 q 3 (.slice (some ⟨og, 0, none⟩) os1.length oc)
  exact ⟨k.far.trans g k.qn, k.qb, k.head.put 3 _, k.pn, MM.own_far k.buf g (off_q k.head k.buf (by decide)), MM.own_far hf g (off_q k.head hf (by decide))⟩
/-- One element more is printed of it. -/
theorem PrV.next {og oc : Nat} (h : PrV w0 w q dv pv bv (.slice (some ⟨og, 0, none⟩) (os1.length + 1) oc) T (x :: os1)) (k : Nat) :
    PrV w0 (w.setCell ⟨og, os1.length * 2 + 1, none⟩ (.int .i64 (k : Int))) q dv pv bv (.slice (some ⟨og, 0, none⟩) (os1.length + 1) oc) T (⟨x.l, k, x.A, x.c⟩ :: os1) := by
  have g := one_far w og (os1.length * 2 + 1) (.int .i64 (k : Int))
  have hog := MM.own_lt h.op og rfl
  have ho := h.op
  refine ⟨h.far.trans g (fun b hb hl => by
    have e : b = og := by simpa using hb
    omega), h.qb, ?_, h.pn, ?_, ?_⟩
  · refine h.head.far g (fun hm => ?_)
    have e : q = og := by simpa using hm
    exact MM.own_row_ne ho h.head (by decide) (by rw [e]; rfl)
  · refine MM.own_far h.buf g (fun b hb hm => ?_)
    have e : b = og := by simpa using hm
    exact MM.own_own_ne h.buf ho (by decide) b hb (by rw [e]; rfl)
  · have hst := (ho.stored (os1.length * 2 + 1) (.int .i64 (k : Int))).1
    have e : (oC (x :: os1).reverse).set (os1.length * 2 + 1) (.int .i64 (k : Int)) = oC ((⟨x.l, k, x.A, x.c⟩ : Op) :: os1).reverse := by
      rw [List.reverse_cons, List.reverse_cons, oC_snoc, oC_snoc, List.set_append_right _ _ (by rw [oC_len, List.length_reverse]; omega), oC_len, List.length_reverse]
      congr 1
      rw [show os1.length * 2 + 1 - os1.length * 2 = 1 by omega]
      rfl
    rw [← e]
    exact hst
end
theorem opens_slice : Tryz.prog.underlying 59 = some (.slice 98) := by kernel_rfl
theorem open_info : (Tryz.prog.info? 98).map (fun i => (i.zero, i.size, i.bytes)) = some (some (.agg #[.slice none 0 0, .int .i64 0]), 2, 32) := by kernel_rfl
theorem op_one (A : Option Addr) (n c : Nat) (k : Int) : ∀ u ∈ [Value.slice A n c, .int .i64 k], u.oneCell' = true := by
  intro u hu
  simp only [List.mem_cons, List.not_mem_nil, or_false] at hu
  rcases hu with rfl | rfl <;> rfl
theorem bys_slice : Tryz.prog.underlying 56 = some (.slice 5) := by kernel_rfl
theorem byte_info : (Tryz.prog.info? 5).map (fun i => (i.zero, i.size, i.bytes)) = some (some (.int .u8 0), 1, 1) := by kernel_rfl
theorem builder_size : (Tryz.prog.info? 58).map (·.size) = some 2 := by kernel_rfl
theorem shape_of {w : World} {q : Nat} {t : TypeId} {l : List Value} (h : MM.Row w q t l) : w.shape? q = some (t, l.length) := by
  unfold MM.Row at h
  simp [World.shape?, h]
theorem lies_builder : liesAt Tryz.prog Tryz.prog.depth 61 (4 / Tryz.prog.cellsOf 61) 1 58 1 = true := by kernel_rfl
section
variable {w0 w : World} {q : Nat} {dv pv bv ov : Value} {T : List UInt8} {os : List Op}
set_option maxHeartbeats 1000000 in
set_option maxRecDepth 100000 in
theorem check_any (h : PrV w0 w q dv pv bv ov T os) : Calls Tryz.prog 43 #[.pointer (some ⟨q, 1, none⟩)] w fun e w' => e = .returned (.tuple #[]) ∧ PrV w0 w' q dv (.pointer (some ⟨q, 1, none⟩)) bv ov T os ∧ KeepN w w' := by
  obtain ⟨j, hj, hjs⟩ := Option.map_eq_some_iff.1 builder_size
  have c1 := h.head.at (i := 1) rfl
  have f1 := h.head.frozen 1
  have hsh := shape_of h.head
  have HU := Lib.hid h.used
  have HK := Lib.hid (keep_q h.head 1 (.pointer (some ⟨q, 1, none⟩)))
  have HP := Lib.hid h
  have hpn := h.pn
  clear h
  rcases hpn with rfl | rfl
  · go_enter Tryz.func43, Tryz.ntmps43
    go_wp2
    rw [Lib.run_to_unsafe w ⟨q, 1, none⟩ Tryz.underlying55 Tryz.underlying128 hj (by rw [hjs]; decide) hsh (by simp)]
    simp only [Result.andThen]
    rw [Oper.upon_value]
    go_wp2
    rw [run_callFunc_extern Tryz.func76 (by kernel_rfl) (by kernel_rfl) (by kernel_rfl) (e := Extern.AbiNoEscape.same) (by kernel_rfl)]
    rw [Lib.run_noEscape]
    simp only [Result.andThen]
    rw [Oper.upon_value]
    go_wp2
    rw [Lib.run_from_unsafe w ⟨q, 1, none⟩ Tryz.underlying128 Tryz.underlying55 hj hsh lies_builder]
    simp only [Result.andThen]
    rw [Oper.upon_value]
    go_wp2
    go_end0
    exact ⟨rfl, HU.out, HK.out⟩
  · have hne := fun (W : World) => Lib.run_neq_ptr_same (P := Tryz.prog) W ⟨q, 1, none⟩ Tryz.underlying55 hj
    go_enter Tryz.func43, Tryz.ntmps43
    go_wp2
    go_end0
    exact ⟨rfl, HP.out, KeepN.refl _⟩
set_option maxHeartbeats 1000000 in
set_option maxRecDepth 100000 in
theorem wbyte_any (h : PrV w0 w q dv pv bv ov T os) (c : UInt8) (n : Int) (hn : n = (c.toNat : Int)) (hT : T.length ≤ 70368744177664) :
    Calls Tryz.prog 30 #[.pointer (some ⟨q, 1, none⟩), .int .u8 n] w fun e w' => e = .returned .nilIface ∧ KeepN w w' ∧ ∃ bv', PrV w0 w' q dv (.pointer (some ⟨q, 1, none⟩)) bv' ov (T ++ [c]) os := by
  subst hn
  have HC := Lib.hid (check_any h)
  clear h
  go_enter Tryz.func30, Tryz.ntmps30
  go_wp2_with (go_at_call 43; refine HC.out.mono ?_)
  rintro e w1 ⟨rfl, h1, hk1⟩
  have HP := Lib.hid h1
  have HK := Lib.hid hk1
  have c2 := h1.head.at (i := 2) rfl
  have hb := h1.far.size
  clear h1 hk1
  go_wp2_with (at_builtin; refine MO.wpList_append _ rfl (.tmp 11) (.tmp 13) 56 rfl w0.heap.size 5 (.int .u8 0) 1 1 bys_slice byte_info rfl (by omega) bv T.length (Lib.byteCells T) rfl (HP.out.buf.alloc _) (some ⟨w1.heap.size, 0, none⟩) 1 1 [.int .u8 (c.toNat : Int)] rfl rfl (fun h => by cases h) [] (MM.Src.row (MM.Row.new w1 5 [.int .u8 (c.toNat : Int)]) (by simp) _ (fun j u hu => hu)) (by intro u hu; rw [List.mem_singleton] at hu; subst hu; rfl) (by simp only [maxLen]; omega) (by omega) (by simp; omega) ?_)
  intro v' w2 hv hg hat
  have f2 : MM.Far bv.ownBlock.toList w1 w2 := far_app0 hg
  rw [← bc_snoc, show T.length + 1 = (T ++ [c]).length by simp] at hv
  obtain ⟨hN, hH, hK⟩ := HP.out.text hv f2
  have d2 := hH.at (i := 2) rfl
  have f2' := hH.frozen 2
  obtain ⟨A2, n2, rfl⟩ := form_ w0 hv
  have HN := Lib.hid hN
  have HK2 := Lib.hid (HK.out.trans hK)
  rw [show (T ++ [c]).length = T.length + 1 by simp] at HN HK2
  clear hv hg hat f2 hN hH hK
  go_wp2
  go_ret
  exact ⟨rfl, HK2.out, _, HN.out⟩
set_option maxHeartbeats 1000000 in
set_option maxRecDepth 100000 in
theorem wstr_any (h : PrV w0 w q dv pv bv ov T os) (s : ByteArray) (hT : T.length ≤ 70368744177664) (hs : s.size ≤ 70368744177664) :
    Calls Tryz.prog 31 #[.pointer (some ⟨q, 1, none⟩), .string s] w fun e w' => (∃ x, e = .returned x) ∧ KeepN w w' ∧ ∃ bv', PrV w0 w' q dv (.pointer (some ⟨q, 1, none⟩)) bv' ov (T ++ LX.bts s) os := by
  have HC := Lib.hid (check_any h)
  clear h
  obtain ⟨i0, hi, hz0, hz1, hz2⟩ := info_parts byte_info
  go_enter Tryz.func31, Tryz.ntmps31
  go_wp2_with (go_at_call 43; refine HC.out.mono ?_)
  rintro e w1 ⟨rfl, h1, hk1⟩
  have HP := Lib.hid h1
  have HK := Lib.hid hk1
  have c2 := h1.head.at (i := 2) rfl
  have hb := h1.far.size
  clear h1 hk1
  go_wp2_with (at_builtin; refine Lib.wpList_append_own_string _ rfl _ _ 56 9 rfl w0.heap.size 5 i0 bys_slice Tryz.underlying9 hi hz0 hz1 hz2 _ _ _ rfl HP.out.buf s rfl ?c3 ?c4 ?c5 ?_)
  case c3 => unfold maxLen; omega
  case c4 => omega
  case c5 => omega
  intro v' w2 hv hg hat
  have f2 : MM.Far bv.ownBlock.toList w1 w2 := MM.Far.of_grown (S := bv.ownBlock.toList) hg (fun b hb _ => by simp [hb])
  have hvs : w2.ownsRow w0.heap.size 5 1 v' (T ++ LX.bts s).length (Lib.byteCells (T ++ LX.bts s)) := by
    rw [bc_app, List.length_append, show (LX.bts s).length = s.size by unfold LX.bts; rw [Array.length_toList]; rfl]
    exact hv
  obtain ⟨hN, hH, hK⟩ := HP.out.text hvs f2
  have d2 := hH.at (i := 2) rfl
  have f2' := hH.frozen 2
  obtain ⟨A2, n2, rfl⟩ := form_ w0 hvs
  have HN := Lib.hid hN
  have HK2 := Lib.hid (HK.out.trans hK)
  rw [List.length_append] at HN HK2
  clear hv hg hat f2 hN hH hK hvs
  go_wp2
  go_ret2
  exact ⟨⟨_, rfl⟩, HK2.out, _, HN.out⟩
end
end SW
end Go.Proofs.YtpbfgfadickgbaaGreatDoor
