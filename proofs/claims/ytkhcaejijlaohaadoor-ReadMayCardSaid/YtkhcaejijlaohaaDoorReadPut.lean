/-
  Contracts of the document's reader: put, close. Conditions: there are no more than 20000 data.
-/
import Derived.Test.YtkhcaejijlaohaaDoorReadMem
import Derived.Deep.RegionLaw
import Derived.Deep.RegionHeld3
import Derived.Deep.DeepCutAuto
namespace Go.Proofs.YtkhcaejijlaohaaDoor
open Go.RowKit
namespace RM6
open LX RX RW6
theorem nodes_slice : Tryd.prog.underlying 23 = some (.slice 34) := by kernel_rfl
theorem node_info : (Tryd.prog.info? 34).map (fun i => (i.zero, i.size, i.bytes)) = some (some (.agg #[.int .u8 0, .int .i64 0, .int .i64 0, .string ⟨#[]⟩, .slice none 0 0]), 5, 64) := by kernel_rfl
theorem ints_slice : Tryd.prog.underlying 24 = some (.slice 3) := by kernel_rfl
theorem int_info : (Tryd.prog.info? 3).map (fun i => (i.zero, i.size, i.bytes)) = some (some (.int .i64 0), 1, 8) := by kernel_rfl
theorem parts_slice : Tryd.prog.underlying 53 = some (.slice 57) := by kernel_rfl
theorem part_info : (Tryd.prog.info? 57).map (fun i => (i.zero, i.size, i.bytes)) = some (some (.agg #[.int .i64 0, .bool false, .slice none 0 0]), 3, 40) := by kernel_rfl
/-- What a row of data, and what is open, come to. -/
def PutP (w0 : World) (q : Nat) (R : Rd) (ex : List (Value × List Nat)) (e : Ending) (w' : World) : Prop :=
  e = .returned (.tuple #[]) ∧ ∃ rv tv ov rs os, Rdr w0 w' q rv tv ov rs R.tops os ex ∧ rs.map (·.1) = R.row ∧ os.map (·.1) = R.op
/-- Lists are no longer than the row. -/
def Fit (R : Rd) : Prop := (∀ p ∈ R.op, p.l.length ≤ R.row.length) ∧ R.tops.length ≤ R.row.length
theorem form_ (w0 : World) {w : World} {e : TypeId} {size n : Nat} {v : Value} {xs : List Value} (h : w.ownsRow w0.heap.size e size v n xs) : ∃ A c, v = .slice A n c := by
  obtain ⟨A, c, e, _⟩ := MO.form h
  exact ⟨A, c, e⟩
theorem nd_one (x : Nd) (A : Option Addr) (c : Nat) : ∀ u ∈ [Value.int .u8 x.kind, .int .i64 x.at_, .int .i64 x.n, .string x.s, .slice A x.l.length c], u.oneCell' = true := by
  intro u hu
  simp only [List.mem_cons, List.not_mem_nil, or_false] at hu
  rcases hu with rfl | rfl | rfl | rfl | rfl <;> rfl
theorem far_app {W w2 : World} {o : Obj} {b : Option Nat} (h : (W.alloc o).drew.grownBy w2 b) : MM.Far b.toList W w2 :=
  ((MM.Far.refl b.toList W).alloc o).trans (MM.Far.of_grown (S := b.toList) (a := W.alloc o) ⟨h.os, h.tape, h.output, h.size, h.block⟩ (by intro k hk _; simp [hk])) (fun k hk _ => hk)
theorem far_app0 {W w2 : World} {o : Obj} {b : Option Nat} (h : (W.alloc o).grownBy w2 b) : MM.Far b.toList W w2 :=
  ((MM.Far.refl b.toList W).alloc o).trans (MM.Far.of_grown (S := b.toList) (a := W.alloc o) h (by intro k hk _; simp [hk])) (fun k hk _ => hk)
theorem far_grown_ {W a w2 : World} {b : Option Nat} (f : MM.Far [] W a) (h : a.grownBy w2 b) : MM.Far b.toList W w2 :=
  (f.mono (S' := b.toList) (by simp)).trans (MM.Far.of_grown (S := b.toList) h (by intro k hk _; simp [hk])) (fun k hk _ => hk)
theorem one_int (i : Int) : ∀ u ∈ [Value.int .i64 i], u.oneCell' = true := by
  intro u hu
  rw [List.mem_singleton] at hu
  subst hu
  rfl
/-- A place more in a row of places of the call's own. -/
theorem kin_push {ops : Array Oper} {rest : List Oper} {o : Oper} {a : Act} {Q : Exit → Act → World → Prop} {base : Nat} {w : World} {v : Value} {l : List Nat} {n : Nat}
    (hO : w.ownsRow base 3 1 v l.length (ints l)) (hb : base ≤ w.heap.size) (hl : l.length ≤ 100000) (hgd : o.guard = none) (s x : Operand)
    (ho : o.op = .call { callee := .builtin .append, args := #[s, x], argTypes := #[24, 24] })
    (hs : a.eval s = v) (hx : a.eval x = .slice (some ⟨w.heap.size, 0, none⟩) 1 1)
    (h : ∀ A c w', w'.ownsRow base 3 1 (.slice A (l.length + 1) c) (l.length + 1) (ints l ++ [.int .i64 ((n : Nat) : Int)]) → MM.Far v.ownBlock.toList w w' →
      ((Value.slice A (l.length + 1) c).ownBlock = v.ownBlock ∨ ∃ b, (Value.slice A (l.length + 1) c).ownBlock = some b ∧ w.heap.size ≤ b) → wpList Tryd.prog ops Q rest (a.put o.dst (.slice A (l.length + 1) c)) w') :
    wpList Tryd.prog ops Q (o :: rest) a (w.alloc (.cells #[.int .i64 ((n : Nat) : Int)] 3)) := by
  have hF : MM.Far [] w (w.alloc (.cells #[.int .i64 ((n : Nat) : Int)] 3)) := (MM.Far.refl [] w).alloc _
  refine MO.wpList_append _ hgd s x 24 ho base 3 (.int .i64 0) 1 8 ints_slice int_info rfl (by omega) v l.length (ints l) hs (hO.alloc _) (some ⟨w.heap.size, 0, none⟩) 1 1 [.int .i64 ((n : Nat) : Int)] hx rfl (fun h => by cases h) [] ?_ ?_ ?_ ?_ (by have := hF.size; omega) ?_
  · exact MM.Src.row (MM.Row.new w 3 [.int .i64 ((n : Nat) : Int)]) (by simp) _ (fun j u hu => hu)
  · intro u hu
    rw [List.mem_singleton] at hu
    subst hu
    rfl
  · simp only [maxLen]; omega
  · omega
  · intro v' w' hv hg hat
    obtain ⟨A, c, rfl, _⟩ := MO.form hv
    refine h A c w' hv (far_app0 hg) ?_
    rcases hat with e | e
    · exact .inl e
    · exact .inr ⟨_, e, by have := hF.size; omega⟩
section
variable {w0 w : World} {q : Nat} {rv tv ov : Value} {rs : List (Nd × Value)} {tops : List Nat} {os : List (Pt × Value)} {ex : List (Value × List Nat)}
theorem open_at {p : Pt} {hp : Value} {os1 : List (Pt × Value)} (h : Rdr w0 w q rv tv ov rs tops ((p, hp) :: os1) ex) : ∃ og oc, ov = .slice (some ⟨og, 0, none⟩) (os1.length + 1) oc ∧
    w.cell? ⟨og, os1.length * 3, none⟩ = some (.int .i64 p.at_) ∧ w.cell? ⟨og, os1.length * 3 + 1, none⟩ = some (.bool p.q) ∧ w.cell? ⟨og, os1.length * 3 + 2, none⟩ = some hp ∧ (∀ i, w.frozen? ⟨og, i, none⟩ = false) ∧ og < w.heap.size ∧ w0.heap.size ≤ og := by
  have ho := h.op
  obtain ⟨A, c, e, _, _, _, _, hh⟩ := MO.form ho
  have hlt := fun b (hb : ov.ownBlock = some b) => MM.own_lt ho b hb
  rcases hh with ⟨_, hz, _⟩ | ⟨og, rfl, _, _⟩
  · simp at hz
  subst e
  have hcells := fun j u (hu : (ptC ((p, hp) :: os1).reverse)[j]? = some u) => @World.ownsRow.cells w _ _ _ _ _ _ ho og rfl j u hu
  have hadd : ∀ j, (⟨og, 0, none⟩ : Addr).add j = ⟨og, j, none⟩ := by intro j; unfold Addr.add; split <;> simp_all
  have hget : ∀ j u, ([.int .i64 p.at_, .bool p.q, hp] : List Value)[j]? = some u → (ptC ((p, hp) :: os1).reverse)[os1.length * 3 + j]? = some u := by
    intro j u hu
    rw [List.reverse_cons, ptC_snoc, List.getElem?_append_right (by rw [ptC_len, List.length_reverse]; omega), ptC_len, List.length_reverse, show os1.length * 3 + j - os1.length * 3 = j by omega]
    exact hu
  have at_ := fun j u hu => (hadd (os1.length * 3 + j)) ▸ hcells _ u (hget j u hu)
  refine ⟨og, c, rfl, at_ 0 _ rfl, at_ 1 _ rfl, at_ 2 _ rfl, ?_, (hlt og rfl).1, (hlt og rfl).2⟩
  intro i
  rcases ho.2 with ⟨hz, _⟩ | ⟨g, cap, cur, hz, _, hg, _⟩
  · cases hz
  · injection hz with hz
    injection hz with hz
    injection hz with hz
    subst hz
    simp [World.frozen?, hg]
theorem end_none {x : Nd} {hx : Value} (h : Rdr w0 w q rv tv ov (rs ++ [(x, hx)]) (tops ++ [rs.length]) [] ex) : PutP w0 q (putO [] (rs.map (·.1)) tops x) ex (.returned (.tuple #[])) w := by
  refine ⟨rfl, rv, tv, ov, rs ++ [(x, hx)], [], ?_, by simp [putO], rfl⟩
  show Rdr w0 w q rv tv ov _ (tops ++ [(rs.map (·.1)).length]) [] ex
  rw [List.length_map]
  exact h
theorem end_some {x : Nd} {hx hp hp0 : Value} {p : Pt} {os1 : List (Pt × Value)} (hq : ¬ (p.q = true ∧ p.l.length + 1 = 2)) (h : Rdr w0 w q rv tv ov (rs ++ [(x, hx)]) tops ((⟨p.at_, p.q, p.l ++ [rs.length]⟩, hp) :: os1) ex) :
    PutP w0 q (putO (((p, hp0) :: os1).map (·.1)) (rs.map (·.1)) tops x) ex (.returned (.tuple #[])) w := by
  rw [List.map_cons]
  unfold putO
  rw [if_neg hq]
  exact ⟨rfl, rv, tv, ov, _, _, h, by simp, by simp⟩
theorem end_eq {x : Nd} (hx : Value) {hp0 : Value} {p : Pt} {os1 : List (Pt × Value)} (hq : p.q = true ∧ p.l.length + 1 = 2) :
    putO (((p, hp0) :: os1).map (·.1)) (rs.map (·.1)) tops x = putO (os1.map (·.1)) ((rs ++ [(x, hx)]).map (·.1)) tops ⟨4, p.at_, 0, emp, p.l ++ [rs.length]⟩ := by
  rw [List.map_cons]
  conv => lhs; unfold putO
  rw [if_pos hq]
  simp
theorem put_head (h : Rdr w0 w q rv tv ov rs tops os ex) : ∃ oA oc, ov = .slice oA os.length oc := form_ w0 h.op
/-- Behind the first append. -/
def Cut1 (w0 : World) (q : Nat) (tv ov : Value) (rs : List (Nd × Value)) (x : Nd) (hx : Value) (tops : List Nat) (os : List (Pt × Value)) (ex : List (Value × List Nat)) (wx : World) : Prop :=
  ∃ A2 c2, Rdr w0 wx q (.slice A2 (rs.length + 1) c2) tv ov (rs ++ [(x, hx)]) tops os ex
/-- Behind the second. -/
def Cut2 (w0 : World) (q : Nat) (rv tv ov : Value) (rs : List (Nd × Value)) (tops : List Nat) (p : Pt) (n : Nat) (os : List (Pt × Value)) (ex : List (Value × List Nat)) (wx : World) : Prop :=
  ∃ A5 c5, Rdr w0 wx q rv tv ov rs tops ((⟨p.at_, p.q, p.l ++ [n]⟩, .slice A5 (p.l.length + 1) c5) :: os) ex
set_option maxRecDepth 20000 in
set_option maxHeartbeats 4000000 in
theorem put_of (x : Nd) (A : Option Addr) (c : Nat) (h : Rdr w0 w q rv tv ov rs tops os ((.slice A x.l.length c, x.l) :: ex)) (hn : rs.length + os.length ≤ 20000) (ht : tops.length ≤ 20000)
    (hl : ∀ p ∈ os, p.1.l.length ≤ 20000)
    (HC : Hid (∀ w1 rv1 rs1 p hp os1, os.length = os1.length + 1 → rs1.length = rs.length + 1 → (∀ z ∈ os1, z.1.l.length ≤ 20000) → Rdr w0 w1 q rv1 tv ov rs1 tops ((p, hp) :: os1) ex →
      Calls Tryd.prog 37 #[.pointer (some ⟨q, 0, none⟩)] w1 (PutP w0 q (putO (os1.map (·.1)) (rs1.map (·.1)) tops ⟨4, p.at_, 0, emp, p.l⟩) ex))) :
    Calls Tryd.prog 36 #[.pointer (some ⟨q, 0, none⟩), .agg #[.int .u8 x.kind, .int .i64 x.at_, .int .i64 x.n, .string x.s, .slice A x.l.length c]] w
      (PutP w0 q (putO (os.map (·.1)) (rs.map (·.1)) tops x) ex) := by
  obtain ⟨oA, oc, rfl⟩ := put_head h
  have hB := MM.Row.new w 34 [.int .u8 x.kind, .int .i64 x.at_, .int .i64 x.n, .string x.s, .slice A x.l.length c]
  have hR := h.to ((MM.Far.refl [] w).alloc (.cells #[.int .u8 x.kind, .int .i64 x.at_, .int .i64 x.n, .string x.s, .slice A x.l.length c] 34))
  have z0 := hB.at (i := 0) rfl
  have z1 := hB.at (i := 1) rfl
  have z2 := hB.at (i := 2) rfl
  have z3 := hB.at (i := 3) rfl
  have z4 := hB.at (i := 4) rfl
  have c0 := hR.head.at (i := 0) rfl
  have f0 := hR.head.frozen 0
  have HR := Lib.hid hR
  clear hB hR h
  have hbW := HR.out.far.size
  go_enter Tryd.func36, Tryd.ntmps36
  go_wp2
  generalize hWE : w.alloc (.cells #[.int .u8 x.kind, .int .i64 x.at_, .int .i64 x.n, .string x.s, .slice A x.l.length c] 34) = W at *
  have c0a := (HR.out.to ((MM.Far.refl [] W).alloc (.cells #[.int .u8 x.kind, .int .i64 x.at_, .int .i64 x.n, .string x.s, .slice A x.l.length c] 34))).head.at (i := 0) rfl
  go_cut [] (fun wx => Cut1 w0 q tv (.slice oA os.length oc) rs x (.slice A x.l.length c) tops os ex wx)
  case first =>
    go_region_law (
      refine MO.step_append ?_ (.tmp 10) (.tmp 12) 23 ?_ w0.heap.size 34 _ 5 64 nodes_slice node_info rfl (by omega) rv rs.length (ndC rs) ?_ ?_ (some ⟨W.heap.size, 0, none⟩) 1 1 [.int .u8 x.kind, .int .i64 x.at_, .int .i64 x.n, .string x.s, .slice A x.l.length c] ?_ rfl (fun h => by cases h) [] ?_ (nd_one x A c) ?_ ?_ ?_ ?_
      · rfl
      · rfl
      · rfl
      · exact HR.out.row.alloc _
      · rfl
      · exact (MM.Src.row (MM.Row.new W 34 [.int .u8 x.kind, .int .i64 x.at_, .int .i64 x.n, .string x.s, .slice A x.l.length c]) (by simp) _ (fun j u hu => hu))
      · simp only [maxLen]; omega
      · omega
      · simp; omega
      intro v2 w2 hv2 hg2 hat2
      obtain ⟨A2, c2, rfl⟩ := form_ w0 hv2
      have F2 : MM.Far rv.ownBlock.toList W w2 := far_app hg2
      have HH2 : Hid (MM.Row w2 q 55 _) := Lib.hid (HR.out.head.far F2 (fun hm => MM.own_row_ne HR.out.row HR.out.head (by decide) (by simpa using hm)))
      have d2W := HH2.out.at (i := 0) rfl
      have e2W := HH2.out.frozen 0
      have HN := Lib.hid (HR.out.node (w1 := w2) x (.slice A x.l.length c) hv2 F2)
      clear hg2 hv2 hat2)
    all_goals
      go_wp2_with fail
      go_meet
      exact ⟨A2, c2, HN.out⟩
  case rest =>
    obtain ⟨A2, c2, hR2⟩ := hcut
    have HN := Lib.hid hR2
    clear hR2 z0 z1 z2 z3 z4 c0 f0 c0a HR hWE hbW
    have k0 := HN.out.head.at (i := 0) rfl
    have k1 := HN.out.head.at (i := 1) rfl
    have k2 := HN.out.head.at (i := 2) rfl
    have hb3 := HN.out.far.size
    have HT := Lib.hid (show wc.ownsRow w0.heap.size 3 1 tv tops.length (ints tops) from HN.out.kin.each _ (List.mem_cons_self ..))
    by_cases ho : os.length = 0
    · have d0 : decide ((os.length : Int) = 0) = true := by simp [ho]
      go_wp2_with (first
        | (at_builtin; refine kin_push HT.out hb3 (by omega) rfl (.tmp 32) (.tmp 34) rfl rfl rfl ?_; intro tA tc w4 ho4 hf4 ha4; have HH4 : Hid (MM.Row w4 q 55 _) := Lib.hid (HN.out.head.far hf4 (fun hm => MM.own_row_ne HT.out HN.out.head (by decide) (by simpa using hm))); have g1 := HH4.out.at (i := 1) rfl; have g2 := HH4.out.frozen 1; have HD := Lib.hid (HN.out.top ho4 hf4 ha4); clear ho4 hf4 ha4))
      refine bodyPost_ret (results_none rfl _ _ _) rfl ?_
      obtain rfl : os = [] := List.eq_nil_of_length_eq_zero ho
      exact end_none HD.out
    · obtain ⟨⟨p, hp⟩, os1, rfl⟩ : ∃ z os1, os = z :: os1 := by
        cases os with
        | nil => exact absurd rfl ho
        | cons z l => exact ⟨z, l, rfl⟩
      obtain ⟨og, oc2, e, cA, cQ, cL, hfz, hog, hog0⟩ := open_at HN.out
      injection e with e1 e2 e3
      subst e1 e3
      clear e2 ho
      have HP := Lib.hid (show wc.ownsRow w0.heap.size 3 1 hp p.l.length (ints p.l) from HN.out.kin.each (hp, p.l) (by simp [kinsP]))
      obtain ⟨hA, hc, rfl⟩ := form_ w0 HP.out
      have hpl : p.l.length ≤ 20000 := hl (p, .slice hA p.l.length hc) (List.mem_cons_self ..)
      have hfz2 := hfz (os1.length * 3 + 2)
      have HLS := Lib.hid (fun z hz => hl z (List.mem_cons_of_mem _ hz))
      have F3 : MM.Far [] wc (wc.alloc (.cells #[.int .i64 ((rs.length : Nat) : Int)] 3)) := (MM.Far.refl [] wc).alloc _
      have cL3 := (F3.cell (p := ⟨og, os1.length * 3 + 2, none⟩) hog (by simp)).trans cL
      have k23 := (HN.out.to F3).head.at (i := 2) rfl
      rw [List.length_cons] at k2 k23
      have d0 : decide (((os1.length : Nat) : Int) + 1 = 0) = false := by simp; omega
      have hos : os1.length < 20000 := by rw [List.length_cons] at hn; omega
      have hlt1 : (os1.length : Int) < (os1.length : Int) + 1 := by omega
      have hne := own_off HN.out.op HP.out (by decide) og rfl
      go_wp2
      go_cut [] (fun wx => Cut2 w0 q (.slice A2 (rs.length + 1) c2) tv (.slice (some ⟨og, 0, none⟩) (os1.length + 1) oc) (rs ++ [(x, .slice A x.l.length c)]) tops p rs.length os1 ex wx)
      case first =>
        go_region_law (
          refine MO.step_append ?_ (.tmp 56) (.tmp 58) 24 ?_ w0.heap.size 3 _ 1 8 ints_slice int_info rfl (by omega) (.slice hA p.l.length hc) p.l.length (ints p.l) ?_ ?_ (some ⟨wc.heap.size, 0, none⟩) 1 1 [.int .i64 ((rs.length : Nat) : Int)] ?_ rfl (fun h => by cases h) [] ?_ (one_int _) ?_ ?_ ?_ ?_
          · rfl
          · rfl
          · rfl
          · exact HP.out.alloc _
          · rfl
          · exact (MM.Src.row (MM.Row.new wc 3 [.int .i64 ((rs.length : Nat) : Int)]) (by simp) _ (fun j u hu => hu))
          · simp only [maxLen]; omega
          · omega
          · simp; omega
          intro v5 w5 hv5 hg5 hat5
          obtain ⟨A5, c5, rfl⟩ := form_ w0 hv5
          have F5 : MM.Far (Value.slice hA p.l.length hc).ownBlock.toList wc w5 := far_app0 (W := wc) (o := .cells #[.int .i64 ((rs.length : Nat) : Int)] 3) ⟨hg5.os, hg5.tape, hg5.output, hg5.size, hg5.block⟩
          have c5L := (F5.cell (p := ⟨og, os1.length * 3 + 2, none⟩) hog hne).trans cL
          have c5f := (F5.frozen (p := ⟨og, os1.length * 3 + 2, none⟩) hog hne).trans hfz2
          have HH5 : Hid (MM.Row w5 q 55 _) := Lib.hid (HN.out.head.far F5 (fun hm => MM.own_row_ne HP.out HN.out.head (by decide) (by simpa using hm)))
          have k25 := HH5.out.at (i := 2) rfl
          rw [List.length_cons] at k25
          have HM := Lib.hid (HN.out.more rfl hv5 F5 (hat5.imp id (fun e => ⟨_, e, F3.size⟩)))
          clear hg5 hat5 hv5)
        all_goals
          go_wp2_with fail
          go_meet
          exact ⟨A5, c5, HM.out⟩
      case rest =>
        obtain ⟨A5, c5, hR5⟩ := hcut
        have HM := Lib.hid hR5
        clear hR5 cA cQ cL hfz hfz2 F3 cL3 k23 hl hn ht k0 k1 k2
        obtain ⟨og6, oc6, e6, cA6, cQ6, cL6, hfz6, hog6, hog60⟩ := open_at HM.out
        injection e6 with e61 e62 e63
        injection e61 with e61
        injection e61 with e61
        subst e61 e63
        clear e62
        have k26 := HM.out.head.at (i := 2) rfl
        clear cA6 hfz6 hog60 hog6
        obtain ⟨bq, hbq⟩ : ∃ bq, p.q = bq := ⟨_, rfl⟩
        have HBQ := Lib.hid hbq
        simp only [hbq] at cQ6
        clear hbq
        have HC6 := Lib.hid cQ6
        clear cQ6
        cases bq with
        | false =>
          have cQ7 := HC6.out
          have HE := Lib.hid (end_some (hp0 := .slice hA p.l.length hc) (by rw [HBQ.out]; simp) HM.out)
          clear HM HN
          go_wp2
          refine bodyPost_ret (results_none rfl _ _ _) rfl ?_
          exact HE.out
        | true =>
          have cQ7 := HC6.out
          by_cases hl2 : p.l.length = 1
          · have d2 : decide (((p.l.length : Nat) : Int) + 1 = 2) = true := by simp; omega
            have E := end_eq (rs := rs) (tops := tops) (x := x) (.slice A x.l.length c) (hp0 := .slice hA p.l.length hc) (os1 := os1) ⟨HBQ.out, by omega⟩
            have HC2 := Lib.hid (HC.out wc _ _ _ _ os1 (List.length_cons ..) (List.length_append ..) HLS.out HM.out)
            have HE := Lib.hid E
            clear E HM HC
            go_wp2_with (first | (go_at_call 37; refine HC2.out.mono ?_; rintro e7 w7 ⟨rfl, h7⟩; have H7 := Lib.hid h7; clear h7))
            refine bodyPost_ret (results_none rfl _ _ _) rfl ?_
            rw [HE.out]
            exact ⟨rfl, H7.out⟩
          · have d2 : decide (((p.l.length : Nat) : Int) + 1 = 2) = false := by simp; omega
            have HE := Lib.hid (end_some (hp0 := .slice hA p.l.length hc) (by omega) HM.out)
            clear HM
            go_wp2
            refine bodyPost_ret (results_none rfl _ _ _) rfl ?_
            exact HE.out
end
end RM6
end Go.Proofs.YtkhcaejijlaohaaDoor
