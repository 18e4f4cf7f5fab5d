/-
  Contract of the code's reader: place. Conditions: there are no more than 20000 data.
-/
import Derived.Test.YtbglcdjimipeeaaDoorReadC1
import Derived.Deep.RegionLaw
import Derived.Deep.RegionHeld3
import Derived.Deep.DeepCutAuto
namespace Go.Proofs.YtbglcdjimipeeaaDoor
open Go.RowKit
namespace RX
/-- What is open, when datum n is whole and goes into what was opened last. -/
def afterP (n : Nat) : List Pt → List Pt
  | [] => []
  | p :: ps => ⟨p.at_, p.q, p.l ++ [n]⟩ :: ps
def afterT (n : Nat) (ps : List Pt) (tops : List Nat) : List Nat := match ps with
  | [] => tops ++ [n]
  | _ :: _ => tops
/-- Is what was opened last whole by it? -/
def whole : List Pt → Bool
  | [] => false
  | p :: _ => p.q && (p.l.length + 1 == 2)
end RX
namespace RC6
open LX RX RW6
open RM6 (Kin ndC kinsN kinsP ints_snoc ints_len ndC_snoc own_off one_far)
theorem nodes_slice : Tryd.prog.underlying 26 = some (.slice 33) := by kernel_rfl
theorem node_info : (Tryd.prog.info? 33).map (fun i => (i.zero, i.size, i.bytes)) = some (some (.agg #[.int .u8 0, .int .i64 0, .int .i64 0, .string ⟨#[]⟩, .slice none 0 0]), 5, 64) := by kernel_rfl
theorem ints_slice : Tryd.prog.underlying 27 = some (.slice 3) := by kernel_rfl
theorem int_info : (Tryd.prog.info? 3).map (fun i => (i.zero, i.size, i.bytes)) = some (some (.int .i64 0), 1, 8) := by kernel_rfl
theorem form_ (w0 : World) {w : World} {e : TypeId} {size n : Nat} {v : Value} {xs : List Value} (h : w.ownsRow w0.heap.size e size v n xs) : ∃ A c, v = .slice A n c := by
  obtain ⟨A, c, e, _⟩ := MO.form h
  exact ⟨A, c, e⟩
theorem nd_one (x : Nd) (A : Option Addr) (c : Nat) : ∀ u ∈ [Value.int .u8 x.kind, .int .i64 x.at_, .int .i64 x.n, .string x.s, .slice A x.l.length c], u.oneCell' = true := by
  intro u hu
  simp only [List.mem_cons, List.not_mem_nil, or_false] at hu
  rcases hu with rfl | rfl | rfl | rfl | rfl <;> rfl
theorem far_app {W w2 : World} {o : Obj} {b : Option Nat} (h : (W.alloc o).drew.grownBy w2 b) : MM.Far b.toList W w2 :=
  ((MM.Far.refl b.toList W).alloc o).trans (MM.Far.of_grown (S := b.toList) (a := W.alloc o) ⟨h.os, h.tape, h.output, h.size, h.block⟩ (by intro k hk _; simp [hk])) (fun k hk _ => hk)
theorem one_int (i : Int) : ∀ u ∈ [Value.int .i64 i], u.oneCell' = true := by
  intro u hu
  rw [List.mem_singleton] at hu
  subst hu
  rfl
theorem far_app0 {W w2 : World} {o : Obj} {b : Option Nat} (h : (W.alloc o).grownBy w2 b) : MM.Far b.toList W w2 :=
  ((MM.Far.refl b.toList W).alloc o).trans (MM.Far.of_grown (S := b.toList) (a := W.alloc o) h (by intro k hk _; simp [hk])) (fun k hk _ => hk)
/-- A place more in a row of places of the call's own. -/
theorem kin_push {ops : Array Oper} {rest : List Oper} {o : Oper} {a : Act} {Q : Exit → Act → World → Prop} {base : Nat} {w : World} {v : Value} {l : List Nat} {n : Nat}
    (hO : w.ownsRow base 3 1 v l.length (ints l)) (hb : base ≤ w.heap.size) (hl : l.length ≤ 100000) (hgd : o.guard = none) (s x : Operand)
    (ho : o.op = .call { callee := .builtin .append, args := #[s, x], argTypes := #[27, 27] })
    (hs : a.eval s = v) (hx : a.eval x = .slice (some ⟨w.heap.size, 0, none⟩) 1 1)
    (h : ∀ A c w', w'.ownsRow base 3 1 (.slice A (l.length + 1) c) (l.length + 1) (ints l ++ [.int .i64 ((n : Nat) : Int)]) → MM.Far v.ownBlock.toList w w' →
      ((Value.slice A (l.length + 1) c).ownBlock = v.ownBlock ∨ ∃ b, (Value.slice A (l.length + 1) c).ownBlock = some b ∧ w.heap.size ≤ b) → wpList Tryd.prog ops Q rest (a.put o.dst (.slice A (l.length + 1) c)) w') :
    wpList Tryd.prog ops Q (o :: rest) a (w.alloc (.cells #[.int .i64 ((n : Nat) : Int)] 3)) := by
  have hF : MM.Far [] w (w.alloc (.cells #[.int .i64 ((n : Nat) : Int)] 3)) := (MM.Far.refl [] w).alloc _
  refine MO.wpList_append _ hgd s x 27 ho base 3 (.int .i64 0) 1 8 ints_slice int_info rfl (by omega) v l.length (ints l) hs (hO.alloc _) (some ⟨w.heap.size, 0, none⟩) 1 1 [.int .i64 ((n : Nat) : Int)] hx rfl (fun h => by cases h) [] ?_ ?_ ?_ ?_ (by have := hF.size; omega) ?_
  · exact MM.Src.row (MM.Row.new w 3 [.int .i64 ((n : Nat) : Int)]) (by simp) _ (fun j u hu => hu)
  · intro u hu
    rw [List.mem_singleton] at hu
    subst hu
    rfl
  · simp only [maxLen]; omega
  · omega
  · intro v' w' hv hg hat
    obtain ⟨A, c, rfl, _⟩ := MO.form hv
    refine h A c w' hv (far_app0 hg) ?_
    rcases hat with e | e
    · exact .inl e
    · exact .inr ⟨_, e, by have := hF.size; omega⟩
/-- What is kept of the boxes round about: those of data but the row's own block, those of tokens. -/
structure Keep (v : Value) (w w' : World) : Prop where
  size : w.heap.size ≤ w'.heap.size
  node : ∀ b l, MM.Row w b 33 l → v.ownBlock ≠ some b → MM.Row w' b 33 l
  tok : ∀ b l, MM.Row w b 43 l → MM.Row w' b 43 l
theorem Keep.refl (v : Value) (w : World) : Keep v w w := ⟨Nat.le_refl _, fun _ _ h _ => h, fun _ _ h => h⟩
theorem Keep.trans {v : Value} {w w1 w2 : World} (h : Keep v w w1) (k : Keep v w1 w2) : Keep v w w2 :=
  ⟨Nat.le_trans h.size k.size, fun b l r n => k.node b l (h.node b l r n) n, fun b l r => k.tok b l (h.tok b l r)⟩
theorem Keep.trans2 {v v' : Value} {w w1 w2 : World} (h : Keep v w w1) (k : Keep v' w1 w2) (hv : v'.ownBlock = v.ownBlock ∨ ∃ b, v'.ownBlock = some b ∧ w.heap.size ≤ b) : Keep v w w2 := by
  refine ⟨Nat.le_trans h.size k.size, fun b l r n => k.node b l (h.node b l r n) ?_, fun b l r => k.tok b l (h.tok b l r)⟩
  rcases hv with e | ⟨g, e, hg⟩
  · rw [e]; exact n
  · intro e2
    rw [e] at e2
    injection e2 with e2
    have := r.lt
    omega
theorem Keep.far {v : Value} {S : List Nat} {w w' : World} (f : MM.Far S w w') (hS : ∀ b ∈ S, b < w.heap.size → v.ownBlock = some b ∨ ∃ t l, MM.Row w b t l ∧ t ≠ 33 ∧ t ≠ 43) (hv : ∀ b, v.ownBlock = some b → ∃ l, MM.Row w b 33 l) : Keep v w w' := by
  refine ⟨f.size, fun b l r n => r.far f (fun hm => ?_), fun b l r => r.far f (fun hm => ?_)⟩
  · rcases hS b hm r.lt with e | ⟨t, l2, r2, h1, _⟩
    · exact n e
    · exact r2.ne r h1 rfl
  · rcases hS b hm r.lt with e | ⟨t, l2, r2, _, h1⟩
    · obtain ⟨l2, r2⟩ := hv b e
      exact r2.ne r (by decide) rfl
    · exact r2.ne r h1 rfl
theorem own_row {w : World} {base : Nat} {e : TypeId} {size n : Nat} {v : Value} {xs : List Value} (h : w.ownsRow base e size v n xs) (b : Nat) (hb : v.ownBlock = some b) : ∃ l, MM.Row w b e l := by
  rcases h.2 with ⟨rfl, _⟩ | ⟨g, cap, cur, rfl, _, hg, _⟩
  · simp [Value.ownBlock] at hb
  · have : g = b := by simpa [Value.ownBlock] using hb
    subst this
    exact ⟨cur.toList, by unfold MM.Row; simpa using hg⟩
/-- What place comes to. -/
def PlaceP (w0 w : World) (q : Nat) (rv : Value) (rs : List (Nd × Value)) (x : Nd) (hx : Value) (tops : List Nat) (os : List (Pt × Value)) (ex : List (Value × List Nat)) (e : Ending) (w' : World) : Prop :=
  e = .returned (.bool (whole (os.map (·.1)))) ∧ Keep rv w w' ∧ ∃ rv' tv' ov' os', Rdr w0 w' q rv' tv' ov' (rs ++ [(x, hx)]) (afterT rs.length (os.map (·.1)) tops) os' ex ∧ os'.map (·.1) = afterP rs.length (os.map (·.1)) ∧
    (rv'.ownBlock = rv.ownBlock ∨ ∃ b, rv'.ownBlock = some b ∧ w.heap.size ≤ b)
/-- Behind the first append. -/
def Cut1 (w0 w : World) (q : Nat) (rv tv ov : Value) (rs : List (Nd × Value)) (x : Nd) (hx : Value) (tops : List Nat) (os : List (Pt × Value)) (ex : List (Value × List Nat)) (wx : World) : Prop :=
  Keep rv w wx ∧ ∃ A2 c2, Rdr w0 wx q (.slice A2 (rs.length + 1) c2) tv ov (rs ++ [(x, hx)]) tops os ex ∧ ((Value.slice A2 (rs.length + 1) c2).ownBlock = rv.ownBlock ∨ ∃ b, (Value.slice A2 (rs.length + 1) c2).ownBlock = some b ∧ w.heap.size ≤ b)
section
variable {w0 w : World} {q : Nat} {rv tv ov : Value} {rs : List (Nd × Value)} {tops : List Nat} {os : List (Pt × Value)} {ex : List (Value × List Nat)}
theorem keep_q {w1 : World} {rvX tvX ovX : Value} (hH : MM.Row w q 41 [rvX, tvX, ovX]) (i : Nat) (u v : Value) (k : Keep v w1 w) : Keep v w1 (w.setCell ⟨q, i, none⟩ u) := by
  refine ⟨by simpa [World.setCell] using k.size, fun b l r n => (k.node b l r n).other (fun e => ?_) u, fun b l r => (k.tok b l r).other (fun e => ?_) u⟩
  · subst e; exact (k.node _ l r n).ne hH (by decide) rfl
  · subst e; exact (k.tok _ l r).ne hH (by decide) rfl
theorem keep_own {w1 : World} {base : Nat} {e : TypeId} {size g n c : Nat} {xs : List Value} {B : Option Addr} (ho : w.ownsRow base e size (.slice B n c) n xs) (hB : B = some ⟨g, 0, none⟩) (h1 : e ≠ 33) (h2 : e ≠ 43) (i : Nat) (u v : Value) (k : Keep v w1 w) : Keep v w1 (w.setCell ⟨g, i, none⟩ u) := by
  subst hB
  obtain ⟨l2, r2⟩ := own_row ho g rfl
  refine ⟨by simpa [World.setCell] using k.size, fun b l r n => (k.node b l r n).other (fun e => ?_) u, fun b l r => (k.tok b l r).other (fun e => ?_) u⟩
  · subst e; exact r2.ne (k.node _ l r n) h1 rfl
  · subst e; exact r2.ne (k.tok _ l r) h2 rfl
set_option maxHeartbeats 4000000 in
set_option maxRecDepth 20000 in
theorem place_any (x : Nd) (A : Option Addr) (c : Nat) (h : Rdr w0 w q rv tv ov rs tops os ((.slice A x.l.length c, x.l) :: ex)) (hn : rs.length + os.length ≤ 20000) (ht : tops.length ≤ 20000)
    (hl : ∀ p ∈ os, p.1.l.length ≤ 20000) :
    Calls Tryd.prog 21 #[.pointer (some ⟨q, 0, none⟩), .agg #[.int .u8 x.kind, .int .i64 x.at_, .int .i64 x.n, .string x.s, .slice A x.l.length c]] w
      (PlaceP w0 w q rv rs x (.slice A x.l.length c) tops os ex) := by
  obtain ⟨oA, oc, rfl⟩ := form_ w0 h.op
  obtain ⟨rA, rc, rfl⟩ := form_ w0 h.row
  have hK := (Keep.far (v := .slice rA rs.length rc) ((MM.Far.refl [] w).alloc (.cells #[.int .u8 x.kind, .int .i64 x.at_, .int .i64 x.n, .string x.s, .slice A x.l.length c] 33)) (by simp) (own_row h.row))
  have hB := MM.Row.new w 33 [.int .u8 x.kind, .int .i64 x.at_, .int .i64 x.n, .string x.s, .slice A x.l.length c]
  have hR := h.to ((MM.Far.refl [] w).alloc (.cells #[.int .u8 x.kind, .int .i64 x.at_, .int .i64 x.n, .string x.s, .slice A x.l.length c] 33))
  have z0 := hB.at (i := 0) rfl
  have z1 := hB.at (i := 1) rfl
  have z2 := hB.at (i := 2) rfl
  have z3 := hB.at (i := 3) rfl
  have z4 := hB.at (i := 4) rfl
  have c0 := hR.head.at (i := 0) rfl
  have f0 := hR.head.frozen 0
  have HR := Lib.hid hR
  have HK := Lib.hid hK
  clear hB hR h hK
  have hbW := HR.out.far.size
  go_enter Tryd.func21, Tryd.ntmps21
  go_wp2
  generalize hWE : w.alloc (.cells #[.int .u8 x.kind, .int .i64 x.at_, .int .i64 x.n, .string x.s, .slice A x.l.length c] 33) = W at *
  have c0a := (HR.out.to ((MM.Far.refl [] W).alloc (.cells #[.int .u8 x.kind, .int .i64 x.at_, .int .i64 x.n, .string x.s, .slice A x.l.length c] 33))).head.at (i := 0) rfl
  go_cut [] (fun wx => Cut1 w0 w q (.slice rA rs.length rc) tv (.slice oA os.length oc) rs x (.slice A x.l.length c) tops os ex wx)
  case first =>
    go_region_law (
      refine MO.step_append ?_ (.tmp 16) (.tmp 18) 26 ?_ w0.heap.size 33 _ 5 64 nodes_slice node_info rfl (by omega) (.slice rA rs.length rc) rs.length (ndC rs) ?_ ?_ (some ⟨W.heap.size, 0, none⟩) 1 1 [.int .u8 x.kind, .int .i64 x.at_, .int .i64 x.n, .string x.s, .slice A x.l.length c] ?_ rfl (fun h => by cases h) [] ?_ (nd_one x A c) ?_ ?_ ?_ ?_
      · rfl
      · rfl
      · rfl
      · exact HR.out.row.alloc _
      · rfl
      · exact (MM.Src.row (MM.Row.new W 33 [.int .u8 x.kind, .int .i64 x.at_, .int .i64 x.n, .string x.s, .slice A x.l.length c]) (by simp) _ (fun j u hu => hu))
      · simp only [maxLen]; omega
      · omega
      · simp; omega
      intro v2 w2 hv2 hg2 hat2
      obtain ⟨A2, c2, rfl⟩ := form_ w0 hv2
      have F2 : MM.Far (Value.slice rA rs.length rc).ownBlock.toList W w2 := far_app hg2
      have HH2 : Hid (MM.Row w2 q 41 _) := Lib.hid (HR.out.head.far F2 (fun hm => MM.own_row_ne HR.out.row HR.out.head (by decide) (by simpa using hm)))
      have d2W := HH2.out.at (i := 0) rfl
      have e2W := HH2.out.frozen 0
      have HN := Lib.hid (HR.out.node (w1 := w2) x (.slice A x.l.length c) hv2 F2)
      have HA2 := Lib.hid hat2
      have HK2 := Lib.hid (HK.out.trans (Keep.far F2 (fun b hb _ => .inl (by simpa using hb)) (own_row HR.out.row)))
      clear hg2 hv2 hat2)
    all_goals
      go_wp2_with fail
      go_meet
      exact ⟨keep_q HH2.out 0 _ _ HK2.out, A2, c2, HN.out, HA2.out.imp id (fun e => ⟨_, e, by have := HK.out.size; simp; omega⟩)⟩
  case rest =>
    obtain ⟨hK2, A2, c2, hR2, hB2⟩ := hcut
    have HK2 := Lib.hid hK2
    have HB2 := Lib.hid hB2
    have HN := Lib.hid hR2
    clear hK2 hB2 hR2 z0 z1 z2 z3 z4 c0 f0 c0a HK HR hWE hbW
    have k0 := HN.out.head.at (i := 0) rfl
    have k1 := HN.out.head.at (i := 1) rfl
    have k2 := HN.out.head.at (i := 2) rfl
    have hb3 := HN.out.far.size
    have HT := Lib.hid (show wc.ownsRow w0.heap.size 3 1 tv tops.length (ints tops) from HN.out.kin.each _ (List.mem_cons_self ..))
    by_cases ho : os.length = 0
    · have d0 : decide ((os.length : Int) = 0) = true := by simp [ho]
      go_wp2_with (first
        | (at_builtin; refine kin_push HT.out hb3 (by omega) rfl (.tmp 32) (.tmp 34) rfl rfl rfl ?_; intro tA tc w4 ho4 hf4 ha4; have HH4 : Hid (MM.Row w4 q 41 _) := Lib.hid (HN.out.head.far hf4 (fun hm => MM.own_row_ne HT.out HN.out.head (by decide) (by simpa using hm))); have g1 := HH4.out.at (i := 1) rfl; have g2 := HH4.out.frozen 1; have HD := Lib.hid (HN.out.top ho4 hf4 ha4); have HK4 := Lib.hid (HK2.out.trans2 (Keep.far hf4 (fun b hb _ => .inr (by obtain ⟨l, r⟩ := own_row HT.out b (by simpa using hb); exact ⟨_, l, r, by decide, by decide⟩)) (own_row HN.out.row)) HB2.out); clear ho4 hf4 ha4))
      go_ret
      obtain rfl : os = [] := List.eq_nil_of_length_eq_zero ho
      exact ⟨rfl, keep_q HH4.out 1 _ _ HK4.out, _, _, _, [], HD.out, rfl, HB2.out⟩
    · obtain ⟨⟨p, hp⟩, os1, rfl⟩ : ∃ z os1, os = z :: os1 := by
        cases os with
        | nil => exact absurd rfl ho
        | cons z l => exact ⟨z, l, rfl⟩
      obtain ⟨og, oc2, e, hc1, hc2, c0, c1, c2', c3, c4, c5, hfz, hog, hog0⟩ := open_at HN.out
      injection e with e1 e2 e3
      subst e1 e3
      clear e2 ho
      have HP := Lib.hid (show wc.ownsRow w0.heap.size 3 1 hp p.l.length (ints p.l) from HN.out.kin.each (hp, p.l) (by simp [kinsP]))
      obtain ⟨hA, hc, rfl⟩ := form_ w0 HP.out
      have hpl : p.l.length ≤ 20000 := hl (p, .slice hA p.l.length hc) (List.mem_cons_self ..)
      have hfz4 := hfz (os1.length * 6 + 4)
      rw [List.length_cons] at k2
      have d0 : decide (((os1.length : Nat) : Int) + 1 = 0) = false := by simp; omega
      have hos : os1.length ≤ 20000 := by rw [List.length_cons] at hn; omega
      have hne := own_off HN.out.op HP.out (by decide) og rfl
      have HQ := Lib.hid k2
      have HC4 := Lib.hid c4
      have HC5 := Lib.hid c5
      have HF4 := Lib.hid hfz4
      clear c0 c1 c2' c3 c5 hfz hfz4 hl hn ht
      obtain ⟨bq, hbq⟩ : ∃ bq, p.q = bq := ⟨_, rfl⟩
      rw [hbq] at HC5
      rcases (show bq = false ∨ (bq = true ∧ p.l.length = 1) ∨ (bq = true ∧ ¬ p.l.length = 1) by cases bq <;> simp <;> omega) with hl2 | hl2 | hl2
      all_goals
        first | (subst hl2; have hl2 : p.l.length = p.l.length := rfl) | (obtain ⟨rfl, hl2⟩ := hl2)
        all_goals
          have HW : Hid (whole ((p, Value.slice hA p.l.length hc) :: os1 |>.map (·.1)) = _) := Lib.hid (show whole (p :: os1.map (·.1)) = (p.q && (p.l.length + 1 == 2)) from rfl)
          first
            | (have d2 : decide (((p.l.length : Nat) : Int) + 1 = 2) = true := by simp; omega)
            | (have d2 : decide (((p.l.length : Nat) : Int) + 1 = 2) = false := by simp; omega)
            | skip
          have HL2 := Lib.hid hl2
          have HBQ := Lib.hid hbq
          clear hl2 hbq
          go_wp2_with (first
            | (go_at_call 16; refine (inner_any _ HQ.out hos).mono ?_; rintro e w3 ⟨rfl, d, rfl⟩
               have HPd := Lib.hid (MM.own_far HP.out ((MM.Far.refl [] wc).drewN d) (by simp))
               have HNd := Lib.hid (HN.out.to ((MM.Far.refl [] wc).drewN d)))
            | (at_builtin; refine kin_push (w := wc.drewN d) HPd.out hb3 (by omega) rfl (.tmp 45) (.tmp 47) rfl rfl rfl ?_; intro tA tc w5 ho5 hf5 ha5
               have c5L := (hf5.cell (p := ⟨og, os1.length * 6 + 4, none⟩) hog hne).trans HC4.out
               have c5f := (hf5.frozen (p := ⟨og, os1.length * 6 + 4, none⟩) hog hne).trans HF4.out
               have c5Q := (hf5.cell (p := ⟨og, os1.length * 6 + 5, none⟩) hog hne).trans HC5.out
               have HM := Lib.hid (HNd.out.more rfl ho5 hf5 ha5)
               have HK5 := Lib.hid (keep_own (g := og) (MM.own_far HNd.out.op hf5 (own_off HNd.out.op HPd.out (by decide))) rfl (by decide) (by decide) (os1.length * 6 + 4) (.slice tA (p.l.length + 1) tc) _ (HK2.out.trans2 ((Keep.far ((MM.Far.refl [] wc).drewN d) (by simp) (own_row HN.out.row)).trans (Keep.far hf5 (fun b hb _ => .inr (by obtain ⟨l, r⟩ := own_row HPd.out b (by simpa using hb); exact ⟨_, l, r, by decide, by decide⟩)) (own_row HNd.out.row))) HB2.out))
               clear ho5 hf5 ha5))
          go_ret
          refine ⟨?_, HK5.out, _, _, _, _, HM.out, rfl, HB2.out⟩
          rw [HW.out, HBQ.out]
          have := HL2.out
          have e1 : (((p.l.length : Nat) : Int) + 1 == 2) = (p.l.length == 1) := by rw [Bool.eq_iff_iff]; simp; omega
          first | (simp; done) | (simp; exact e1)
end
end RC6
end Go.Proofs.YtbglcdjimipeeaaDoor
