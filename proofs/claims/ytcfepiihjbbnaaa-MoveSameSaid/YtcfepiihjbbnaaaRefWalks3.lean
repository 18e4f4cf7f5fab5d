/-
  Contract of the document's Alloc. Conditions: its rows are as the list of things says, what is handed over lies elsewhere.
-/
import Derived.Test.YtcfepiihjbbnaaaRefWalks2
import Derived.Test.YtcfepiihjbbnaaaOwnStep
namespace Go.Proofs.Ytcfepiihjbbnaaa
open Go.RowKit
namespace RW
open AW RP
section
variable {w : World} {base q n : Nat} {v : Value} {ts : List AP.Th} {hs : List Value}
theorem ralloc_bad (w : World) (pv : Value) (k : Int) (A : Option Addr) (m c : Nat) (hm : m ≤ 9223372036854775807) (hb : k < 1 ∨ 9 < k ∨ 255 < m) :
    Calls Try.prog 21 #[pv, .int .i64 k, .slice A m c] w fun e w' => e = .returned (.tuple #[.int .u64 0, .int .i64 1]) ∧ w = w' := by
  by_cases h1 : k < 1
  · clear hb
    go_enter Try.func21, Try.ntmps21
    go_wp2
    go_ret2
    exact ⟨rfl, rfl⟩
  · by_cases h9 : 9 < k
    · clear hb
      go_enter Try.func21, Try.ntmps21
      go_wp2
      go_ret2
      exact ⟨rfl, rfl⟩
    · have h5 : 255 < m := by omega
      clear hb
      go_enter Try.func21, Try.ntmps21
      go_wp2
      go_ret2
      exact ⟨rfl, rfl⟩
theorem ralloc_full (hR : Rr w base q n v ts hs) (k : Int) (A : Option Addr) (m c : Nat) (h1 : 1 ≤ k) (h9 : k ≤ 9) (hm : m ≤ 255) (hr : n ≤ AP.sz ts + m) :
    Calls Try.prog 21 #[ptr q, .int .i64 k, .slice A m c] w fun e w' => e = .returned (.tuple #[.int .u64 0, .int .i64 20]) ∧ ∃ d, w' = w.drewN d := by
  have hs1 : AP.sz ts ≤ n := hR.ok.room
  have hn6 : n ≤ 65536 := hR.ok.size
  have h0 := hR.head.at (i := 0) rfl
  have hc1 := hR.head.at (i := 1) rfl
  clear hR
  go_enter Try.func21, Try.ntmps21
  go_wp2
  go_quiet (fail)
  go_wp2
  go_ret2
  exact ⟨rfl, _, rfl⟩
theorem rof_at (s : Nat) (h : s ≤ 65536) (w : World) : Calls Try.prog 33 #[.int .i64 1, .int .i64 s] w fun e w' => e = .returned (.tuple #[.int .u64 (WP.ofW 1 s), .int .i64 0]) ∧ w = w' := by
  refine (WW.rof_any 1 s w).mono ?_
  rintro e w' ⟨rfl, rfl⟩
  have : WP.ofB 1 s = true := by rw [WP.ofB_iff]; omega
  exact ⟨by simp [WP.ofE, this], rfl⟩
theorem Rr.far_new {w' : World} {S : List Nat} (hR : Rr w base q n v ts hs) (f : MM.Far S w w') (hS : ∀ b ∈ S, w.heap.size ≤ b) : Rr w' base q n v ts hs :=
  hR.far f (fun b hb => by
    have h1 := hS b hb
    have h2 := hR.head.lt
    exact ⟨by omega, .inr h1⟩)
theorem thing_info : (Try.prog.info? 68).map (fun i => (i.zero, i.size, i.bytes)) = some (some (.agg #[.int .i64 0, .int .i64 0, .slice none 0 0]), 3, 40) := by kernel_rfl
theorem things_slice : Try.prog.underlying 63 = some (.slice 68) := by kernel_rfl
theorem cells3_one (a b : Int) (A : Option Addr) (l c : Nat) : ∀ u ∈ [Value.int .i64 a, .int .i64 b, .slice A l c], u.oneCell' = true := by
  intro u hu
  simp only [List.mem_cons, List.not_mem_nil, or_false] at hu
  rcases hu with rfl | rfl | rfl <;> rfl
theorem far_head {w w' : World} {S : List Nat} {q : Nat} {l : List Value} (h : MM.Row w q 65 l) (f : MM.Far S w w') (hn : q ∉ S) : MM.Row w' q 65 l := h.far f hn
/-- What stands behind the two appends and the two stores. -/
theorem ralloc_end {W w1 w2 : World} {A1 : Option Addr} {c1 : Nat} {v2 : Value} {k : Int} {fs : List Int} {u : Int} (hR1 : Rr w1 base q n v ts hs) (hbW : base ≤ W.heap.size) (h1 : 1 ≤ k) (h9 : k ≤ 9) (hm : fs.length ≤ 255) (hr : AP.sz ts + fs.length < n) (hu : ∀ x ∈ fs, WP.U x)
    (F1 : MM.Far [W.heap.size] W w1) (F2 : MM.Far v.ownBlock.toList w1 w2) (hH2 : MM.Row w2 q 65 [.int .i64 n, .int .i64 (AP.sz ts), v])
    (hV1 : w1.ownsRow base 42 1 (.slice A1 fs.length c1) fs.length (U64s fs)) (hnew : ∀ b, (Value.slice A1 fs.length c1).ownBlock = some b → W.heap.size ≤ b) (hW : MM.Row W q 65 [.int .i64 n, .int .i64 (AP.sz ts), v]) (hRW : Rr W base q n v ts hs)
    (hV2 : w2.ownsRow base 68 3 v2 (ts.length + 1) (rc 0 ts hs ++ [.int .i64 (AP.sz ts), .int .i64 k, .slice A1 fs.length c1])) (hu2 : u = AP.sz ts + fs.length + 1) :
    Rr ((w2.setCell ⟨q, 2, none⟩ v2).setCell ⟨q, 1, none⟩ (.int .i64 u)) base q n v2 (ts ++ [⟨k, fs⟩]) (hs ++ [.slice A1 fs.length c1]) ∧ Fr q base W ((w2.setCell ⟨q, 2, none⟩ v2).setCell ⟨q, 1, none⟩ (.int .i64 u)) := by
  subst hu2
  have hone : MM.Far [q] w2 ((w2.setCell ⟨q, 2, none⟩ v2).setCell ⟨q, 1, none⟩ (.int .i64 (AP.sz ts + fs.length + 1 : Int))) := ((MM.Far.refl [q] w2).setCell (by simp) _).setCell (by simp) _
  have hvlow := MM.own_lt hR1.row
  refine ⟨⟨ok_snoc hR1.ok k fs h1 h9 hm hr hu, ?_, ?_, ?_⟩, ?_⟩
  · rw [AP.sz_snoc]
    have := (hH2.put 2 v2).put 1 (.int .i64 (AP.sz ts + fs.length + 1 : Int))
    have e : ((AP.sz ts + fs.length + 1 : Nat) : Int) = (AP.sz ts + fs.length + 1 : Int) := by omega
    simp only at e ⊢
    rw [e]
    exact this
  · rw [rc_snoc 0 ts hs hR1.hlen]
    simp only [List.length_append, List.length_singleton, Nat.zero_add]
    exact MM.own_far hV2 hone (fun b hb hm => by
      have : b = q := by simpa using hm
      subst this
      exact MM.own_row_ne hV2 hH2 (by decide) hb)
  · rw [List.map_append, List.map_singleton]
    have k1 : MN.Kids w2 base 42 hs (ts.map fun t => U64s t.l) := hR1.kids.far F2 (fun x hx b hb hm => by
      obtain ⟨i, hi, rfl⟩ := List.mem_iff_getElem.1 hx
      have hl : i < (ts.map fun t => U64s t.l).length := by rw [← hR1.kids.len]; exact hi
      exact MM.own_own_ne (hR1.kids.each i _ _ (List.getElem?_eq_getElem hi) (List.getElem?_eq_getElem hl)) hR1.row (by decide) b hb (by simpa using hm))
    have v1 : w2.ownsRow base 42 1 (.slice A1 fs.length c1) fs.length (U64s fs) := MM.own_far hV1 F2 (fun b hb hm => MM.own_own_ne hV1 hR1.row (by decide) b hb (by simpa using hm))
    have k2 := k1.far hone (fun x hx b hb hm => by
      have : b = q := by simpa using hm
      subst this
      obtain ⟨i, hi, rfl⟩ := List.mem_iff_getElem.1 hx
      have hl : i < (ts.map fun t => U64s t.l).length := by rw [← k1.len]; exact hi
      exact MM.own_row_ne (k1.each i _ _ (List.getElem?_eq_getElem hi) (List.getElem?_eq_getElem hl)) hH2 (by decide) hb)
    refine k2.snoc (by simp [U64s]) (MM.own_far v1 hone (fun b hb hm => by
      have : b = q := by simpa using hm
      subst this
      exact MM.own_row_ne v1 hH2 (by decide) hb)) (fun b hb x hx hb2 => ?_)
    have h3 := hnew b hb
    have h4 := hRW.kids.low x hx b hb2
    omega
  · refine ⟨[W.heap.size] ++ (v.ownBlock.toList ++ [q]), ?_, fun b hb => ?_⟩
    · refine ((F1.mono (S' := [W.heap.size] ++ (v.ownBlock.toList ++ [q])) (fun x hx _ => List.mem_append.2 (.inl hx))).trans F2 (fun x hx _ => ?_)).trans hone (fun x hx _ => ?_)
      · exact List.mem_append.2 (.inr (List.mem_append.2 (.inl hx)))
      · exact List.mem_append.2 (.inr (List.mem_append.2 (.inr hx)))
    · rcases List.mem_append.1 hb with hb | hb
      · have : b = W.heap.size := by simpa using hb
        exact .inr ⟨by omega, fun t l hr => by have := hr.lt; omega⟩
      · rcases List.mem_append.1 hb with hb | hb
        · exact .inr ⟨(hvlow b (by simpa using hb)).2, fun t l hr => .inr (row_type hRW.row (by simpa using hb) hr)⟩
        · exact .inl (by simpa using hb)
set_option maxHeartbeats 2000000 in
theorem ralloc_ok (hR : Rr w base q n v ts hs) (hbw : base ≤ w.heap.size) (k : Int) (A : Option Addr) (c : Nat) (fs : List Int) (h1 : 1 ≤ k) (h9 : k ≤ 9) (hm : fs.length ≤ 255) (hr : AP.sz ts + fs.length < n) (hu : ∀ x ∈ fs, WP.U x) (hnil : A = none → c = 0 ∧ fs.length = 0) (hs : MM.Src w [] A (U64s fs)) :
    Calls Try.prog 21 #[ptr q, .int .i64 k, .slice A fs.length c] w fun e w' => e = .returned (.tuple #[.int .u64 (WP.ofW 1 (AP.sz ts)), .int .i64 0]) ∧ ∃ v' hs', Rr w' base q n v' (ts ++ [⟨k, fs⟩]) hs' ∧ Fr q base w w' := by
  have hn6 : n ≤ 65536 := hR.ok.size
  have h0 := hR.head.at (i := 0) rfl
  have hc1 := hR.head.at (i := 1) rfl
  have HR := Lib.hid hR
  have HS := Lib.hid hs
  have HNil := Lib.hid hnil
  have hss : AP.sz ts ≤ 65536 := by omega
  clear hR hs hnil
  go_enter Try.func21, Try.ntmps21
  go_wp2
  go_quiet (fail)
  go_wp2_with (first | (go_at_call 33; refine (rof_at _ hss _).mono ?_; rintro e w' ⟨rfl, rfl⟩))
  have HRW : Hid (Rr (w.drewN nq) base q n v ts hs) := HR.out.far ((MM.Far.refl [] w).drewN nq) (by simp)
  have HSW : Hid (MM.Src (w.drewN nq) [] A (U64s fs)) := HS.out.far ((MM.Far.refl [] w).drewN nq) (by simp)
  have hWF : MM.Far [] w (w.drewN nq) := (MM.Far.refl [] w).drewN nq
  generalize w.drewN nq = W at HRW HSW hWF ⊢
  have h0W := HRW.out.head.at (i := 0) rfl
  have h1W := HRW.out.head.at (i := 1) rfl
  have h2W := HRW.out.head.at (i := 2) rfl
  have hf2 := HRW.out.head.frozen 2
  have hqW := HRW.out.head.lt
  have hbW : base ≤ W.heap.size := by have := hWF.size; omega
  have HOw := Lib.hid (MM.own_lt HRW.out.row)
  have HN2 : Hid (A = none → c = 0 ∧ fs.length = 0) := HNil.out
  clear h0 hc1
  have HE := Lib.hid (show (W.alloc (.cells #[] 42)).ownsRow base 42 1 (.slice (some ⟨W.heap.size, 0, none⟩) 0 0) 0 [] from MO.of_row (MM.Row.new W _ []) hbW rfl (by unfold maxLen; omega))
  have HSE := Lib.hid (show MM.Src (W.alloc (.cells #[] 42)) [] A (U64s fs) from HSW.out.far ((MM.Far.refl [] W).alloc _) (by simp))
  have HU := Lib.hid (show (U64s fs).length = fs.length * 1 by simp [U64s])
  go_region_law? ((first
    | (refine MO.step_append ?_ (.tmp 52) (.tmp 53) 23 ?_ base 42 (.int .u64 0) 1 8 words_slice word_info rfl (by omega) (.slice (some ⟨W.heap.size, 0, none⟩) 0 0) 0 [] ?_ ?_ A fs.length c (U64s fs) ?_ HU.out HN2.out [] ?_ (u64s_one _) (by simp only [maxLen]; omega) (by omega) ?_ ?_
       · rfl
       · rfl
       · rfl
       · exact HE.out
       · rfl
       · exact HSE.out
       · simp; omega
       intro v1 w1 hv1 hg1 hat1
       rw [Nat.zero_add, List.nil_append] at hv1
       have F1 : MM.Far [W.heap.size] W w1 := ((MM.Far.refl _ W).alloc (.cells #[] 42)).trans (MM.Far.of_grown (S := [W.heap.size]) (a := W.alloc (.cells #[] 42)) ⟨hg1.os, hg1.tape, hg1.output, hg1.size, hg1.block⟩ (by intro b hb1 _; simp [Value.ownBlock] at hb1; simp [hb1])) (fun b hb _ => hb)
       have HR1 := Lib.hid (HRW.out.far_new F1 (by simp))
       have c1W := HR1.out.head.at (i := 1) rfl
       have c2W := HR1.out.head.at (i := 2) rfl
       have f2W := HR1.out.head.frozen 2
       have hq1 := HR1.out.head.lt
       have s1 := F1.size
       obtain ⟨A1, c1, rfl, k1, k2, k3, k4, k5⟩ := MO.form hv1
       clear k1 k2 k3 k4 k5
       have HV1 := Lib.hid hv1
       clear hv1)
    | (refine MO.step_append ?_ (.tmp 46) (.tmp 56) 63 ?_ base 68 _ 3 40 things_slice thing_info rfl (by omega) v ts.length (rc 0 ts hs) ?_ ?_ (some ⟨w1.heap.size, 0, none⟩) 1 1 [.int .i64 (AP.sz ts), .int .i64 k, .slice A1 fs.length c1] ?_ rfl (fun h => by cases h) [] ?_ (cells3_one _ _ _ _ _) ?_ ?_ ?_ ?_
       · rfl
       · rfl
       · rfl
       · exact (HR1.out.row.alloc _)
       · rfl
       · exact (MM.Src.row (MM.Row.new w1 68 [.int .i64 (AP.sz ts), .int .i64 k, .slice A1 fs.length c1]) (by simp) _ (fun j u hu => hu))
       · have := len_le_sz ts
         simp only [maxLen]; omega
       · have := len_le_sz ts
         omega
       · simp; omega
       intro v2 w2 hv2 hg2 hat2
       have F2 : MM.Far v.ownBlock.toList w1 w2 := ((MM.Far.refl _ w1).alloc (.cells [.int .i64 (AP.sz ts), .int .i64 k, .slice A1 fs.length c1].toArray 68)).trans (MM.Far.of_grown (S := v.ownBlock.toList) (a := w1.alloc (.cells [.int .i64 (AP.sz ts), .int .i64 k, .slice A1 fs.length c1].toArray 68)) ⟨hg2.os, hg2.tape, hg2.output, hg2.size, hg2.block⟩ (by intro b hb1 _; simp [hb1])) (fun b hb _ => hb)
       have HH2 := Lib.hid (far_head HR1.out.head F2 (fun hm => MM.own_row_ne HR1.out.row HR1.out.head (by decide) (by simpa using hm)))
       have d2W := HH2.out.at (i := 2) rfl
       have e2W := HH2.out.frozen 2
       have d1W := HH2.out.at (i := 1) rfl
       have e1W := HH2.out.frozen 1
       obtain ⟨A2, c2, rfl, k1, k2, k3, k4, k5⟩ := MO.form hv2
       clear k1 k2 k3 k4 k5
       have HV2 := Lib.hid hv2
       clear hv2)))
  all_goals
    have hnew : ∀ b, (Value.slice A1 fs.length c1).ownBlock = some b → W.heap.size ≤ b := by
      intro b hb
      rcases hat1 with e | e
      · rw [e] at hb
        have : W.heap.size = b := by simpa [Value.ownBlock] using hb
        omega
      · rw [e] at hb
        have : W.heap.size + 1 = b := by simpa using hb
        omega
    have HE2 := Lib.hid (ralloc_end (u := AP.sz ts + fs.length + 1) HR1.out hbW h1 h9 hm hr hu F1 F2 HH2.out HV1.out hnew HRW.out.head HRW.out HV2.out rfl)
    clear hnew hat1 hat2 hg1 hg2
    go_wp2
    go_ret2
    exact ⟨rfl, _, _, HE2.out.1, Fr.trans (Fr.of_nil hWF) HE2.out.2⟩
theorem ralloc_any (hR : Rr w base q n v ts hs) (hbw : base ≤ w.heap.size) (k : Int) (A : Option Addr) (c : Nat) (fs : List Int) (hm : fs.length ≤ 9223372036854775807) (hu : ∀ x ∈ fs, WP.U x) (hnil : A = none → c = 0 ∧ fs.length = 0) (hs : MM.Src w [] A (U64s fs)) :
    Calls Try.prog 21 #[ptr q, .int .i64 k, .slice A fs.length c] w fun e w' => e = .returned (.tuple #[.int .u64 (allW n ts k fs.length), .int .i64 (allE n ts k fs.length)]) ∧ ∃ v' hs', Rr w' base q n v' (allT n ts k fs) hs' ∧ Fr q base w w' := by
  by_cases hb : k < 1 ∨ 9 < k ∨ 255 < fs.length
  · refine (ralloc_bad w _ k A fs.length c hm hb).mono ?_
    rintro e w' ⟨rfl, rfl⟩
    have e1 : allE n ts k fs.length = 1 := by unfold allE; rw [if_pos hb]
    refine ⟨by simp [allW, e1], v, _, by unfold allT; rw [if_neg (by omega)]; exact hR, Fr.refl _ _ _⟩
  · by_cases hr : n ≤ AP.sz ts + fs.length
    · refine (ralloc_full hR k A fs.length c (by omega) (by omega) (by omega) hr).mono ?_
      rintro e w' ⟨rfl, d, rfl⟩
      have e1 : allE n ts k fs.length = 20 := by unfold allE; rw [if_neg hb, if_pos hr]
      refine ⟨by simp [allW, e1], v, _, by unfold allT; rw [if_neg (by omega)]; exact hR.far ((MM.Far.refl [] w).drewN d) (by simp), Fr.of_nil ((MM.Far.refl [] w).drewN d)⟩
    · refine (ralloc_ok hR hbw k A c fs (by omega) (by omega) (by omega) (by omega) hu hnil hs).mono ?_
      rintro e w' ⟨rfl, v', hs', h1, h2⟩
      have e1 : allE n ts k fs.length = 0 := by unfold allE; rw [if_neg hb, if_neg hr]
      refine ⟨by simp [allW, e1], v', hs', by unfold allT; rw [if_pos e1]; exact h1, h2⟩
theorem ralloc_len (hR : Rr w base q n v ts hs) (hbw : base ≤ w.heap.size) (k : Int) (A : Option Addr) (m c : Nat) (fs : List Int) (hm0 : fs.length = m) (hm : m ≤ 9223372036854775807) (hu : ∀ x ∈ fs, WP.U x) (hnil : A = none → c = 0 ∧ m = 0) (hs : MM.Src w [] A (U64s fs)) :
    Calls Try.prog 21 #[ptr q, .int .i64 k, .slice A m c] w fun e w' => e = .returned (.tuple #[.int .u64 (allW n ts k m), .int .i64 (allE n ts k m)]) ∧ ∃ v' hs', Rr w' base q n v' (allT n ts k fs) hs' ∧ Fr q base w w' := by
  subst hm0
  exact ralloc_any hR hbw k A c fs hm hu hnil hs
end
end RW
end Go.Proofs.Ytcfepiihjbbnaaa
