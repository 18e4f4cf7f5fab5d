/-
  The walk of CodePushes: a row of pushes, and something that takes them, may be just if it takes as many. Conditions: the arguments' readings, the program's tables.
-/
import Derived.Test.YthhibcfljekibaaDoorCodeApp
import Derived.Test.YthhibcfljekibaaDoorCodePush
namespace Go.Proofs.YthhibcfljekibaaDoor
open Go.RowKit Go.ChangeShapes Go.WideShapes Go.Deep
set_option linter.unusedVariables false
namespace KW
open KP
theorem u8w4 {x : Int} (h : (Lit.int .u8 x).wf = true) : 0 ≤ x ∧ x ≤ 255 := by
  simp [Lit.wf, IntKind.min, IntKind.max, IntKind.signed, IntKind.bits] at h
  omega
theorem wf_plain {op a w : Int} (h1 : 0 ≤ op) (h2 : op < 256) (h3 : 0 ≤ a) (h4 : a < 1000) (h5 : 0 ≤ w) (h6 : w < 1000) : Wf ⟨op, a, 0, w⟩ := ⟨h1, h2, ⟨by show _ ≤ a; omega, by show a ≤ _; omega⟩, ⟨by show (_ : Int) ≤ 0; omega, by show (0 : Int) ≤ _; omega⟩, ⟨h5, by show w < _; omega⟩⟩
theorem wf_pre (p : Nat) : ∀ x ∈ pre p, Wf x := by
  have key : ∀ m, ∀ y ∈ reps m, y = w8 ∨ y = pu := by
    intro m
    induction m with
    | zero => intro y hy; cases hy
    | succ m ih =>
      intro y hy
      unfold reps at hy
      rcases List.mem_append.1 hy with hy | hy
      · exact ih y hy
      · simpa using hy
  intro x hm
  unfold pre at hm
  rcases List.mem_append.1 hm with hm | hm
  · rcases key p x hm with rfl | rfl
    · exact wf_plain (by decide) (by decide) (by decide) (by decide) (by decide) (by decide)
    · exact wf_plain (by decide) (by decide) (by decide) (by decide) (by decide) (by decide)
  · simp at hm
    subst hm
    exact wf_plain (by decide) (by decide) (by decide) (by decide) (by decide) (by decide)
/-- What an append behind a fresh row leaves of all that was there. -/
theorem far_new {w0 w w' : World} {v : Value} {base : Nat} {t : TypeId} {n : Nat} {xs : List Value} (f : MM.Far [] w0 w) (ho : w.ownsRow base t 4 v n xs) (hb : w0.heap.size ≤ base) (g : MM.Far v.ownBlock.toList w w') : MM.Far [] w0 w' :=
  f.trans g (fun b h1 h2 => by have := (MM.own_lt ho b (by simpa using h1)).2; omega)
set_option maxHeartbeats 16000000 in
set_option maxRecDepth 20000 in
theorem pushes_law (a0 a1 : Int) (W : World) (w0 : (Lit.int .u8 a0).wf = true) (w1 : (Lit.int .u8 a1).wf = true) (hT : TT W) :
    Calls Tryd.prog 6 #[.int .u8 a0, .int .u8 a1] W fun e w' => e = .returned (.bool true) ∧ Below W.heap.size W w' := by
  have HT := Lib.hid hT
  obtain ⟨u10, u11⟩ := u8w4 w0
  obtain ⟨u20, u21⟩ := u8w4 w1
  obtain ⟨p, hp⟩ : ∃ p : Nat, a0 % 41 = p := ⟨(a0 % 41).toNat, by omega⟩
  obtain ⟨q, hq⟩ : ∃ q : Nat, a1 % 41 = q := ⟨(a1 % 41).toNat, by omega⟩
  have hp41 : p < 41 := by omega
  have hq41 : q < 41 := by omega
  clear hT w0 w1
  go_enter Tryd.func6, Tryd.ntmps6
  go_wp2_with (first
    | (go_at_call 8
       refine (shown_any _).mono ?_
       rintro e wa ⟨rfl, hFa⟩))
  have HFa := Lib.hid hFa
  clear hFa
  (try rw [hp])
  (try rw [hq])
  have F0 : Hid (MM.Far [] wa wa) := Lib.hid (MM.Far.refl _ _)
  have HO0 : Hid (wa.ownsRow wa.heap.size 38 4 (.slice none 0 0) (2 * 0) (flatI (reps 0))) := Lib.hid (MO.none_ _ _ _ _)
  go_loopw [8, 31] (fun s8 s31 wr => ∃ i : Nat, i ≤ p ∧ s31 = num i ∧ Hid (wr.ownsRow wa.heap.size 38 4 s8 (2 * i) (flatI (reps i))) ∧ Hid (MM.Far [] wa wr)) (fun _ s31 _ => p - (intOf s31).toNat)
  case atStart => exact ⟨0, by omega, rfl, HO0, F0⟩
  case round =>
    obtain ⟨i, hi, rfl, HO, HFr⟩ := hrel
    by_cases hlt : i < p
    · have s1 := HFr.out.size
      have HA := Lib.hid (HO.out.alloc (.cells #[.int .u8 1, .int .i64 0, .int .i64 0, .int .u64 8, .int .u8 7, .int .i64 0, .int .i64 0, .int .u64 0] 38))
      have HSr := Lib.hid (src_new wr [w8, pu] [.int .u8 1, .int .i64 0, .int .i64 0, .int .u64 8, .int .u8 7, .int .i64 0, .int .i64 0, .int .u64 0] _ rfl rfl)
      have HFA := Lib.hid (HFr.out.alloc (.cells #[.int .u8 1, .int .i64 0, .int .i64 0, .int .u64 8, .int .u8 7, .int .i64 0, .int .i64 0, .int .u64 0] 38))
      go_wp2_with (first
        | (refine ins_app ?_ (.tmp 33) (.tmp 36) ?_ wa.heap.size u8 (2 * i) (reps i) ?_ HA.out (some ⟨wr.heap.size, 0, none⟩) 2 2 [w8, pu] ?_ rfl (fun h => by cases h) HSr.out (by omega) (by simp; omega) ?_
           · rfl
           · rfl
           · rfl
           · rfl
           intro v1 wG hv1 hg1))
      go_roundw
      case rel => exact ⟨i + 1, by omega, by go_num, Lib.hid hv1, Lib.hid (far_new HFA.out HA.out (Nat.le_refl _) hg1)⟩
      case measure => simp [intOf]; omega
    · obtain rfl : i = p := by omega
      have s1 := HFr.out.size
      have HA := Lib.hid (HO.out.alloc (.cells #[.int .u8 1, .int .i64 0, .int .i64 0, .int .u64 16] 38))
      have HSr := Lib.hid (src_new wr [w16] [.int .u8 1, .int .i64 0, .int .i64 0, .int .u64 16] _ rfl rfl)
      have HFA := Lib.hid (HFr.out.alloc (.cells #[.int .u8 1, .int .i64 0, .int .i64 0, .int .u64 16] 38))
      go_upto_region 9 with (first
        | (refine ins_app ?_ (.tmp 39) (.tmp 41) ?_ wa.heap.size u8 (2 * i) (reps i) ?_ HA.out (some ⟨wr.heap.size, 0, none⟩) 1 1 [w16] ?_ rfl (fun h => by cases h) HSr.out (by omega) (by simp; omega) ?_
           · rfl
           · rfl
           · rfl
           · rfl
           intro v1 w2 hv1 hg1))
      have HF2 := Lib.hid (far_new HFA.out HA.out (Nat.le_refl _) hg1)
      have hv1' : w2.ownsRow wa.heap.size 38 4 v1 (2 * i + 1) (flatI (pre i)) := hv1
      obtain ⟨A, c, rfl, -, k1, k2, k3, hS, hI⟩ := src_own hv1'
      unfold maxLen at k2
      have HS := Lib.hid hS
      have K3 := Lib.hid k3
      clear HA HSr HFA hv1 hg1 HO HFr hv1' hS hI k3
      have K9 : Hid (A = none → c = 0 ∧ 2 * i + 1 = 0) := K3
      have K10 : Hid (A = none → c = 0 ∧ 2 * i + 1 = 0) := K3
      have HE9 := Lib.hid (own_empty w2 _ rfl w2.heap.size (Nat.le_refl _))
      have HS9 := Lib.hid (HS.out.far ((MM.Far.refl [] w2).alloc (.cells #[] 38)) (by simp))
      have HF9 := Lib.hid ((MM.Far.refl [] w2).alloc (.cells #[] 38))
      go_upto_region 10 with (first
        | (refine ins_app ?_ (.tmp 43) (.tmp 44) ?_ w2.heap.size (.slice (some ⟨w2.heap.size, 0, none⟩) 0 0) 0 [] ?_ HE9.out A (2 * i + 1) c (pre i) ?_ (by first | exact pre_len _ | simp [pre_len]) K9.out HS9.out (by omega) (by simp) ?_
           · rfl
           · rfl
           · rfl
           · rfl
           intro va9 wa9 hva9 hga9
           have HFa9 := Lib.hid (far_new HF9.out HE9.out (Nat.le_refl _) hga9)
           have HA9 := Lib.hid (hva9.alloc (.cells #[.int .u8 13, .int .i64 q, .int .i64 0, .int .u64 0] 38))
           have HX9 := Lib.hid (src_new wa9 [tl q] [.int .u8 13, .int .i64 q, .int .i64 0, .int .u64 0] _ rfl rfl)
           have HFb9 := Lib.hid (HFa9.out.alloc (.cells #[.int .u8 13, .int .i64 q, .int .i64 0, .int .u64 0] 38))
           have hsz9 : w2.heap.size ≤ wa9.heap.size := HFa9.out.size
           clear hva9 hga9)
        | (refine ins_app ?_ (.tmp 45) (.tmp 48) ?_ w2.heap.size va9 (0 + (2 * i + 1)) ([] ++ (pre i)) ?_ HA9.out (some ⟨wa9.heap.size, 0, none⟩) 1 1 [tl q] ?_ rfl (fun h => by cases h) HX9.out (by omega) (by simp; omega) ?_
           · rfl
           · rfl
           · rfl
           · rfl
           intro vb9 wb9 hvb9 hgb9))
      have HG9 := Lib.hid (far_new HFb9.out HA9.out (Nat.le_refl _) hgb9)
      obtain ⟨A9, c9, rfl, hn9, k19, k29, k39, hS9, hI9⟩ := src_own (l := ([] ++ (pre i)) ++ [tl q]) hvb9
      rw [show 0 + (2 * i + 1) + 1 = 2 * i + 2 by omega] at k19 k39 ⊢
      unfold maxLen at k29
      have HSt9 := Lib.hid hS9
      have HIt9 := Lib.hid hI9
      have KK9 := Lib.hid k39
      clear hvb9 hgb9 hn9 k39 hS9 hI9 HE9 HS9 HF9 HFa9 HA9 HX9 HFb9 hsz9
      have HSc := Lib.hid (HS.out.far HG9.out (by simp))
      have HE10 := Lib.hid (own_empty wb9 _ rfl wb9.heap.size (Nat.le_refl _))
      have HS10 := Lib.hid (HSc.out.far ((MM.Far.refl [] wb9).alloc (.cells #[] 38)) (by simp))
      have HF10 := Lib.hid ((MM.Far.refl [] wb9).alloc (.cells #[] 38))
      go_upto_region 11 with (first
        | (refine ins_app ?_ (.tmp 50) (.tmp 51) ?_ wb9.heap.size (.slice (some ⟨wb9.heap.size, 0, none⟩) 0 0) 0 [] ?_ HE10.out A (2 * i + 1) c (pre i) ?_ (by first | exact pre_len _ | simp [pre_len]) K10.out HS10.out (by omega) (by simp) ?_
           · rfl
           · rfl
           · rfl
           · rfl
           intro va10 wa10 hva10 hga10
           have HFa10 := Lib.hid (far_new HF10.out HE10.out (Nat.le_refl _) hga10)
           have HA10 := Lib.hid (hva10.alloc (.cells #[.int .u8 12, .int .i64 q, .int .i64 0, .int .u64 0, .int .u8 16, .int .i64 0, .int .i64 0, .int .u64 0] 38))
           have HX10 := Lib.hid (src_new wa10 [ca q, rt] [.int .u8 12, .int .i64 q, .int .i64 0, .int .u64 0, .int .u8 16, .int .i64 0, .int .i64 0, .int .u64 0] _ rfl rfl)
           have HFb10 := Lib.hid (HFa10.out.alloc (.cells #[.int .u8 12, .int .i64 q, .int .i64 0, .int .u64 0, .int .u8 16, .int .i64 0, .int .i64 0, .int .u64 0] 38))
           have hsz10 : wb9.heap.size ≤ wa10.heap.size := HFa10.out.size
           clear hva10 hga10)
        | (refine ins_app ?_ (.tmp 52) (.tmp 56) ?_ wb9.heap.size va10 (0 + (2 * i + 1)) ([] ++ (pre i)) ?_ HA10.out (some ⟨wa10.heap.size, 0, none⟩) 2 2 [ca q, rt] ?_ rfl (fun h => by cases h) HX10.out (by omega) (by simp; omega) ?_
           · rfl
           · rfl
           · rfl
           · rfl
           intro vb10 wb10 hvb10 hgb10))
      have HG10 := Lib.hid (far_new HFb10.out HA10.out (Nat.le_refl _) hgb10)
      obtain ⟨A10, c10, rfl, hn10, k110, k210, k310, hS10, hI10⟩ := src_own (l := ([] ++ (pre i)) ++ [ca q, rt]) hvb10
      rw [show 0 + (2 * i + 1) + 2 = 2 * i + 3 by omega] at k110 k310 ⊢
      unfold maxLen at k210
      have HSt10 := Lib.hid hS10
      have HIt10 := Lib.hid hI10
      have KK10 := Lib.hid k310
      clear hvb10 hgb10 hn10 k310 hS10 hI10 HE10 HS10 HF10 HFa10 HA10 HX10 HFb10 hsz10
      have HSd := Lib.hid (HSt9.out.far HG10.out (by simp))
      have HId := Lib.hid (HIt9.out.far HG10.out (by simp))
      have K11 := KK9
      have HE11 := Lib.hid (own_empty wb10 _ rfl wb10.heap.size (Nat.le_refl _))
      have HS11 := Lib.hid (HSd.out.far ((MM.Far.refl [] wb10).alloc (.cells #[] 38)) (by simp))
      have HF11 := Lib.hid ((MM.Far.refl [] wb10).alloc (.cells #[] 38))
      go_upto_region 12 with (first
        | (refine ins_app ?_ (.tmp 58) (.tmp 59) ?_ wb10.heap.size (.slice (some ⟨wb10.heap.size, 0, none⟩) 0 0) 0 [] ?_ HE11.out A9 (2 * i + 2) c9 (([] ++ (pre i)) ++ [tl q]) ?_ (by first | exact pre_len _ | simp [pre_len]) K11.out HS11.out (by omega) (by simp) ?_
           · rfl
           · rfl
           · rfl
           · rfl
           intro va11 wa11 hva11 hga11
           have HFa11 := Lib.hid (far_new HF11.out HE11.out (Nat.le_refl _) hga11)
           have HA11 := Lib.hid (hva11.alloc (.cells #[.int .u8 16, .int .i64 0, .int .i64 0, .int .u64 0] 38))
           have HX11 := Lib.hid (src_new wa11 [rt] [.int .u8 16, .int .i64 0, .int .i64 0, .int .u64 0] _ rfl rfl)
           have HFb11 := Lib.hid (HFa11.out.alloc (.cells #[.int .u8 16, .int .i64 0, .int .i64 0, .int .u64 0] 38))
           have hsz11 : wb10.heap.size ≤ wa11.heap.size := HFa11.out.size
           clear hva11 hga11)
        | (refine ins_app ?_ (.tmp 60) (.tmp 62) ?_ wb10.heap.size va11 (0 + (2 * i + 2)) ([] ++ (([] ++ (pre i)) ++ [tl q])) ?_ HA11.out (some ⟨wa11.heap.size, 0, none⟩) 1 1 [rt] ?_ rfl (fun h => by cases h) HX11.out (by omega) (by simp; omega) ?_
           · rfl
           · rfl
           · rfl
           · rfl
           intro vb11 wb11 hvb11 hgb11))
      have HG11 := Lib.hid (far_new HFb11.out HA11.out (Nat.le_refl _) hgb11)
      obtain ⟨A11, c11, rfl, hn11, k111, k211, k311, hS11, hI11⟩ := src_own (l := ([] ++ (([] ++ (pre i)) ++ [tl q])) ++ [rt]) hvb11
      rw [show 0 + (2 * i + 2) + 1 = 2 * i + 3 by omega] at k111 k311 ⊢
      unfold maxLen at k211
      have HSt11 := Lib.hid hS11
      have HIt11 := Lib.hid hI11
      have KK11 := Lib.hid k311
      clear hvb11 hgb11 hn11 k311 hS11 hI11 HE11 HS11 HF11 HFa11 HA11 HX11 HFb11 hsz11
      have HIt9' := Lib.hid ((HIt9.out.far HG10.out (by simp)).far HG11.out (by simp))
      have HIt10' := Lib.hid (HIt10.out.far HG11.out (by simp))
      have HTw := Lib.hid (HT.out.far ((((HFa.out.trans HF2.out (by simp)).trans HG9.out (by simp)).trans HG10.out (by simp)).trans HG11.out (by simp)))
      have HFw := Lib.hid ((((HFa.out.trans HF2.out (by simp)).trans HG9.out (by simp)).trans HG10.out (by simp)).trans HG11.out (by simp))
      have wt : ∀ x ∈ pre i ++ [tl q], Wf x := by
        intro x hx
        rcases List.mem_append.1 hx with hx | hx
        · exact wf_pre i x hx
        · simp at hx; subst hx
          exact wf_plain (by decide) (by decide) (by omega) (by omega) (by decide) (by decide)
      have wc : ∀ x ∈ pre i ++ [ca q, rt], Wf x := by
        intro x hx
        rcases List.mem_append.1 hx with hx | hx
        · exact wf_pre i x hx
        · simp at hx
          rcases hx with rfl | rfl
          · exact wf_plain (by decide) (by decide) (by omega) (by omega) (by decide) (by decide)
          · exact wf_plain (by decide) (by decide) (by decide) (by decide) (by decide) (by decide)
      have wm : ∀ x ∈ (pre i ++ [tl q]) ++ [rt], Wf x := by
        intro x hx
        rcases List.mem_append.1 hx with hx | hx
        · exact wt x hx
        · simp at hx; subst hx
          exact wf_plain (by decide) (by decide) (by decide) (by decide) (by decide) (by decide)
      have mx : ∀ n, n ≤ 2 ^ 63 - 1 → n ≤ maxLen := fun n h => h
      have HC1 := Lib.hid (fun W (h : TT W) (hI : Ir W [] A9 (pre i ++ [tl q])) => check_one h W.heap.size rfl (pre i ++ [tl q]) A9 (2 * i + 2) c9 (by simp [pre_len]) (by omega) k19 (mx _ k29) wt hI)
      have HC2 := Lib.hid (fun W (h : TT W) (hI : Ir W [] A10 (pre i ++ [ca q, rt])) => check_one h W.heap.size rfl (pre i ++ [ca q, rt]) A10 (2 * i + 3) c10 (by simp [pre_len]) (by omega) k110 (mx _ k210) wc hI)
      have HC3 := Lib.hid (fun W (h : TT W) (hI : Ir W [] A11 ((pre i ++ [tl q]) ++ [rt])) => check_one h W.heap.size rfl ((pre i ++ [tl q]) ++ [rt]) A11 (2 * i + 3) c11 (by simp [pre_len]) (by omega) k111 (mx _ k211) wm hI)
      have HD := Lib.hid (fun W (hI : Ir W [] A9 (pre i ++ [tl q])) => depth_any (pre i ++ [tl q]) (2 * i + 2) (by simp [pre_len]) (by omega) 0 A9 c9 W hI)
      rw [tl_check i hp41 q] at HC1
      rw [ca_check i hp41 q] at HC2
      rw [more_check i hp41 q] at HC3
      rw [tl_depth i hp41 q] at HD
      have HXa := Lib.hid (exD_at i (2 * i + 1) (by omega))
      have HXl := Lib.hid (exD_len i)
      obtain ⟨m1, hm1⟩ : ∃ m1 : Nat, 2 * i + 1 = m1 := ⟨_, rfl⟩
      obtain ⟨tn, htn⟩ : ∃ tn : Nat, 2 * i + 2 = tn := ⟨_, rfl⟩
      obtain ⟨cn, hcn⟩ : ∃ cn : Nat, 2 * i + 3 = cn := ⟨_, rfl⟩
      rw [hm1, htn] at HC1
      rw [htn, hcn] at HC2
      rw [hcn] at HC3
      rw [htn] at HD HXl
      rw [hm1, show m1 / 2 = i by omega] at HXa
      have ht1 : (tn : Int) - 1 = (m1 : Int) := by omega
      have hc1 : (cn : Int) - 1 = (tn : Int) := by omega
      rw [htn, hcn]
      have hmt : m1 < tn := by omega
      have ht9 : tn < 1000 := by omega
      have hc9 : cn < 1000 := by omega
      clear wt wc wm mx HSt9 HSt10 HSt11 HSc HSd HId KK9 KK10 KK11 K9 K10 K11 K3 HS HG9 HG10 HG11 hm1 htn hcn HIt9 HIt10 HF2
      have FIN := Lib.hid (fun wz (f : MM.Far [] W wz) => (f.below_nil : Below W.heap.size W wz))
      rcases Nat.lt_trichotomy i q with hlq | hlq | hlq
      · rw [if_pos (.inr hlq), if_neg (by omega)] at HC1 HC2
        rw [if_neg (by omega)] at HD
        have hle : decide ((q : Int) ≤ (i : Int)) = false := decide_eq_false (by omega)
        have heq : ((i : Int) == (q : Int)) = false := by simp; omega
        go_upto_region 13 with (first
          | (go_at_call 10
             refine (HC1.out _ HTw.out HIt9'.out).mono ?_
             rintro e x1 ⟨rfl, hx1⟩))
        have X1 := Lib.hid (((MM.Far.refl [] wb11).alloc (.cells #[num 0, .slice A9 tn c9] 31)).trans hx1 (by simp))
        clear hx1
        go_upto_region 14 with (first
          | (go_at_call 10
             refine (HC2.out _ (HTw.out.far X1.out) (HIt10'.out.far X1.out (by simp))).mono ?_
             rintro e x2 ⟨rfl, hx2⟩))
        have X2 := Lib.hid (X1.out.trans (((MM.Far.refl [] x1).alloc (.cells #[num 0, .slice A10 cn c10] 31)).trans hx2 (by simp)) (by simp))
        clear hx2
        go_upto_region 15 with (first
          | (go_at_call 10
             refine (HC3.out _ (HTw.out.far X2.out) (HIt11.out.far X2.out (by simp))).mono ?_
             rintro e x3 ⟨rfl, hx3⟩))
        have X3 := Lib.hid (X2.out.trans (((MM.Far.refl [] x2).alloc (.cells #[num 0, .slice A11 cn c11] 31)).trans hx3 (by simp)) (by simp))
        clear hx3
        go_wp2_with (first
          | (go_at_call 11
             refine (HD.out _ (HIt9'.out.far X3.out (by simp))).mono ?_
             rintro e x4 ⟨v, rfl, hF4, hv, -⟩
             obtain rfl := hv rfl))
        go_ret
        exact ⟨by first | rfl | (simp; done), FIN.out _ ((HFw.out.trans X3.out (by simp)).trans hF4 (by simp))⟩
      · subst hlq
        rw [if_pos (.inl rfl), if_pos rfl] at HC1 HC2
        rw [if_pos (Nat.le_refl _)] at HD
        go_upto_region 13 with (first
          | (go_at_call 10
             refine (HC1.out _ HTw.out HIt9'.out).mono ?_
             rintro e x1 ⟨rfl, hx1⟩))
        have X1 := Lib.hid (((MM.Far.refl [] wb11).alloc (.cells #[num 0, .slice A9 tn c9] 31)).trans hx1 (by simp))
        clear hx1
        go_upto_region 14 with (first
          | (go_at_call 10
             refine (HC2.out _ (HTw.out.far X1.out) (HIt10'.out.far X1.out (by simp))).mono ?_
             rintro e x2 ⟨rfl, hx2⟩))
        have X2 := Lib.hid (X1.out.trans (((MM.Far.refl [] x1).alloc (.cells #[num 0, .slice A10 cn c10] 31)).trans hx2 (by simp)) (by simp))
        clear hx2
        go_upto_region 15 with (first
          | (go_at_call 10
             refine (HC3.out _ (HTw.out.far X2.out) (HIt11.out.far X2.out (by simp))).mono ?_
             rintro e x3 ⟨rfl, hx3⟩))
        have X3 := Lib.hid (X2.out.trans (((MM.Far.refl [] x2).alloc (.cells #[num 0, .slice A11 cn c11] 31)).trans hx3 (by simp)) (by simp))
        clear hx3
        go_wp2_with (first
          | (go_at_call 11
             refine (HD.out _ (HIt9'.out.far X3.out (by simp))).mono ?_
             rintro e x4 ⟨v, rfl, hF4, -, hv⟩
             obtain ⟨g, rfl, hr, hg⟩ := hv _ rfl
             have hcell : x4.cell? ⟨g, m1, none⟩ = some (num i) := by
               have := hr.at (ints_at (j := m1) (by rw [HXl.out]; exact hmt))
               rw [HXa.out] at this
               exact this
             have hgl := hr.lt
             rw [HXl.out]
             have HF4 := Lib.hid hF4
             clear hF4 hv hr hg))
        go_ret
        exact ⟨by first | rfl | (simp; done), FIN.out _ ((HFw.out.trans X3.out (by simp)).trans HF4.out (by simp))⟩
      · rw [if_neg (by omega), if_neg (by omega)] at HC1 HC2
        rw [if_pos (by omega)] at HD
        have hle : decide ((q : Int) ≤ (i : Int)) = true := decide_eq_true (by omega)
        have hlt2 : decide ((i : Int) < (q : Int)) = false := decide_eq_false (by omega)
        have heq : ((i : Int) == (q : Int)) = false := by simp; omega
        go_upto_region 13 with (first
          | (go_at_call 10
             refine (HC1.out _ HTw.out HIt9'.out).mono ?_
             rintro e x1 ⟨rfl, hx1⟩))
        have X1 := Lib.hid (((MM.Far.refl [] wb11).alloc (.cells #[num 0, .slice A9 tn c9] 31)).trans hx1 (by simp))
        clear hx1
        go_upto_region 14 with (first
          | (go_at_call 10
             refine (HC2.out _ (HTw.out.far X1.out) (HIt10'.out.far X1.out (by simp))).mono ?_
             rintro e x2 ⟨rfl, hx2⟩))
        have X2 := Lib.hid (X1.out.trans (((MM.Far.refl [] x1).alloc (.cells #[num 0, .slice A10 cn c10] 31)).trans hx2 (by simp)) (by simp))
        clear hx2
        go_upto_region 15 with (first
          | (go_at_call 10
             refine (HC3.out _ (HTw.out.far X2.out) (HIt11.out.far X2.out (by simp))).mono ?_
             rintro e x3 ⟨rfl, hx3⟩))
        have X3 := Lib.hid (X2.out.trans (((MM.Far.refl [] x2).alloc (.cells #[num 0, .slice A11 cn c11] 31)).trans hx3 (by simp)) (by simp))
        clear hx3
        go_wp2_with (first
          | (go_at_call 11
             refine (HD.out _ (HIt9'.out.far X3.out (by simp))).mono ?_
             rintro e x4 ⟨v, rfl, hF4, -, hv⟩
             obtain ⟨g, rfl, hr, hg⟩ := hv _ rfl
             have hcell : x4.cell? ⟨g, m1, none⟩ = some (num i) := by
               have := hr.at (ints_at (j := m1) (by rw [HXl.out]; exact hmt))
               rw [HXa.out] at this
               exact this
             have hgl := hr.lt
             rw [HXl.out]
             have HF4 := Lib.hid hF4
             clear hF4 hv hr hg))
        go_ret
        exact ⟨by first | rfl | (simp; done), FIN.out _ ((HFw.out.trans X3.out (by simp)).trans HF4.out (by simp))⟩
end KW
end Go.Proofs.YthhibcfljekibaaDoor
