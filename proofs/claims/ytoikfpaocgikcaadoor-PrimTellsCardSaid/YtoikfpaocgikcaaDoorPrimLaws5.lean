/-
  The walk of PrimTells: of a word at most one is so. Condition: the arguments' readings, the tables.
-/
import Derived.Test.YtoikfpaocgikcaaDoorPrimMade
import Derived.Deep.RegionHeld3
namespace Go.Proofs.YtoikfpaocgikcaaDoor
open Go.RowKit
set_option linter.unusedVariables false
namespace PW
open AW AL
def bs (T : List AP.Th) (x : Int) : List Bool := [WP.toIntB x, WP.toB 3 x, PP.pairB T x, PP.fnB T x, x == 2]
def op5 : List Int := [15, 16, 11, 17, 10]
def cntB : List Bool → Int
  | [] => 0
  | b :: l => (if b then 1 else 0) + cntB l
theorem cntB_snoc (l : List Bool) (b : Bool) : cntB (l ++ [b]) = cntB l + (if b then 1 else 0) := by
  induction l with
  | nil => simp [cntB]
  | cons c l ih => simp only [List.cons_append, cntB, ih]; omega
theorem bs_len (T : List AP.Th) (x : Int) : (bs T x).length = 5 := rfl
theorem bs_one (T : List AP.Th) (x : Int) : cntB (bs T x) ≤ 1 := by
  have hk : AW.kindN T x ≠ 0 → WP.toB 1 x = true := by
    intro h
    unfold AW.kindN AW.look at h
    by_cases e : WP.toB 1 x = true
    · exact e
    · rw [if_neg e] at h; exact absurd rfl h
  have h1 : WP.toIntB x = true → x % 8 = 0 := fun h => ((WP.toIntB_iff x).1 h).1
  have h3 : WP.toB 3 x = true → x % 8 = 3 := fun h => ((WP.toB_iff 3 x).1 h).2.1
  have h2 : WP.toB 1 x = true → x % 8 = 1 := fun h => ((WP.toB_iff 1 x).1 h).2.1
  have hp : PP.pairB T x = true → AW.kindN T x = 1 := fun h => by simp [PP.pairB] at h; exact h.1
  have hf : PP.fnB T x = true → AW.kindN T x = 2 ∨ AW.kindN T x = 5 := fun h => by simpa [PP.fnB] using h
  have hn : (x == 2) = true → x = 2 := fun h => by simpa using h
  have c1 := h1
  have c2 := h3
  have c3 : PP.pairB T x = true → x % 8 = 1 ∧ AW.kindN T x = 1 := fun h => ⟨h2 (hk (by have := hp h; omega)), hp h⟩
  have c4 : PP.fnB T x = true → x % 8 = 1 ∧ (AW.kindN T x = 2 ∨ AW.kindN T x = 5) := fun h => ⟨h2 (hk (by have := hf h; omega)), hf h⟩
  clear h1 h3 h2 hp hf hk
  unfold bs
  generalize WP.toIntB x = b1 at *
  generalize WP.toB 3 x = b2 at *
  generalize PP.pairB T x = b3 at *
  generalize PP.fnB T x = b4 at *
  generalize (x == 2) = b5 at *
  generalize AW.kindN T x = k at *
  cases b1 <;> cases b2 <;> cases b3 <;> cases b4 <;> cases b5 <;> first | decide | (exfalso; first | (have := c1 rfl; have := c2 rfl; omega) | (have := c1 rfl; have := c3 rfl; omega) | (have := c1 rfl; have := c4 rfl; omega) | (have := c1 rfl; have := hn rfl; omega) | (have := c2 rfl; have := c3 rfl; omega) | (have := c2 rfl; have := c4 rfl; omega) | (have := c2 rfl; have := hn rfl; omega) | (have := c3 rfl; have := c4 rfl; omega) | (have := c3 rfl; have := hn rfl; omega) | (have := c4 rfl; have := hn rfl; omega))
theorem op_is (T : List AP.Th) (x : Int) (j : Nat) (hj : j < 5) : PP.doW 200 T (op5.getD j 0) [x] = WP.boolW ((bs T x).getD j false) ∧ PP.doE 200 T (op5.getD j 0) [x] = 0 ∧ PP.doT 200 T (op5.getD j 0) [x] = T :=
  match j, hj with
  | 0, _ => do_15v 200 T x
  | 1, _ => do_16v 200 T x
  | 2, _ => do_11v 200 T x
  | 3, _ => do_17v 200 T x
  | 4, _ => do_10v 200 T x
  | n + 5, h => absurd h (by omega)
theorem take_snoc (l : List Bool) (j : Nat) (hj : j < l.length) : l.take (j + 1) = l.take j ++ [l.getD j false] := by
  rw [List.take_succ_eq_append_getElem hj, List.getD_eq_getElem?_getD, List.getElem?_eq_getElem hj]; rfl
/-- What is known at the loops' heads. -/
def Mk1 (w wr : World) (p g h : Nat) (T : List AP.Th) : Prop := Ar wr p g h 200 T ∧ MM.Far [] w wr
theorem Mk1.new {w wr w' : World} {p g h : Nat} {T : List AP.Th} (s : Mk1 w wr p g h T) (f : MM.Far [] wr w') : Mk1 w w' p g h T := ⟨s.1.far f (by simp) (by simp) (by simp), s.2.trans f (by simp)⟩
set_option maxHeartbeats 8000000 in
set_option maxRecDepth 20000 in
theorem tells_any (x : Int) (a : Option Addr) (len cap : Nat) (tl : List Ac) (w : World) (ux : WP.U x) (hz : Acs w a len cap tl) (hT : CT w) : Calls Tryd.prog 5 #[.int .u64 x, .slice a len cap] w fun e w' => e = .returned (.bool true) ∧ Below w.heap.size w w' := by
  have HT := Lib.hid hT
  have HZ := Lib.hid hz
  have U1 : Hid (∀ z ∈ [x], WP.U z) := Lib.hid (by intro z hz; simp at hz; subst hz; exact ux)
  have hle := hz.le
  have hmax := hz.max
  unfold maxLen at hmax
  clear hT hz ux
  go_enter Tryd.func5, Tryd.ntmps5
  go_wp2_with (fail)
  refine (shown_any HT.out).mono ?_
  rintro e w0 ⟨rfl, hF0⟩
  go_wp2_with (fail)
  refine (new_int w0 200 (by omega) (by omega)).mono ?_
  rintro e w1 ⟨p, g, h, rfl, hp, hg, hh, hA1, hF1⟩
  have hs : ∀ b, b ∈ [p, g, h] → b < w.heap.size → b ∈ ([] : List Nat) := by
    intro b hb; have := hF0.size; simp at hb; omega
  have HS := Lib.hid hs
  have HPG := Lib.hid (show w.heap.size ≤ p ∧ w.heap.size ≤ g ∧ w.heap.size ≤ h by have := hF0.size; omega)
  have HM0 : Hid (Mk1 w w1 p g h []) := Lib.hid ⟨hA1, hF0.trans hF1 (by simp)⟩
  clear hs hA1 hF0 hF1 hp hg hh
  go_wp2_with (fail)
  go_loopw [32] (fun s32 wr => ∃ k : Nat, k ≤ len ∧ s32 = .int .i64 k ∧ ∃ ts, Hid (Mk1 w wr p g h ts)) (fun s32 _ => len - (intOf s32).toNat)
  case atStart => exact ⟨0, by omega, rfl, [], HM0⟩
  case round =>
    obtain ⟨k, hk, rfl, ts, hM⟩ := hrel
    clear HM0
    by_cases hlt : k < len
    · have hkl : k < tl.length := by rw [HZ.out.len_]; exact hlt
      obtain ⟨tb, off, rfl, htb, hcells, hok⟩ := HZ.out.elems k _ (List.getElem?_eq_getElem hkl)
      have hc : ∀ (j : Nat) (u : Value), (tl[k]).cells[j]? = some u → wr.cell? ⟨tb, off + k * 3 + j, none⟩ = some u := by
        intro j u hu
        rw [hM.out.2.cell (p := ⟨tb, off + k * 3 + j, none⟩) htb (by simp)]
        exact hcells j u hu
      generalize tl[k] = t at *
      obtain ⟨kd, A, n2, c, fs0, bb⟩ := t
      have h0 := hc 0 _ rfl
      have h1 := hc 1 _ rfl
      have h2 := hc 2 _ rfl
      rw [Nat.add_zero] at h0
      have hIle := hok.hz.le
      have hImx := hok.hz.max
      have hInil := hok.hz.nil
      unfold maxLen at hImx
      simp only at h0 h1 h2 hIle hImx hInil
      have HI := Lib.hid hok.hz
      clear hc hcells hok hkl
      by_cases h20 : k < 20
      · obtain ⟨T, hTT⟩ : ∃ T, AW.allT 200 ts kd (fs0.take 4) = T := ⟨_, rfl⟩
        obtain ⟨m, hm⟩ : ∃ m, m = min n2 4 := ⟨_, rfl⟩
        have hm1 : m ≤ n2 := by omega
        have hm9 : m ≤ 4 := by omega
        have hfl : (fs0.take 4).length = m := by rw [List.length_take, HI.out.len_]; simp only; omega
        have hfu : ∀ x ∈ fs0.take 4, WP.U x := fun x hx => AL.u_of (HI.out.wf x (List.mem_of_mem_take hx))
        have f1 : (if (4 : Int) < (n2 : Int) then (4 : Int) else (n2 : Int)) = (m : Int) := by split <;> omega
        have f3 : min (n2 : Int) 4 = (m : Int) := by omega
        obtain ⟨bx, hbx⟩ : ∃ bx, wr.heap.size = bx := ⟨_, rfl⟩
        have HBX := Lib.hid (hbx ▸ MM.Row.new wr 34 [.int .i64 kd, .slice A n2 c, .int .u8 bb])
        have HBXE := Lib.hid hbx
        have HM1 := Lib.hid (hM.out.new ((MM.Far.refl [] wr).alloc (.cells #[.int .i64 kd, .slice A n2 c, .int .u8 bb] 34)))
        have hbn : bx ∉ [p, g, h] := by
          have := Ar.lts hM.out.1
          intro hm2
          have := this _ hm2
          omega
        clear hm hbx hM
        go_upto_region 9 with (fail)
        rw [HBXE.out]
        rw [show wr.alloc (.cells [Value.int .i64 kd, .slice A n2 c, .int .u8 bb].toArray 34) = wr.alloc (.cells #[.int .i64 kd, .slice A n2 c, .int .u8 bb] 34) from rfl] at HBX
        generalize wr.alloc (.cells #[.int .i64 kd, .slice A n2 c, .int .u8 bb] 34) = W at *
        clear h0 h1 h2
        have HAL := Lib.hid (fun (wx : World) (f : MM.Far [] W wx) => alloc_w HM1.out.1 f kd A m c (fs0.take 4) hfl (by omega) hfu hTT (src_pgh 4 HI.out (HM1.out.2.trans f (by simp)) HPG.out.1 HPG.out.2.1 HPG.out.2.2))
        have z0 := HBX.out.at (i := 0) rfl
        have z1 := HBX.out.at (i := 1) rfl
        have HXN := Lib.hid hbn
        clear hbn
        cases A with
        | none =>
          obtain rfl : c = 0 := hInil rfl
          obtain rfl : n2 = 0 := by omega
          obtain rfl : m = 0 := by omega
          have f5 : min (0 : Int) 4 = 0 := by decide
          go_region_held3 (fun w' => w'.cell? ⟨bx, 0, none⟩ = some (.int .i64 kd) ∧ w'.cell? ⟨bx, 1, none⟩ = some (.slice none 0 0)) (go_keep) (first
            | (go_at_call 12
               (with_reducible refine (HAL.out _ (by first | exact MM.Far.refl [] _ | exact (MM.Far.refl [] _).drew)).mono ?_)
               rintro e w5 ⟨rfl, hA5, hF5⟩
               have hx5 := HBX.out.far hF5 HXN.out
               have y0 := hx5.at (i := 0) rfl
               have y1 := hx5.at (i := 1) rfl
               have HA5 := Lib.hid hA5
               have HF5 := Lib.hid hF5
               clear hA5 hF5 hx5))
          go_wp2
          go_roundw
          case rel => exact ⟨k + 1, by omega, by go_num, T, Lib.hid (Mk1.new (wr := w5) ⟨HA5.out, HM1.out.2.trans HF5.out HS.out⟩ (by first | exact MM.Far.refl [] _ | exact (MM.Far.refl [] _).drew | exact (MM.Far.refl [] _).drewN _))⟩
          case measure => simp [intOf]; omega
        | some ad =>
          have g1 : (m : Int) ≤ (c : Int) := by omega
          have g2 : (0 : Int) ≤ (m : Int) := by omega
          have g3 : ((m : Int)).toNat = m := by omega
          go_region_held3 (fun w' => w'.cell? ⟨bx, 0, none⟩ = some (.int .i64 kd) ∧ w'.cell? ⟨bx, 1, none⟩ = some (.slice (some ad) n2 c)) (go_keep) (first
            | (go_at_call 12
               (with_reducible refine (HAL.out _ (by first | exact MM.Far.refl [] _ | exact (MM.Far.refl [] _).drew)).mono ?_)
               rintro e w5 ⟨rfl, hA5, hF5⟩
               have hx5 := HBX.out.far hF5 HXN.out
               have y0 := hx5.at (i := 0) rfl
               have y1 := hx5.at (i := 1) rfl
               have HA5 := Lib.hid hA5
               have HF5 := Lib.hid hF5
               clear hA5 hF5 hx5))
          go_wp2
          go_roundw
          case rel => exact ⟨k + 1, by omega, by go_num, T, Lib.hid (Mk1.new (wr := w5) ⟨HA5.out, HM1.out.2.trans HF5.out HS.out⟩ (by first | exact MM.Far.refl [] _ | exact (MM.Far.refl [] _).drew | exact (MM.Far.refl [] _).drewN _))⟩
          case measure => simp [intOf]; omega
      · go_wp2
        go_roundw
        case rel => exact ⟨k + 1, by omega, by go_num, ts, Lib.hid (hM.out.new ((MM.Far.refl [] _).alloc _))⟩
        case measure => simp [intOf]; omega
    · clear HZ
      have HOP := Lib.hid (fun j hj => op_is ts x j hj)
      have HB1 := Lib.hid (bs_one ts x)
      go_wp2_with (fail)
      have hrw := MM.Row.new wr 3 [.int .i64 15, .int .i64 16, .int .i64 11, .int .i64 17, .int .i64 10]
      obtain ⟨wb, hwb⟩ : ∃ wb, wb = wr.alloc (.cells #[.int .i64 15, .int .i64 16, .int .i64 11, .int .i64 17, .int .i64 10] 3) := ⟨_, rfl⟩
      have HMb : Hid (Mk1 w wb p g h ts) := Lib.hid (hwb ▸ hM.out.new ((MM.Far.refl [] _).alloc _))
      have hrn : wr.heap.size ∉ [p, g, h] := fun hm2 => by
        have := Ar.lts hM.out.1 _ hm2
        omega
      have HRN := Lib.hid hrn
      have HRW : Hid (MM.Row wb wr.heap.size 3 (op5.map (Value.int .i64))) := Lib.hid (hwb ▸ hrw)
      have hb0 : wr.heap.size = wr.heap.size := rfl
      obtain ⟨rb, hrb⟩ : ∃ rb, rb = wr.heap.size := ⟨_, rfl⟩
      rw [← hrb] at HRN HRW ⊢
      rw [← hwb]
      clear hrw hrn hM hrb hwb hb0 hk hlt
      go_loopw [10, 53] (fun s10 s53 wx => ∃ j : Nat, j ≤ 5 ∧ s53 = .int .i64 (j : Int) ∧ s10 = .int .i64 (cntB ((bs ts x).take j)) ∧ Hid (Mk1 w wx p g h ts ∧ MM.Row wx rb 3 (op5.map (Value.int .i64)))) (fun _ s53 _ => 5 - (intOf s53).toNat)
      case atStart => exact ⟨0, by omega, rfl, rfl, Lib.hid ⟨HMb.out, HRW.out⟩⟩
      case round =>
        clear HMb HRW
        obtain ⟨j, hj, rfl, rfl, hX⟩ := hrel
        by_cases hlj : j < 5
        · obtain ⟨d1, d2, d3⟩ := HOP.out j hlj
          have hcell := hX.out.2.at (i := j) (v := .int .i64 (op5.getD j 0)) (by
            rw [List.getElem?_map, List.getElem?_eq_getElem (show j < op5.length from hlj), List.getD_eq_getElem?_getD, List.getElem?_eq_getElem (show j < op5.length from hlj)]; rfl)
          have HSn := Lib.hid (take_snoc (bs ts x) j hlj)
          have HCn := Lib.hid (cntB_snoc ((bs ts x).take j) ((bs ts x).getD j false))
          have hc0 : 0 ≤ cntB ((bs ts x).take j) ∧ cntB ((bs ts x).take j) ≤ j := by
            have hgen : ∀ l : List Bool, 0 ≤ cntB l ∧ cntB l ≤ l.length := by
              intro l
              induction l with
              | nil => simp [cntB]
              | cons b l ih => simp only [cntB, List.length_cons]; split <;> omega
            have := hgen ((bs ts x).take j)
            rw [List.length_take, bs_len] at this
            omega
          generalize cntB ((bs ts x).take j) = cn at *
          generalize (bs ts x).getD j false = bb at *
          generalize op5.getD j 0 = op at *
          have HD := Lib.hid (do_new (HT.out.far hX.out.1.2) hX.out.1.1 op [x] 1 1 _ _ _ rfl (by omega) U1.out d1 d2 d3)
          clear d1 d2 d3
          obtain ⟨hc1, hc2⟩ := hc0
          cases bb
          · rw [show WP.boolW false = 10 from rfl] at HD
            go_wp2_with (go_at_call 14; refine HD.out.mono ?_; rintro e w2 ⟨rfl, hA2, hF2⟩; have HA2 := Lib.hid hA2; have HF2 := Lib.hid hF2; clear hA2 hF2)
            go_roundw
            case rel => exact ⟨j + 1, by omega, by go_num, by rw [HSn.out, HCn.out]; first | (simp; done) | go_num, Lib.hid ⟨⟨HA2.out, hX.out.1.2.trans HF2.out HS.out⟩, hX.out.2.far HF2.out HRN.out⟩⟩
            case measure => simp [intOf]; omega
          · rw [show WP.boolW true = 18 from rfl] at HD
            go_wp2_with (go_at_call 14; refine HD.out.mono ?_; rintro e w2 ⟨rfl, hA2, hF2⟩; have HA2 := Lib.hid hA2; have HF2 := Lib.hid hF2; clear hA2 hF2)
            go_roundw
            case rel => exact ⟨j + 1, by omega, by go_num, by rw [HSn.out, HCn.out]; first | (simp; done) | go_num, Lib.hid ⟨⟨HA2.out, hX.out.1.2.trans HF2.out HS.out⟩, hX.out.2.far HF2.out HRN.out⟩⟩
            case measure => simp [intOf]; omega
        · obtain rfl : j = 5 := by omega
          have hcb : cntB ((bs ts x).take 5) ≤ 1 := HB1.out
          generalize cntB ((bs ts x).take 5) = cn at *
          obtain ⟨⟨hA, F2⟩, _⟩ := hX.out
          clear hX HB1 HOP
          obtain ⟨b1, b2, b3⟩ := do_9v 200 ts x
          obtain ⟨c1, c2, c3⟩ := do_9v 200 ts (WP.boolW (x == 10))
          obtain ⟨r, hr⟩ : ∃ r, (x == 10) = r := ⟨_, rfl⟩
          rw [hr] at b1 c1
          rw [hr] at c2 c3
          have U3 : Hid (∀ z ∈ [WP.boolW r], WP.U z) := Lib.hid (by intro z hz; simp at hz; subst hz; exact WP.boolW_u r)
          have hcc : WP.boolW (WP.boolW r == 10) = WP.boolW (!r) := by cases r <;> rfl
          rw [hcc] at c1
          have HD2 := Lib.hid (And.intro b1 (And.intro b2 b3))
          have HD3 := Lib.hid (And.intro c1 (And.intro c2 c3))
          clear b1 b2 b3 c1 c2 c3 hcc
          go_wp2_with (fail)
          refine (do_new (HT.out.far F2) hA 9 [x] 1 1 _ 0 ts rfl (by omega) U1.out HD2.out.1 HD2.out.2.1 HD2.out.2.2).mono ?_
          rintro e w3 ⟨rfl, hA3, hF3⟩
          have F3 := F2.trans hF3 HS.out
          clear hA F2 hF3
          go_wp2_with (fail)
          refine (do_new (HT.out.far F3) hA3 9 [WP.boolW r] 1 1 _ 0 ts rfl (by omega) U3.out HD3.out.1 HD3.out.2.1 HD3.out.2.2).mono ?_
          rintro e w4 ⟨rfl, hA4, hF4⟩
          have HF4 := Lib.hid (F3.trans hF4 HS.out)
          clear hA3 F3 hF4 hA4 HD2 HD3 U3
          cases r
          · rw [show WP.boolW false = 10 from rfl, show WP.boolW (!false) = 18 from rfl]
            go_wp2_with (fail)
            go_ret
            exact ⟨rfl, HF4.out.below_nil⟩
          · rw [show WP.boolW true = 18 from rfl, show WP.boolW (!true) = 10 from rfl]
            go_wp2_with (fail)
            go_ret
            exact ⟨rfl, HF4.out.below_nil⟩
end PW
end Go.Proofs.YtoikfpaocgikcaaDoor
