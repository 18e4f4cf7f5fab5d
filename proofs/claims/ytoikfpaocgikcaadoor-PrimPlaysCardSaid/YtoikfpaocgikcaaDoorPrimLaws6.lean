/-
  The walk of PrimPlays: whatever is done to words, what comes of it is the document's. Condition: the arguments' readings, the tables.
-/
import Derived.Test.YtoikfpaocgikcaaDoorPrimPls
import Derived.Deep.RegionHeld3
import Derived.Deep.QuietTactic
namespace Go.Proofs.YtoikfpaocgikcaaDoor
open Go.RowKit
set_option linter.unusedVariables false
namespace PW
open AW AL
theorem u16_of {x : Int} (h : (Lit.int .u16 x).wf = true) : 0 ≤ x ∧ x ≤ 65535 := by
  simp [Lit.wf, IntKind.min, IntKind.max, IntKind.signed, IntKind.bits] at h
  omega
theorem slice_d {ad : Option Addr} {a b c : Nat} (h : a = b) : Value.slice ad a c = .slice ad b c := by rw [h]
set_option maxHeartbeats 16000000 in
set_option maxRecDepth 20000 in
theorem plays_any (z : Int) (a : Option Addr) (len cap : Nat) (tl : List Ac) (b : Option Addr) (lenb capb : Nat) (ul : List Ac) (w : World) (uz : (Lit.int .u16 z).wf = true) (hz : Acs w a len cap tl) (hy : Acs w b lenb capb ul) (hT : CT w) :
    Calls Tryd.prog 3 #[.int .u16 z, .slice a len cap, .slice b lenb capb] w fun e w' => e = .returned (.bool true) ∧ Below w.heap.size w w' := by
  have HT := Lib.hid hT
  have HZ := Lib.hid hz
  have HY := Lib.hid hy
  have hle := hz.le
  have hmax := hz.max
  have hle2 := hy.le
  have hmax2 := hy.max
  unfold maxLen at hmax hmax2
  obtain ⟨z0, z1⟩ := u16_of uz
  obtain ⟨n, hn⟩ : ∃ n : Nat, z % 1024 + 1 = n := ⟨(z % 1024 + 1).toNat, by omega⟩
  have hn1 : 1 ≤ n := by omega
  have hn2 : n ≤ 1024 := by omega
  clear hT hz hy uz
  go_enter Tryd.func3, Tryd.ntmps3
  go_wp2_with (fail)
  refine (shown_any HT.out).mono ?_
  rintro e w0 ⟨rfl, hF0⟩
  go_wp2_with (fail)
  refine (new_ok w0 n hn1 (by omega)).mono ?_
  rintro e w1 ⟨p, g, h, rfl, hp, hg, hh, hA1, hF1⟩
  go_wp2_with (fail)
  refine (RW.rnew_ok w1 0 n hn1 (by omega)).mono ?_
  rintro e w2 ⟨q, rfl, hq, hR2, hF2⟩
  obtain ⟨base, hbase⟩ : ∃ base, w2.heap.size = base := ⟨_, rfl⟩
  have HLW : Hid (AL.Lay w base base p g h q) := Lib.hid (by
    have s0 := hF0.size
    have s1 := hF1.size
    have s2 := hF2.size
    have p1 := hA1.head.lt
    have p2 := hA1.words.lt
    have p3 := hA1.kinds.lt
    have q1 := hR2.head.lt
    exact ⟨by omega, by omega, by omega, by omega, by omega, by omega, by omega, by omega, Nat.le_refl _, by omega, by omega, by omega⟩)
  have HM0 : Hid (Mk w base p g h q n [] w2) := Lib.hid ⟨hA1.far hF2 (by simp) (by simp) (by simp), ⟨.slice none 0 0, [], hR2.ok, hR2.head, MO.none_ _ _ _ _, MN.Kids.nil _ _ _⟩, (hF0.trans hF1 (by simp)).trans hF2 (by simp), by omega⟩
  clear hbase hF0 hA1 hF1 hR2 hF2 hp hg hh hq hn
  go_wp2_with (fail)
  go_loopw [52] (fun s52 wr => ∃ k : Nat, k ≤ len ∧ s52 = .int .i64 k ∧ ∃ ts, Hid (Mk w base p g h q n ts wr)) (fun s52 _ => len - (intOf s52).toNat)
  case atStart => exact ⟨0, by omega, rfl, [], HM0⟩
  case round =>
    obtain ⟨k, hk, rfl, ts, hM⟩ := hrel
    clear HM0
    by_cases hlt : k < len
    · have hkl : k < tl.length := by rw [HZ.out.len_]; exact hlt
      obtain ⟨tb, off, rfl, htb, hcells, hok⟩ := HZ.out.elems k _ (List.getElem?_eq_getElem hkl)
      have hc : ∀ (j : Nat) (u : Value), (tl[k]).cells[j]? = some u → wr.cell? ⟨tb, off + k * 3 + j, none⟩ = some u := by
        intro j u hu
        rw [hM.out.far.cell (p := ⟨tb, off + k * 3 + j, none⟩) htb (by simp)]
        exact hcells j u hu
      generalize tl[k] = t at *
      obtain ⟨kd, A, n2, c, fs0, bb⟩ := t
      have h0 := hc 0 _ rfl
      have h1 := hc 1 _ rfl
      have h2 := hc 2 _ rfl
      rw [Nat.add_zero] at h0
      have hIle := hok.hz.le
      have hImx := hok.hz.max
      have hInil := hok.hz.nil
      unfold maxLen at hImx
      simp only at h0 h1 h2 hIle hImx hInil
      have HI := Lib.hid hok.hz
      clear hc hcells hok hkl
      by_cases h20 : k < 20
      · obtain ⟨T, hTT⟩ : ∃ T, AW.allT n ts kd (fs0.take 4) = T := ⟨_, rfl⟩
        obtain ⟨m, hm⟩ : ∃ m, m = min n2 4 := ⟨_, rfl⟩
        have hm1 : m ≤ n2 := by omega
        have hm9 : m ≤ 4 := by omega
        have hfl : (fs0.take 4).length = m := by rw [List.length_take, HI.out.len_]; simp only; omega
        have hfu : ∀ x ∈ fs0.take 4, WP.U x := fun x hx => AL.u_of (HI.out.wf x (List.mem_of_mem_take hx))
        have f1 : (if (4 : Int) < (n2 : Int) then (4 : Int) else (n2 : Int)) = (m : Int) := by split <;> omega
        have f3 : min (n2 : Int) 4 = (m : Int) := by omega
        obtain ⟨bx, hbx⟩ : ∃ bx, wr.heap.size = bx := ⟨_, rfl⟩
        have HBX := Lib.hid (hbx ▸ MM.Row.new wr 34 [.int .i64 kd, .slice A n2 c, .int .u8 bb])
        have HBXE := Lib.hid hbx
        have HM1 := Lib.hid (hM.out.new ((MM.Far.refl [] wr).alloc (.cells #[.int .i64 kd, .slice A n2 c, .int .u8 bb] 34)))
        have hbb : base ≤ bx := by have := hM.out.size; omega
        clear hm hbx hM
        go_upto_region 11 with (fail)
        rw [HBXE.out]
        rw [show wr.alloc (.cells [Value.int .i64 kd, .slice A n2 c, .int .u8 bb].toArray 34) = wr.alloc (.cells #[.int .i64 kd, .slice A n2 c, .int .u8 bb] 34) from rfl] at HBX
        generalize wr.alloc (.cells #[.int .i64 kd, .slice A n2 c, .int .u8 bb] 34) = W at *
        clear h0 h1 h2
        have HAL := Lib.hid (fun (wx : World) (f : MM.Far [] W wx) => alloc_w HM1.out.ar f kd A m c (fs0.take 4) hfl (by omega) hfu hTT (src_pgh 4 HI.out (HM1.out.far.trans f (by simp)) HLW.out.wp HLW.out.wg HLW.out.wh))
        have hxn : bx ∉ [p, g, h] := by
          have h1 := HLW.out.pB; have h2 := HLW.out.gB; have h3 := HLW.out.hB
          simp only [List.mem_cons, List.not_mem_nil, or_false]
          omega
        have hxq : bx ≠ q := by have h1 := HLW.out.qB; omega
        have z0 := HBX.out.at (i := 0) rfl
        have z1 := HBX.out.at (i := 1) rfl
        have HXN := Lib.hid hxn
        have HXQ := Lib.hid hxq
        clear hxn hxq hbb
        cases A with
        | none =>
          obtain rfl : c = 0 := hInil rfl
          obtain rfl : n2 = 0 := by omega
          obtain rfl : m = 0 := by omega
          have f5 : min (0 : Int) 4 = 0 := by decide
          go_region_held3 (fun w' => w'.cell? ⟨bx, 0, none⟩ = some (.int .i64 kd) ∧ w'.cell? ⟨bx, 1, none⟩ = some (.slice none 0 0)) (go_keep) (first
            | (go_at_call 12
               (with_reducible refine (HAL.out _ (by first | exact MM.Far.refl [] _ | exact (MM.Far.refl [] _).drew)).mono ?_)
               rintro e w5 ⟨rfl, hA5, hF5⟩
               have hx5 := HBX.out.far hF5 HXN.out
               have y0 := hx5.at (i := 0) rfl
               have y1 := hx5.at (i := 1) rfl
               have HA5 := Lib.hid hA5
               have HF5 := Lib.hid hF5
               have HX5 := Lib.hid hx5
               clear hA5 hF5 hx5))
          obtain ⟨vv, hvv, hRR⟩ := HM1.out.rr
          have HRR5 := Lib.hid (AL.rr_a HLW.out hRR HF5.out)
          have HFW5 := Lib.hid (AL.far_a HLW.out HM1.out.far HF5.out)
          have hsz5 : base ≤ w5.heap.size := by have := HF5.out.size; have := HM1.out.size; omega
          have HSZ5 := Lib.hid hsz5
          have HRL := Lib.hid (fun (wx : World) (f : MM.Far [] w5 wx) => ralloc_w HRR5.out HSZ5.out f kd none 0 0 (fs0.take 4) hfl (by omega) hfu hTT (fun _ => ⟨rfl, rfl⟩) (AL.take_src HI.out (HFW5.out.trans f (by simp)) 4))
          clear hRR hsz5
          go_wp2_with (fail)
          go_region_held3 (fun w' => w'.cell? ⟨bx, 0, none⟩ = some (.int .i64 kd) ∧ w'.cell? ⟨bx, 1, none⟩ = some (.slice none 0 0)) (go_keep) (first
            | (go_at_call 13
               (with_reducible refine (HRL.out _ (by first | exact MM.Far.refl [] _ | exact (MM.Far.refl [] _).drew | exact ((MM.Far.refl [] _).drew).drew)).mono ?_)
               rintro e w6 ⟨rfl, v6, hs6, hR6, hF6⟩
               have hx6 := row_fr HX5.out HXQ.out hF6
               have y0 := hx6.at (i := 0) rfl
               have y1 := hx6.at (i := 1) rfl
               have HR6 := Lib.hid hR6
               have HF6 := Lib.hid hF6
               clear hR6 hF6 hx6))
          go_wp2
          go_roundw
          case rel => exact ⟨k + 1, by omega, by go_num, T, Lib.hid (Mk.new (Mk.both HLW.out HM1.out HA5.out HF5.out HR6.out HF6.out) (by first | exact MM.Far.refl [] _ | exact (MM.Far.refl [] _).drew | exact (MM.Far.refl [] _).drewN _))⟩
          case measure => simp [intOf]; omega
        | some ad =>
          have g1 : (m : Int) ≤ (c : Int) := by omega
          have g2 : (0 : Int) ≤ (m : Int) := by omega
          have g3 : ((m : Int)).toNat = m := by omega
          go_region_held3 (fun w' => w'.cell? ⟨bx, 0, none⟩ = some (.int .i64 kd) ∧ w'.cell? ⟨bx, 1, none⟩ = some (.slice (some ad) n2 c)) (go_keep) (first
            | (go_at_call 12
               (with_reducible refine (HAL.out _ (by first | exact MM.Far.refl [] _ | exact (MM.Far.refl [] _).drew)).mono ?_)
               rintro e w5 ⟨rfl, hA5, hF5⟩
               have hx5 := HBX.out.far hF5 HXN.out
               have y0 := hx5.at (i := 0) rfl
               have y1 := hx5.at (i := 1) rfl
               have HA5 := Lib.hid hA5
               have HF5 := Lib.hid hF5
               have HX5 := Lib.hid hx5
               clear hA5 hF5 hx5))
          obtain ⟨vv, hvv, hRR⟩ := HM1.out.rr
          have HRR5 := Lib.hid (AL.rr_a HLW.out hRR HF5.out)
          have HFW5 := Lib.hid (AL.far_a HLW.out HM1.out.far HF5.out)
          have hsz5 : base ≤ w5.heap.size := by have := HF5.out.size; have := HM1.out.size; omega
          have HSZ5 := Lib.hid hsz5
          have HRL := Lib.hid (fun (wx : World) (f : MM.Far [] w5 wx) => ralloc_w HRR5.out HSZ5.out f kd (some ad) m c (fs0.take 4) hfl (by omega) hfu hTT (fun e => by cases e) (AL.take_src HI.out (HFW5.out.trans f (by simp)) 4))
          clear hRR hsz5
          go_wp2_with (fail)
          go_region_held3 (fun w' => w'.cell? ⟨bx, 0, none⟩ = some (.int .i64 kd) ∧ w'.cell? ⟨bx, 1, none⟩ = some (.slice (some ad) n2 c)) (go_keep) (first
            | (go_at_call 13
               (with_reducible refine (HRL.out _ (by first | exact MM.Far.refl [] _ | exact (MM.Far.refl [] _).drew | exact ((MM.Far.refl [] _).drew).drew)).mono ?_)
               rintro e w6 ⟨rfl, v6, hs6, hR6, hF6⟩
               have hx6 := row_fr HX5.out HXQ.out hF6
               have y0 := hx6.at (i := 0) rfl
               have y1 := hx6.at (i := 1) rfl
               have HR6 := Lib.hid hR6
               have HF6 := Lib.hid hF6
               clear hR6 hF6 hx6))
          go_wp2
          go_roundw
          case rel => exact ⟨k + 1, by omega, by go_num, T, Lib.hid (Mk.new (Mk.both HLW.out HM1.out HA5.out HF5.out HR6.out HF6.out) (by first | exact MM.Far.refl [] _ | exact (MM.Far.refl [] _).drew | exact (MM.Far.refl [] _).drewN _))⟩
          case measure => simp [intOf]; omega
      · go_wp2
        go_roundw
        case rel => exact ⟨k + 1, by omega, by go_num, ts, Lib.hid (hM.out.new ((MM.Far.refl [] _).alloc _))⟩
        case measure => simp [intOf]; omega
    · clear HZ
      go_wp2_with (fail)
      go_loopw [15, 84] (fun s15 s84 wr => ∃ k : Nat, k ≤ lenb ∧ s84 = .int .i64 k ∧ ∃ y ts, s15 = .int .u64 y ∧ Hid (WP.U y ∧ Mk w base p g h q n ts wr)) (fun _ s84 _ => lenb - (intOf s84).toNat)
      case atStart => exact ⟨0, by omega, rfl, 2, ts, rfl, Lib.hid ⟨⟨by omega, by omega⟩, hM.out⟩⟩
      case round =>
        clear hM hk hlt
        obtain ⟨k, hk, rfl, y, ts, rfl, hX⟩ := hrel
        have hM : Hid (Mk w base p g h q n ts wr) := Lib.hid hX.out.2
        have HUY : Hid (WP.U y) := Lib.hid hX.out.1
        clear hX
        by_cases hlt : k < lenb
        · have hkl : k < ul.length := by rw [HY.out.len_]; exact hlt
          obtain ⟨tb, off, rfl, htb, hcells, hok⟩ := HY.out.elems k _ (List.getElem?_eq_getElem hkl)
          have hc : ∀ (j : Nat) (u : Value), (ul[k]).cells[j]? = some u → wr.cell? ⟨tb, off + k * 3 + j, none⟩ = some u := by
            intro j u hu
            rw [hM.out.far.cell (p := ⟨tb, off + k * 3 + j, none⟩) htb (by simp)]
            exact hcells j u hu
          generalize ul[k] = t at *
          obtain ⟨kd, A, n2, c, fs0, bb⟩ := t
          have h0 := hc 0 _ rfl
          have h1 := hc 1 _ rfl
          have h2 := hc 2 _ rfl
          rw [Nat.add_zero] at h0
          have hIle := hok.hz.le
          have hImx := hok.hz.max
          have hInil := hok.hz.nil
          unfold maxLen at hImx
          obtain ⟨b0, b1⟩ := u8_of hok.hb
          simp only at h0 h1 h2 hIle hImx hInil b0 b1
          have HI := Lib.hid hok.hz
          clear hc hcells hok hkl
          by_cases h80 : k < 80
          · obtain ⟨m, hm⟩ : ∃ m, m = min n2 4 := ⟨_, rfl⟩
            have hm1 : m ≤ n2 := by omega
            have hm4 : m ≤ 4 := by omega
            obtain ⟨bx, hbx⟩ : ∃ bx, wr.heap.size = bx := ⟨_, rfl⟩
            have HBX := Lib.hid (hbx ▸ MM.Row.new wr 34 [.int .i64 kd, .slice A n2 c, .int .u8 bb])
            have HBXE := Lib.hid hbx
            have HM1 := Lib.hid (hM.out.new ((MM.Far.refl [] wr).alloc (.cells #[.int .i64 kd, .slice A n2 c, .int .u8 bb] 34)))
            have hbb : base ≤ bx := by have := hM.out.size; omega
            clear hbx hM
            go_upto_region 20 with (fail)
            rw [HBXE.out]
            rw [show wr.alloc (.cells [Value.int .i64 kd, .slice A n2 c, .int .u8 bb].toArray 34) = wr.alloc (.cells #[.int .i64 kd, .slice A n2 c, .int .u8 bb] 34) from rfl] at HBX
            generalize wr.alloc (.cells #[.int .i64 kd, .slice A n2 c, .int .u8 bb] 34) = W at *
            clear h0 h1 h2
            have hxn : bx ∉ [p, g, h] := by
              have h1 := HLW.out.pB; have h2 := HLW.out.gB; have h3 := HLW.out.hB
              simp only [List.mem_cons, List.not_mem_nil, or_false]
              omega
            have hxq : bx ≠ q := by have h1 := HLW.out.qB; omega
            have y0 := HBX.out.at (i := 0) rfl
            have y1 := HBX.out.at (i := 1) rfl
            have HXN := Lib.hid hxn
            have HXQ := Lib.hid hxq
            clear hxn hxq hbb
            go_cut [97, 98, 99] (fun s97 s98 s99 wc => s97 = .slice A m c ∧ s98 = .int .i64 m ∧ s99 = .int .i64 0 ∧ wc = W)
            case first =>
              cases A with
              | none =>
                obtain rfl : c = 0 := hInil rfl
                obtain rfl : n2 = 0 := by omega
                obtain rfl : m = 0 := by omega
                clear hm
                go_wp2
                go_meet
                exact ⟨rfl, rfl, rfl, rfl⟩
              | some ad =>
                by_cases h20 : n2 ≤ 4
                · obtain rfl : m = n2 := by omega
                  clear hm
                  go_wp2
                  go_meet
                  exact ⟨slice_d (by omega), by go_num, rfl, rfl⟩
                · obtain rfl : m = 4 := by omega
                  clear hm
                  go_wp2
                  go_meet
                  exact ⟨slice_d (by omega), by go_num, rfl, rfl⟩
            case rest =>
              obtain ⟨rfl, rfl, rfl, hwc⟩ := hcut
              subst hwc
              have HC : Hid (∀ i, i < m → ∃ b off, A = some ⟨b, off, none⟩ ∧ WP.U (fs0.getD i 0) ∧ ∀ wr, MM.Far [] wc wr → wr.cell? ⟨b, off + i, none⟩ = some (.int .u64 (fs0.getD i 0))) := Lib.hid (by
                intro i hi
                obtain ⟨b, off, e, _⟩ := cell_at HI.out (MM.Far.refl [] w) i (show i < n2 by omega)
                refine ⟨b, off, e, ?_, fun wr f => ?_⟩
                · have hil : i < fs0.length := by have := HI.out.len_; simp only at this; omega
                  have := HI.out.wf (fs0.getD i 0) (by simp [List.getD, List.getElem?_eq_getElem hil])
                  exact u_of this
                · obtain ⟨b', off', e', h'⟩ := cell_at HI.out (HM1.out.far.trans f (by simp)) i (show i < n2 by omega)
                  rw [e] at e'
                  injection e' with e'
                  injection e' with e1 e3
                  subst e1; subst e3
                  exact h')
              clear hm HI hInil y0 y1
              go_wp2_with (fail)
              go_loopw [18, 99] (fun s18 s99 wr => ∃ j : Nat, j ≤ m ∧ s99 = .int .i64 j ∧ Hid (Gat wc.heap.size wc wr s18 j)) (fun _ s99 _ => m - (intOf s99).toNat)
              case atStart => exact ⟨0, by omega, rfl, Lib.hid ⟨[], rfl, by simp, MO.none_ _ _ _ _, MM.Far.refl _ _⟩⟩
              case round =>
                obtain ⟨j, hj, rfl, hG⟩ := hrel
                by_cases hjm : j < m
                · obtain ⟨b2, off2, rfl, hu, hc0⟩ := HC.out j hjm
                  obtain ⟨xs, hxl, hxu, hown, hFr⟩ := hG.out
                  have hc := hc0 _ hFr
                  have hx2 := (HBX.out.far hFr (by simp)).at (i := 2) rfl
                  have hj4 : j = 0 ∨ j = 1 ∨ j = 2 ∨ j = 3 := by omega
                  have HG := Lib.hid (And.intro hxl (And.intro hxu (And.intro hown hFr)))
                  clear hG hxl hxu hown hFr hc0
                  obtain ⟨r, hr⟩ : ∃ r, (bits .and .u8 (bb / 2 ^ j) 1 == 1) = r := ⟨_, rfl⟩
                  generalize fs0.getD j 0 = z3 at *
                  have HU := Lib.hid hu
                  clear hu
                  cases r
                  · go_wp2_with (first
                      | (refine app ?_ (.tmp 111) (.tmp 113) ?_ wc.heap.size u18 j xs ?_ (some ⟨wr.heap.size, 0, none⟩) 1 1 [z3] ?_ (HG.out.2.2.1.alloc _) rfl (fun h => by cases h) [] (MM.Src.row (MM.Row.new _ _ [.int .u64 z3]) (by simp) _ (fun j u hu => hu)) (by omega) (by have := HG.out.2.2.2.size; simp; omega) ?_
                         · rfl
                         · rfl
                         · rfl
                         · rfl
                         intro v1 wG hv1 hg1 hat1
                         have HG1 : Hid (Gat wc.heap.size wc wG v1 (j + 1)) := Lib.hid (Gat.snoc HG.out.1 HG.out.2.1 HG.out.2.2.1 HG.out.2.2.2 HU.out hv1 hg1)
                         clear hv1 hg1 hat1))
                    go_roundw
                    case rel => exact ⟨j + 1, by omega, by go_num, HG1⟩
                    case measure => simp [intOf]; omega
                  · go_wp2_with (first
                      | (refine app ?_ (.tmp 111) (.tmp 113) ?_ wc.heap.size u18 j xs ?_ (some ⟨wr.heap.size, 0, none⟩) 1 1 [y] ?_ (HG.out.2.2.1.alloc _) rfl (fun h => by cases h) [] (MM.Src.row (MM.Row.new _ _ [.int .u64 y]) (by simp) _ (fun j u hu => hu)) (by omega) (by have := HG.out.2.2.2.size; simp; omega) ?_
                         · rfl
                         · rfl
                         · rfl
                         · rfl
                         intro v1 wG hv1 hg1 hat1
                         have HG1 : Hid (Gat wc.heap.size wc wG v1 (j + 1)) := Lib.hid (Gat.snoc HG.out.1 HG.out.2.1 HG.out.2.2.1 HG.out.2.2.2 HUY.out hv1 hg1)
                         clear hv1 hg1 hat1))
                    go_roundw
                    case rel => exact ⟨j + 1, by omega, by go_num, HG1⟩
                    case measure => simp [intOf]; omega
                · obtain rfl : j = m := by omega
                  obtain ⟨xs, hxl, hxu, hown, hFr⟩ := hG.out
                  have hwcb : base ≤ wc.heap.size := HM1.out.size
                  have hMr := HM1.out.new hFr
                  have hlow : ∀ b, u18.ownBlock = some b → b ∉ [p, g, h] ∧ b ≠ q := fun b hb => by
                    have h0 := (MM.own_lt hown b hb).2
                    have h1 := HLW.out.pB; have h2 := HLW.out.gB; have h3 := HLW.out.hB; have h4 := HLW.out.qB
                    refine ⟨?_, by omega⟩
                    simp only [List.mem_cons, List.not_mem_nil, or_false]
                    omega
                  obtain ⟨A3, c3, e3, hnil3, hlc3, hcm3, hsrc3, _⟩ := MO.form hown
                  subst e3
                  have hD := do_any (HT.out.far hMr.far) hMr.ar kd A3 c3 xs (by omega) hxu (hsrc3 _ (fun b hb => (hlow b hb).1))
                  rw [hxl] at hD
                  have huW := doW_u hMr.ar.ok kd xs
                  obtain ⟨T, hTT⟩ : ∃ T, PP.doT n ts kd xs = T := ⟨_, rfl⟩
                  obtain ⟨vW, hvW⟩ : ∃ vW, PP.doW n ts kd xs = vW := ⟨_, rfl⟩
                  obtain ⟨vE, hvE⟩ : ∃ vE, PP.doE n ts kd xs = vE := ⟨_, rfl⟩
                  rw [hTT, hvW, hvE] at hD
                  rw [hvW] at huW
                  have HUW := Lib.hid huW
                  have y0 := (HBX.out.far hFr (by simp)).at (i := 0) rfl
                  have HD := Lib.hid hD
                  have HX3 := Lib.hid (HBX.out.far hFr (by simp))
                  have HMr := Lib.hid hMr
                  have HT3 := Lib.hid (And.intro hTT (And.intro hvW hvE))
                  have HOwn := Lib.hid hown
                  have HLow := Lib.hid hlow
                  have HXU := Lib.hid hxu
                  have HXL := Lib.hid hxl
                  clear hD hMr hTT hvW hvE huW hown hlow hsrc3 hxu hFr hG HC hwcb hxl
                  go_wp2_with (fail)
                  refine HD.out.mono ?_
                  rintro e w3 ⟨rfl, hA3, hF3⟩
                  have hx3 := HX3.out.far hF3 HXN.out
                  have hown3 := MM.own_far HOwn.out hF3 (fun b hb => (HLow.out b hb).1)
                  obtain ⟨A4, c4, e4, hnil4, _, _, hsrc4, hcase4⟩ := MO.form hown3
                  cases e4
                  obtain ⟨vv, hvv, hRR⟩ := HMr.out.rr
                  have hRR3 := AL.rr_a HLW.out hRR hF3
                  have hsz3 : base ≤ w3.heap.size := by have := hF3.size; have := HMr.out.size; omega
                  have hD4 := rdo_any hRR3 hsz3 kd A3 c3 xs (by rw [HXL.out]; omega) HXU.out (hsrc4 _ (fun b hb hm => by cases hm))
                  rw [HXL.out, HT3.out.1, HT3.out.2.1, HT3.out.2.2] at hD4
                  have HD4 := Lib.hid hD4
                  have HA3 := Lib.hid hA3
                  have HF3 := Lib.hid hF3
                  have y3 := hx3.at (i := 0) rfl
                  clear y0 hx3 hown3 hRR hRR3 hD4 hA3 hF3 hsrc4 hcase4 hnil4 HD HX3
                  go_wp2_with (fail)
                  refine HD4.out.mono ?_
                  rintro e w4 ⟨rfl, v4, hs4, hR4, hF4⟩
                  have HMk := Lib.hid (Mk.both HLW.out HMr.out HA3.out HF3.out hR4 hF4)
                  have HA6 := Lib.hid (fun (d : Nat) => (HMk.out.new ((MM.Far.refl [] w4).drewN d)).ar)
                  have r1 := hR4.head.at (i := 1) rfl
                  clear hR4 hF4 HD4 HA3 HF3 y3 HMr
                  by_cases hE : vE = 0
                  · subst hE
                    go_wp2_with (fail)
                    go_quiet ((go_at_call 16; exact quiet_d (used_any (HA6.out _))))
                    go_wp2
                    go_roundw
                    case rel => exact ⟨k + 1, by omega, by go_num, vW, T, rfl, Lib.hid ⟨HUW.out, HMk.out.new ((MM.Far.refl [] _).drewN _)⟩⟩
                    case measure => simp [intOf]; omega
                  · have hEb : (vE == 0) = false := by simpa using hE
                    go_wp2_with (fail)
                    go_quiet ((go_at_call 16; exact quiet_d (used_any (HA6.out _))))
                    go_wp2
                    go_roundw
                    case rel => exact ⟨k + 1, by omega, by go_num, y, T, rfl, Lib.hid ⟨HUY.out, HMk.out.new ((MM.Far.refl [] _).drewN _)⟩⟩
                    case measure => simp [intOf]; omega
          · go_wp2
            go_ret
            exact ⟨rfl, (hM.out.far.alloc _).below_nil⟩
        · have HF := Lib.hid hM.out.far
          clear hM
          go_wp2
          go_ret
          exact ⟨rfl, HF.out.below_nil⟩
end PW
end Go.Proofs.YtoikfpaocgikcaaDoor
