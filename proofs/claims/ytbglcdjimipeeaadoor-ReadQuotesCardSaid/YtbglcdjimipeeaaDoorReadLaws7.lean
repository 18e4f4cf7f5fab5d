/-
  P6.2's law of quotes. Condition: the argument's reading.
-/
import Derived.Test.YtbglcdjimipeeaaDoorReadQuoteF
import Derived.Test.YtbglcdjimipeeaaDoorReadLaws1
import Derived.Deep.RegionHeld3
import Derived.IntWalk
namespace Go.Proofs.YtbglcdjimipeeaaDoor
open Go.RowKit
namespace RX
open LX
theorem qA_cut (f : Nat → Nat → ByteArray) (ns : List Nat) (k : Nat) (h : k < ns.length) : qA f ⟨#[]⟩ (ns.take (k + 1)) = qA f ⟨#[]⟩ (ns.take k) ++ f (ns[k] % 4) (ns[k] / 4 % 4) ++ ⟨#[32]⟩ := by
  rw [List.take_succ_eq_append_getElem h, qA_snoc]
theorem and3 (n : Nat) : bits .and .u8 (n : Int) 3 = ((n % 4 : Nat) : Int) := by
  have h3 : (BitVec.ofInt 8 3).toNat = 2 ^ 2 - 1 := by decide
  have key : (BitVec.ofInt 8 n &&& BitVec.ofInt 8 3).toNat = ((n : Int) % ((2 ^ 8 : Nat) : Int)).toNat % 2 ^ 2 := by
    rw [BitVec.toNat_and, BitVec.toNat_ofInt, h3, Nat.and_two_pow_sub_one_eq_mod]
  show IntKind.u8.wrap ((BitVec.ofInt 8 n &&& BitVec.ofInt 8 3).toNat : Nat) = _
  rw [key]
  simp only [IntKind.wrap, IntKind.signed, IntKind.bits]
  simp
  omega
end RX
namespace RW6
open LX RX
theorem one_nd {w : World} {b : Nat} {kd n : Int} {s : ByteArray} {A : Option Addr} {m c : Nat} {l : List Nat} (hl : l.length = m) (hr : MM.Row w b 33 [.int .u8 kd, .int .i64 0, .int .i64 n, .string s, .slice A m c]) (hi : IntRow w A l) : NdRow w (some ⟨b, 0, none⟩) [⟨kd, 0, n, s, l⟩] := by
  intro k hk
  obtain rfl : k = 0 := by simpa using hk
  subst hl
  exact ⟨b, 0, A, c, rfl, hr.lt, hr.at (i := 0) rfl, hr.at (i := 1) rfl, hr.at (i := 2) rfl, hr.at (i := 3) rfl, hr.at (i := 4) rfl, hi⟩
/-- Two rows of one datum each, new ones. -/
theorem one_same (wr : World) (kd n : Int) (s : ByteArray) (A1 A2 : Option Addr) (m c1 c2 : Nat) (l : List Nat) (hl : l.length = m) (hm : m ≤ 8000) (h1 : IntRow wr A1 l) (h2 : IntRow wr A2 l) (o1 o2 : Obj) :
    Calls Tryd.prog 7 #[.slice (some ⟨wr.heap.size + 1 + 1, 0, none⟩) 1 1, .slice (some ⟨wr.heap.size + 1 + 1 + 1, 0, none⟩) 1 1] ((((wr.alloc o1).alloc o2).alloc (.cells #[.int .u8 kd, .int .i64 0, .int .i64 n, .string s, .slice A1 m c1] 33)).alloc (.cells #[.int .u8 kd, .int .i64 0, .int .i64 n, .string s, .slice A2 m c2] 33)).drew fun e w' => e = .returned (.bool true) ∧ MM.Far [] wr w' := by
  have hF : MM.Far [] wr ((((wr.alloc o1).alloc o2).alloc (.cells #[.int .u8 kd, .int .i64 0, .int .i64 n, .string s, .slice A1 m c1] 33)).alloc (.cells #[.int .u8 kd, .int .i64 0, .int .i64 n, .string s, .slice A2 m c2] 33)).drew := ((((MM.Far.refl [] wr).alloc _).alloc _).alloc _ |>.alloc _).drew
  have r1 := ((MM.Row.new ((wr.alloc o1).alloc o2) 33 [.int .u8 kd, .int .i64 0, .int .i64 n, .string s, .slice A1 m c1]).alloc (.cells #[.int .u8 kd, .int .i64 0, .int .i64 n, .string s, .slice A2 m c2] 33)).drew
  have r2 := (MM.Row.new (((wr.alloc o1).alloc o2).alloc (.cells #[.int .u8 kd, .int .i64 0, .int .i64 n, .string s, .slice A1 m c1] 33)) 33 [.int .u8 kd, .int .i64 0, .int .i64 n, .string s, .slice A2 m c2]).drew
  simp only [World.size_alloc] at r1 r2
  exact (same_call (ns := [⟨kd, 0, n, s, l⟩]) (n := 1) rfl (by omega) (by simp; omega) (one_nd hl r1 (h1.far hF)) (one_nd hl r2 (h2.far hF))).mono fun _ _ ⟨e, f⟩ => ⟨e, hF.trans f (by simp)⟩
set_option maxHeartbeats 4000000 in
set_option maxRecDepth 20000 in
theorem quotes_law (w : World) (a : Option Addr) (len cap : Nat) (zs : List Int) (hz : MR.Ints .u8 w a len cap zs) : Calls Tryd.prog 3 #[.slice a len cap] w fun e w' => e = .returned (.bool true) ∧ Below w.heap.size w w' := by
  have HS := Lib.hid shown_any
  have HZ := Lib.hid hz
  have hle := hz.le
  have hmax := hz.max
  unfold maxLen at hmax
  clear hz
  go_enter Tryd.func3, Tryd.ntmps3
  go_wp2_with (first
    | (go_at_call 4; refine (HS.out _).mono ?_; rintro e w1 ⟨rfl, hF1⟩; have HF1 := Lib.hid hF1; clear hF1))
  have e1 : (min (len : Int) 20).toNat = min len 20 := by omega
  have e2 : max (min (len : Int) 20) 0 = ((min len 20 : Nat) : Int) := by omega
  have e3 : min (len : Int) 20 = ((min len 20 : Nat) : Int) := by omega
  rw [e2, e1, e3]
  clear e1 e2 e3
  obtain ⟨m, hm⟩ : ∃ m, min len 20 = m := ⟨_, rfl⟩
  rw [hm]
  have hm20 : m ≤ 20 := by omega
  have hml : m ≤ len := by omega
  clear hm
  obtain ⟨ns, hns, hnl⟩ : ∃ ns : List Nat, zs = ns.map (fun n : Nat => (n : Int)) ∧ ns.length = len := ⟨zs.map Int.toNat, by
    rw [List.map_map]
    conv => lhs; rw [← List.map_id zs]
    refine List.map_congr_left fun z hz => ?_
    have := HZ.out.wf z hz
    simp [Lit.wf, IntKind.min, IntKind.max, IntKind.signed, IntKind.bits] at this
    simp; omega, by rw [List.length_map, HZ.out.len_]⟩
  subst hns
  have HNL := Lib.hid hnl
  clear hnl
  go_loopw [4, 5, 28] (fun s t i wr => ∃ k : Nat, k ≤ m ∧ s = .string (qA qs ⟨#[]⟩ (ns.take k)) ∧ t = .string (qA ql ⟨#[]⟩ (ns.take k)) ∧ i = .int .i64 k ∧ Hid (MM.Far [] w1 wr)) (fun _ _ i _ => m - (intOf i).toNat)
  case atStart => exact ⟨0, by omega, rfl, rfl, rfl, Lib.hid (MM.Far.refl _ _)⟩
  case round =>
    obtain ⟨k, hk, rfl, rfl, rfl, hF⟩ := hrel
    by_cases hlt : k < m
    · have hkl : k < ns.length := by rw [HNL.out]; omega
      obtain ⟨ad, rfl, _, hadl, hc0⟩ := HZ.out.src (by simp; omega)
      obtain ⟨b, off, spot⟩ := ad
      have hc := hc0 k (.int .u8 (ns[k] : Nat)) (by simp [List.getElem?_eq_getElem hkl])
      obtain rfl : spot = none := by
        have h1 := hc0 0 (.int .u8 (ns[0]'(by omega) : Nat)) (by simp [List.getElem?_eq_getElem (show 0 < ns.length by omega)])
        rw [MR.add_zero_] at h1
        exact World.cell?_spot h1
      rw [MR.mk_add] at hc
      have c0 : wr.cell? ⟨b, off + k, none⟩ = some (.int .u8 (ns[k] : Nat)) := ((HF1.out.trans hF.out (by simp)).cell (p := ⟨b, off + k, none⟩) hadl (by simp)).trans hc
      have z3 := qA_size qs (fun z => by have := (piece_size z).1; omega) (ns.take k)
      have z4 := qA_size ql (fun z => (piece_size z).2.1) (ns.take k)
      rw [List.length_take] at z3 z4
      have z5 : (qA qs ⟨#[]⟩ (ns.take k)).size ≤ 600 := by omega
      have z6 : (qA ql ⟨#[]⟩ (ns.take k)).size ≤ 600 := by omega
      clear z3 z4
      have HA := Lib.hid (qA_cut qs ns k hkl)
      have HB := Lib.hid (qA_cut ql ns k hkl)
      have hw := HZ.out.wf _ (List.mem_map.2 ⟨_, List.getElem_mem hkl, rfl⟩)
      have h255 : ns[k] ≤ 255 := by simp [Lit.wf, IntKind.min, IntKind.max, IntKind.signed, IntKind.bits] at hw; omega
      clear hc hc0 hw
      generalize ns[k] = n at *
      obtain ⟨q, hq⟩ : ∃ q, n / 4 % 4 = q := ⟨_, rfl⟩
      have ha2 : bits .and .u8 ((n : Int) / 4) 3 = (q : Int) := by
        have := and3 (n / 4)
        rw [hq] at this
        rw [← this]; congr 1
      rw [hq] at HA HB
      have hq3 : q ≤ 3 := by omega
      clear hq
      obtain ⟨d, hd⟩ : ∃ d, n % 4 = d := ⟨_, rfl⟩
      have ha := and3 n
      have HL := Lib.hid (show qs d 0 = qd d from rfl)
      rw [hd] at ha HA HB
      have hd4 : d = 0 ∨ d = 1 ∨ d = 2 ∨ d = 3 := by omega
      clear hd
      rcases hd4 with rfl | rfl | rfl | rfl
      · clear HL
        go_wp2
        go_loop [8, 9, 41] (fun s t i => ∃ j : Nat, j ≤ q ∧ s = .string (qs 0 j) ∧ t = .string (ql 0 j) ∧ i = .int .u8 j) (fun _ _ i => q - (intOf i).toNat)
        case atStart => exact ⟨0, by omega, rfl, rfl, rfl⟩
        case round =>
          obtain ⟨j, hj, rfl, rfl, rfl⟩ := hrel
          have z1 := qs_size 0 j
          have z2 := ql_size 0 j
          by_cases hjq : j < q
          · have ew : IntKind.u8.wrap ((j : Int) + 1) = ((j + 1 : Nat) : Int) := by
              simp only [IntKind.wrap, IntKind.signed, IntKind.bits]
              simp
              omega
            go_wp2
            go_round
            case rel => exact ⟨j + 1, by omega, rfl, rfl, by first | rfl | rw [ew]⟩
            case measure => simp [intOf]; omega
          · obtain rfl : j = q := by omega
            go_wp2
            go_roundw
            case rel => exact ⟨k + 1, by omega, by rw [HA.out], by rw [HB.out], by go_num, Lib.hid (hF.out.alloc _)⟩
            case measure => simp [intOf]; omega
      · clear HL
        go_wp2
        go_loop [8, 9, 41] (fun s t i => ∃ j : Nat, j ≤ q ∧ s = .string (qs 1 j) ∧ t = .string (ql 1 j) ∧ i = .int .u8 j) (fun _ _ i => q - (intOf i).toNat)
        case atStart => exact ⟨0, by omega, rfl, rfl, rfl⟩
        case round =>
          obtain ⟨j, hj, rfl, rfl, rfl⟩ := hrel
          have z1 := qs_size 1 j
          have z2 := ql_size 1 j
          by_cases hjq : j < q
          · have ew : IntKind.u8.wrap ((j : Int) + 1) = ((j + 1 : Nat) : Int) := by
              simp only [IntKind.wrap, IntKind.signed, IntKind.bits]
              simp
              omega
            go_wp2
            go_round
            case rel => exact ⟨j + 1, by omega, rfl, rfl, by first | rfl | rw [ew]⟩
            case measure => simp [intOf]; omega
          · obtain rfl : j = q := by omega
            go_wp2
            go_roundw
            case rel => exact ⟨k + 1, by omega, by rw [HA.out], by rw [HB.out], by go_num, Lib.hid (hF.out.alloc _)⟩
            case measure => simp [intOf]; omega
      · clear HL
        go_wp2
        go_loop [8, 9, 41] (fun s t i => ∃ j : Nat, j ≤ q ∧ s = .string (qs 2 j) ∧ t = .string (ql 2 j) ∧ i = .int .u8 j) (fun _ _ i => q - (intOf i).toNat)
        case atStart => exact ⟨0, by omega, rfl, rfl, rfl⟩
        case round =>
          obtain ⟨j, hj, rfl, rfl, rfl⟩ := hrel
          have z1 := qs_size 2 j
          have z2 := ql_size 2 j
          by_cases hjq : j < q
          · have ew : IntKind.u8.wrap ((j : Int) + 1) = ((j + 1 : Nat) : Int) := by
              simp only [IntKind.wrap, IntKind.signed, IntKind.bits]
              simp
              omega
            go_wp2
            go_round
            case rel => exact ⟨j + 1, by omega, rfl, rfl, by first | rfl | rw [ew]⟩
            case measure => simp [intOf]; omega
          · obtain rfl : j = q := by omega
            go_wp2
            go_roundw
            case rel => exact ⟨k + 1, by omega, by rw [HA.out], by rw [HB.out], by go_num, Lib.hid (hF.out.alloc _)⟩
            case measure => simp [intOf]; omega
      · clear HL
        go_wp2
        go_loop [8, 9, 41] (fun s t i => ∃ j : Nat, j ≤ q ∧ s = .string (qs 3 j) ∧ t = .string (ql 3 j) ∧ i = .int .u8 j) (fun _ _ i => q - (intOf i).toNat)
        case atStart => exact ⟨0, by omega, rfl, rfl, rfl⟩
        case round =>
          obtain ⟨j, hj, rfl, rfl, rfl⟩ := hrel
          have z1 := qs_size 3 j
          have z2 := ql_size 3 j
          by_cases hjq : j < q
          · have ew : IntKind.u8.wrap ((j : Int) + 1) = ((j + 1 : Nat) : Int) := by
              simp only [IntKind.wrap, IntKind.signed, IntKind.bits]
              simp
              omega
            go_wp2
            go_round
            case rel => exact ⟨j + 1, by omega, rfl, rfl, by first | rfl | rw [ew]⟩
            case measure => simp [intOf]; omega
          · obtain rfl : j = q := by omega
            go_wp2
            go_roundw
            case rel => exact ⟨k + 1, by omega, by rw [HA.out], by rw [HB.out], by go_num, Lib.hid (hF.out.alloc _)⟩
            case measure => simp [intOf]; omega
    · obtain rfl : k = m := by omega
      obtain ⟨ra, rb, hra, hrb, hal, htp⟩ := quotes_any (ns.take k) (by rw [List.length_take]; omega)
      have sz1 := qA_size qs (fun z => by have := (piece_size z).1; omega) (ns.take k)
      have sz2 := qA_size ql (fun z => (piece_size z).2.1) (ns.take k)
      rw [List.length_take] at sz1 sz2
      have H1 := Lib.hid (RC6.read_any (qA qs ⟨#[]⟩ (ns.take k)) (by omega))
      have H2 := Lib.hid (RC6.read_any (qA ql ⟨#[]⟩ (ns.take k)) (by omega))
      rw [hra] at H1
      rw [hrb] at H2
      have hsa := read_sizes hra
      have hsb := read_sizes hrb
      obtain ⟨N, hN⟩ : ∃ N, ra.row.length = N := ⟨_, rfl⟩
      obtain ⟨M, hM⟩ : ∃ M, ra.tops.length = M := ⟨_, rfl⟩
      have hNb : rb.row.length = N := by have := congrArg List.length hal; simp at this; omega
      rw [hN, hM] at hsa
      have HN := Lib.hid hN
      have HM := Lib.hid hM
      have HNb := Lib.hid hNb
      have HSA := Lib.hid hsa
      have HSB := Lib.hid hsb
      have HAL := Lib.hid hal
      have HTP := Lib.hid htp
      clear hra hrb hal htp sz1 sz2 hsa hsb hN hM hNb
      generalize qA qs ⟨#[]⟩ (ns.take k) = S1 at *
      generalize qA ql ⟨#[]⟩ (ns.take k) = S2 at *
      go_wp2_with (first
        | (go_at_call 5; ((with_reducible refine (H1.out _).mono ?_); rintro e w2 ⟨rv, tv, rs, rfl, hD, hrs⟩)
           obtain ⟨A, c, hrv, -, -, -, hN⟩ := hD.nodes
           obtain ⟨B, d, htv, -, -, -, hI⟩ := hD.tops_row
           have hlen : rs.length = N := by have := congrArg List.length hrs; rw [List.length_map] at this; exact this.trans HN.out
           rw [hlen] at hrv
           rw [HM.out] at htv
           subst hrv htv
           have HN2 := Lib.hid (hrs ▸ hN)
           have HI2 := Lib.hid hI
           have HF2 := Lib.hid hD.far
           clear hD hN hI hrs hlen)
        | (go_at_call 5; ((with_reducible refine (H2.out _).mono ?_); rintro e w3 ⟨rv, tv, rs, rfl, hD, hrs⟩)
           obtain ⟨A3, c3, hrv, -, -, -, hN⟩ := hD.nodes
           obtain ⟨B3, d3, htv, -, -, -, hI⟩ := hD.tops_row
           have hlen : rs.length = N := by have := congrArg List.length hrs; rw [List.length_map] at this; exact this.trans HNb.out
           rw [hlen] at hrv
           rw [← HTP.out, HM.out] at htv
           subst hrv htv
           have HN3 := Lib.hid (hrs ▸ hN)
           have HI3 := Lib.hid (HTP.out ▸ hI)
           have HF3 := Lib.hid hD.far
           clear hD hN hI hrs hlen)
        | (go_at_call 6; refine (ints_call (l := ra.tops) (n := M) HM.out (by have := HSA.out.2.1; omega) (HI2.out.far HF3.out) HI3.out).mono ?_; rintro e w5 ⟨rfl, hF5⟩; have HF5 := Lib.hid hF5; clear hF5))
      have hN8 := HSA.out.1
      have HF5' := Lib.hid ((HF2.out.trans HF3.out (by simp)).trans HF5.out (by simp))
      go_loopw [93] (fun s93 wr => ∃ j : Nat, j ≤ N ∧ s93 = .int .i64 j ∧ Hid (MM.Far [] w5 wr)) (fun s93 _ => N - (intOf s93).toNat)
      case atStart => exact ⟨0, by omega, rfl, Lib.hid (MM.Far.refl _ _)⟩
      case round =>
        obtain ⟨j, hj, rfl, hFj⟩ := hrel
        by_cases hlt : j < N
        · have hj1 : j < ra.row.length := by rw [HN.out]; exact hlt
          have hj2 : j < rb.row.length := by rw [HNb.out]; exact hlt
          obtain ⟨g1, o1, L1, e1, rfl, hg1, a0, a1, a2, a3, a4, hI1⟩ := ((HN2.out.far (HF3.out.trans HF5.out (by simp))).far hFj.out) j hj1
          obtain ⟨g2, o2, L2, e2, rfl, hg2, b0, b1, b2, b3, b4, hI2⟩ := ((HN3.out.far HF5.out).far hFj.out) j hj2
          have hxy : bare ra.row[j] = bare rb.row[j] := by
            have h1 := congrArg (·[j]?) HAL.out
            simpa [hj1, hj2] using h1
          have hxl := HSA.out.2.2 _ (List.getElem_mem hj1)
          generalize ra.row[j] = x at *
          generalize rb.row[j] = y at *
          obtain ⟨xk, xa, xn, xs, xl⟩ := x
          obtain ⟨yk, ya, yn, ys, yl⟩ := y
          simp only [bare, Nd.mk.injEq] at hxy
          obtain ⟨rfl, -, rfl, rfl, rfl⟩ := hxy
          simp only at a0 a1 a2 a3 a4 b0 b1 b2 b3 b4 hI1 hI2 hxl
          obtain ⟨n1, hn1⟩ : ∃ n1, xl.length = n1 := ⟨_, rfl⟩
          rw [hn1] at a4 b4 hxl
          have HN1 := Lib.hid hn1
          have HI1 := Lib.hid hI1
          have HI2' := Lib.hid hI2
          have HC := Lib.hid (fun o1 o2 => one_same wr xk xn xs L1 L2 n1 e1 e2 xl HN1.out (by omega) HI1.out HI2'.out o1 o2)
          clear hn1 hI1 hI2 hj1 hj2
          go_wp2_with (fail)
          go_region
          all_goals
            go_wp2_with (go_at_call 7; ((with_reducible refine (HC.out _ _).mono ?_); rintro e w6 ⟨rfl, hF6⟩; have HF6 := Lib.hid hF6; clear hF6))
            go_roundw
            case rel => exact ⟨j + 1, by omega, by go_num, Lib.hid (hFj.out.trans HF6.out (by simp))⟩
            case measure => simp [intOf]; omega
        · obtain rfl : j = N := by omega
          go_wp2
          go_ret
          exact ⟨rfl, ((HF1.out.trans hF.out (by simp)).trans (HF5'.out.trans hFj.out (by simp)) (by simp)).below_nil⟩
end RW6
end Go.Proofs.YtbglcdjimipeeaaDoor
