/-
  Layer 8's law of names. Condition: the argument's reading.
-/
import Derived.Test.YtpbfgfadickgbaaExpNm1
import Derived.Test.YtpbfgfadickgbaaExpSet
import Derived.Deep.RegionHeld3
import Derived.IntWalk
namespace Go.Proofs.Ytpbfgfadickgbaa
open Go.RowKit
set_option linter.unusedVariables false
namespace EW
open LX SX RW6 EX
theorem SetS.of {w : World} {mb : Nat} {L L' : List ByteArray} (h : SetS w mb L) (e : ∀ s, s ∈ L ↔ s ∈ L') : SetS w mb L' := by
  obtain ⟨es, clock, hb, hst, h1, h2⟩ := h.has
  refine ⟨es, clock, hb, hst, fun x hx => ?_, fun k hk => h2 k ((e k).2 hk)⟩
  obtain ⟨k, e1, e2, e3⟩ := h1 x hx
  exact ⟨k, e1, (e k).1 e2, e3⟩
def someV : List Value := [.string ⟨#[97]⟩, .string ⟨#[98]⟩, .string ⟨#[99, 33]⟩, .string ⟨#[100, 49]⟩, .string ⟨#[101]⟩, .string ⟨#[102]⟩, .string ⟨#[103]⟩, .string ⟨#[104]⟩, .string ⟨#[105, 102]⟩, .string ⟨#[55]⟩, .string ⟨#[40, 97, 41]⟩, .string ⟨#[101, 108, 115, 101]⟩]
theorem someV_at {c : Nat} (h : c < 12) : someV[c]? = some (.string (nmB c)) := by
  rcases c12 h with rfl | rfl | rfl | rfl | rfl | rfl | rfl | rfl | rfl | rfl | rfl | rfl <;> rfl
/-- The choices so far. -/
def chO (ns : List Nat) (k : Nat) : List Nat := (ns.take k).map (· % 12)
theorem chO_next {ns : List Nat} {k : Nat} (h : k < ns.length) : chO ns (k + 1) = chO ns k ++ [ns[k] % 12] := by unfold chO; rw [List.take_succ_eq_append_getElem h, List.map_append]; rfl
theorem chO_len {ns : List Nat} {k : Nat} (h : k ≤ ns.length) : (chO ns k).length = k := by unfold chO; rw [List.length_map, List.length_take]; omega
theorem chO_lt (ns : List Nat) (k : Nat) : ∀ c ∈ chO ns k, c < 12 := by
  intro c hc
  obtain ⟨x, _, rfl⟩ := List.mem_map.1 hc
  omega
theorem textO_snoc (cs : List Nat) (c : Nat) : str (textO cs) ++ (nmB c ++ ⟨#[32]⟩) = str (textO (cs ++ [c])) := by
  have e : textO (cs ++ [c]) = textO cs ++ (bts (nmB c) ++ [32]) := by unfold textO; rw [List.flatMap_append]; simp
  rw [e]
  apply ByteArray.ext
  unfold str bts
  simp
theorem textO_all (cs : List Nat) : ⟨#[40, 108, 97, 109, 98, 100, 97, 32, 40]⟩ ++ str (textO cs) ++ ⟨#[41, 32, 49, 41]⟩ = str (headO ++ textO cs ++ tailO) := by
  apply ByteArray.ext
  unfold str headO tailO
  simp
theorem ocall_at {s t : ByteArray} {w : World} {Q : Ending → World → Prop} (h : s = t) (H : Calls Try.prog 8 #[.string s] w Q) : Calls Try.prog 8 #[.string t] w Q := h ▸ H
structure NmI (W2 : World) (mb : Nat) (cs : List Nat) (WA : Option Addr) (k wc : Nat) (wr : World) : Prop where
  own : wr.ownsRow W2.heap.size 9 1 (.slice WA k wc) (cs.map nmB).length (strs (cs.map nmB))
  set_ : SetS wr mb (cs.map nmB)
  far : MM.Far [mb] W2 wr
theorem NmI.next {W2 wr wm w5 : World} {mb : Nat} {cs : List Nat} {c : Nat} {WA A : Option Addr} {k wc c5 : Nat} (h : NmI W2 mb cs WA k wc wr) (hb : mb < W2.heap.size) (h1 : SetS wm mb (nmB c :: cs.map nmB)) (h2 : MM.Far [mb] wr wm)
    (h3 : w5.ownsRow W2.heap.size 9 1 (.slice A (k + 1) c5) (cs.map nmB ++ [nmB c]).length (strs (cs.map nmB ++ [nmB c]))) (h4 : MM.Far (Value.slice WA k wc).ownBlock.toList wm w5) : NmI W2 mb (cs ++ [c]) A (k + 1) c5 w5 := by
  have e : (cs ++ [c]).map nmB = cs.map nmB ++ [nmB c] := by simp
  have hlow : ∀ b ∈ (Value.slice WA k wc).ownBlock.toList, W2.heap.size ≤ b := fun b hb => (MM.own_lt h.own b (by simpa using hb)).2
  refine ⟨by rw [e]; exact h3, ?_, ?_⟩
  · rw [e]
    exact (h1.far h4 (fun hm => by have := hlow mb hm; omega)).of (fun s => by simp [or_comm])
  · exact (h.far.trans h2 (fun b hb _ => hb)).trans h4 (fun b hb hl => by have := hlow b hb; omega)
set_option maxHeartbeats 4000000 in
set_option maxRecDepth 20000 in
theorem names_law (w : World) (a : Option Addr) (len cap : Nat) (zs : List Int) (hz : MR.Ints .u8 w a len cap zs) : Calls Try.prog 4 #[.slice a len cap] w fun e w' => e = .returned (.bool true) ∧ Below w.heap.size w w' := by
  have HS := Lib.hid shown_any
  have hmk := @run_makeMap Try.prog
  have HZ := Lib.hid hz
  have hle := hz.le
  have hmax := hz.max
  unfold maxLen at hmax
  clear hz
  go_enter Try.func4, Try.ntmps4
  go_wp2_with (first
    | (go_at_call 7; (with_reducible refine (HS.out _).mono ?_); rintro e w1 ⟨rfl, hF1⟩; have HF1 := Lib.hid hF1; clear hF1))
  have e1 : (min (len : Int) 12).toNat = min len 12 := by omega
  have e2 : max (min (len : Int) 12) 0 = ((min len 12 : Nat) : Int) := by omega
  have e3 : min (len : Int) 12 = ((min len 12 : Nat) : Int) := by omega
  rw [e2, e1, e3]
  clear e1 e2 e3
  obtain ⟨m, hm⟩ : ∃ m, min len 12 = m := ⟨_, rfl⟩
  rw [hm]
  have hm12 : m ≤ 12 := by omega
  have hml : m ≤ len := by omega
  clear hm
  obtain ⟨ns, hns, hnl⟩ : ∃ ns : List Nat, zs = ns.map (fun n : Nat => (n : Int)) ∧ ns.length = len := ⟨zs.map Int.toNat, by
    rw [List.map_map]
    conv => lhs; rw [← List.map_id zs]
    refine List.map_congr_left fun z hz => ?_
    have := HZ.out.wf z hz
    simp [Lit.wf, IntKind.min, IntKind.max, IntKind.signed, IntKind.bits] at this
    simp; omega, by rw [List.length_map, HZ.out.len_]⟩
  subst hns
  have HNL := Lib.hid hnl
  clear hnl
  have HR12 : Hid (MM.Row ((w1.alloc (.cells someV.toArray 9)).alloc (.map #[] 0)) w1.heap.size 9 someV) := Lib.hid ((MM.Row.new w1 9 someV).alloc _)
  have HM0 : Hid (SetS ((w1.alloc (.cells someV.toArray 9)).alloc (.map #[] 0)) (w1.heap.size + 1) []) := Lib.hid (by
    have := SetS.new (w1.alloc (.cells someV.toArray 9))
    rw [sz_alloc] at this
    exact this)
  have HF2 : Hid (MM.Far [] w ((w1.alloc (.cells someV.toArray 9)).alloc (.map #[] 0))) := Lib.hid ((HF1.out.alloc _).alloc _)
  have HSZ : Hid (w1.heap.size + 1 < ((w1.alloc (.cells someV.toArray 9)).alloc (.map #[] 0)).heap.size ∧ w.heap.size ≤ w1.heap.size) := Lib.hid ⟨by simp, HF1.out.size⟩
  obtain ⟨W2, hW2⟩ : ∃ W2, ((w1.alloc (.cells someV.toArray 9)).alloc (.map #[] 0)) = W2 := ⟨_, rfl⟩
  unfold someV at hW2
  rw [hW2]
  unfold someV at HR12 HM0 HF2 HSZ
  rw [hW2] at HR12 HM0 HF2 HSZ
  obtain ⟨sb, hsb⟩ : ∃ sb, w1.heap.size = sb := ⟨_, rfl⟩
  obtain ⟨mb, hmb⟩ : ∃ mb, sb + 1 = mb := ⟨_, rfl⟩
  rw [hsb] at HR12 HM0 HSZ ⊢
  rw [hmb] at HM0 HSZ ⊢
  have HMB := Lib.hid hmb
  clear hW2 hsb hmb hmk HF1
  have HI0 : Hid (NmI W2 mb (chO ns 0) none 0 0 W2) := Lib.hid ⟨MO.none_ _ _ _ _, HM0.out, MM.Far.refl _ _⟩
  go_loopw [5, 6, 7, 26] (fun s5 s6 s7 s26 wr => ∃ (k : Nat) (WA : Option Addr) (wc : Nat), k ≤ m ∧ s5 = .string (str (textO (chO ns k))) ∧ s6 = .bool (okO (chO ns k)) ∧ s7 = .slice WA k wc ∧ s26 = .int .i64 (k : Int) ∧ Hid (NmI W2 mb (chO ns k) WA k wc wr)) (fun _ _ _ s26 _ => m - (intOf s26).toNat)
  case atStart => exact ⟨0, none, 0, by omega, rfl, rfl, rfl, rfl, HI0⟩
  case round =>
    obtain ⟨k, WA, wc, hk, rfl, rfl, rfl, rfl, hI⟩ := hrel
    clear HI0 HM0
    by_cases hlt : k < m
    · have hkl : k < ns.length := by rw [HNL.out]; omega
      obtain ⟨ad, rfl, _, hadl, hc0⟩ := HZ.out.src (by simp; omega)
      obtain ⟨b, off, spot⟩ := ad
      have hc := hc0 k (.int .u8 (ns[k] : Nat)) (by simp [List.getElem?_eq_getElem hkl])
      obtain rfl : spot = none := by
        have h1 := hc0 0 (.int .u8 (ns[0]'(by omega) : Nat)) (by simp [List.getElem?_eq_getElem (show 0 < ns.length by omega)])
        rw [MR.add_zero_] at h1
        exact World.cell?_spot h1
      rw [MR.mk_add] at hc
      have HFW : Hid (MM.Far [] w wr) := Lib.hid (HF2.out.trans hI.out.far (fun b hb hl => by
        have := HSZ.out.2
        have := HMB.out
        have : b = mb := by simpa using hb
        omega))
      have c0 : wr.cell? ⟨b, off + k, none⟩ = some (.int .u8 (ns[k] : Nat)) := (HFW.out.cell (p := ⟨b, off + k, none⟩) hadl (by simp)).trans hc
      have HCH := Lib.hid (chO_next hkl)
      have HOK := Lib.hid (okO_snoc (chO ns k) (ns[k] % 12))
      have HTX := Lib.hid (textO_snoc (chO ns k) (ns[k] % 12))
      have hw := HZ.out.wf _ (List.mem_map.2 ⟨_, List.getElem_mem hkl, rfl⟩)
      have h255 : ns[k] ≤ 255 := by simp [Lit.wf, IntKind.min, IntKind.max, IntKind.signed, IntKind.bits] at hw; omega
      have hlen : (chO ns k).length = k := chO_len (by omega)
      have htl := textO_len (chO ns k) (chO_lt ns k)
      rw [hlen] at htl
      have hsz : (str (textO (chO ns k))).size ≤ 100 := by rw [str_size]; omega
      clear hc hc0 hw
      generalize ns[k] = n at *
      obtain ⟨c, hcn⟩ : ∃ c, n % 12 = c := ⟨_, rfl⟩
      have hc12 : c < 12 := by omega
      rw [hcn] at HCH HOK HTX
      have hci : (n : Int) % 12 = (c : Int) := by omega
      have hrow := HR12.out
      have c1 : wr.cell? ⟨sb, c, none⟩ = some (.string (nmB c)) := ((hI.out.far).cell (p := ⟨sb, c, none⟩) hrow.lt (by have := HMB.out; simp; omega)).trans (hrow.at (someV_at hc12))
      have hnz := nm_size hc12
      have hlook := hI.out.set_.look (nmB c)
      obtain ⟨wm, hup, hset, hfm⟩ := hI.out.set_.up (nmB c)
      have HUP := Lib.hid (And.intro hset hfm)
      have HI := Lib.hid hI.out
      clear hI hcn hrow hset hfm htl
      generalize chO ns k = cs at *
      have hkl2 : (cs.map nmB).length = k := by rw [List.length_map]; exact hlen
      have HKL := Lib.hid hkl2
      obtain ⟨x, hx⟩ : ∃ x, nmB c = x := ⟨_, rfl⟩
      rw [hx] at HTX HOK c1 hnz hlook hup HUP
      have HXN := Lib.hid hx
      clear hlen hkl2 hx
      obtain ⟨d, hd⟩ : ∃ d, decide (x ∈ List.map nmB cs) = d := ⟨_, rfl⟩
      rw [hd] at hlook HOK
      obtain ⟨o, ho⟩ : ∃ o, okO cs = o := ⟨_, rfl⟩
      rw [ho] at HOK ⊢
      clear hd ho
      have HFM := Lib.hid HUP.out.2.size
      have HFI := Lib.hid HI.out.far.size
      have HOWN := Lib.hid HI.out.own
      have HCL : Hid (cs.length = k) := Lib.hid (by have := HKL.out; rwa [List.length_map] at this)
      have HOFF : Hid (∀ b, (Value.slice WA k wc).ownBlock = some b → b ∉ [mb]) := Lib.hid (fun b hb hm => by
        have h1 := (MM.own_lt HOWN.out b hb).2
        have h2 := HSZ.out.1
        have h3 : b = mb := (by simpa using hm)
        omega)
      cases o with
      | false =>
        have HO2 : Hid (okO (cs ++ [c]) = false) := Lib.hid (by rw [HOK.out]; rfl)
        clear hlook HOK
        go_wp2_with (first
          | (at_builtin; refine str_push (base := W2.heap.size) (l := cs.map nmB) (s := x) (MM.own_far HOWN.out HUP.out.2 HOFF.out) (Nat.le_trans HFI.out HFM.out) (by rw [HKL.out]; omega) rfl (.tmp 49) (.tmp 51) rfl rfl rfl ?_; intro B3 c3 w3 hO3 hF3; have HO3 := Lib.hid hO3; have HF3 := Lib.hid hF3; clear hO3 hF3))
        go_roundw
        case rel =>
          rw [HCL.out]
          refine ⟨k + 1, B3, c3, by omega, by rw [HCH.out, HTX.out], by rw [HCH.out, HO2.out], rfl, by go_num, Lib.hid ?_⟩
          rw [HCH.out]
          have h := HO3.out
          rw [HKL.out] at h
          exact HI.out.next HSZ.out.1 (by rw [HXN.out]; exact HUP.out.1) HUP.out.2 (by rw [HXN.out]; exact h) HF3.out
        case measure => simp [intOf]; omega
      | true =>
        by_cases h8 : c < 8
        · have hd8 : decide ((c : Int) < 8) = true := by rw [decide_eq_true_iff]; omega
          have HO2 : Hid (okO (cs ++ [c]) = !d) := Lib.hid (by rw [HOK.out, decide_eq_true h8]; rfl)
          have h8i : (c : Int) < 8 := by omega
          clear HOK
          go_wp2_with (first
            | (at_builtin; refine str_push (base := W2.heap.size) (l := cs.map nmB) (s := x) (MM.own_far HOWN.out HUP.out.2 HOFF.out) (Nat.le_trans HFI.out HFM.out) (by rw [HKL.out]; omega) rfl (.tmp 49) (.tmp 51) rfl rfl rfl ?_; intro B3 c3 w3 hO3 hF3; have HO3 := Lib.hid hO3; have HF3 := Lib.hid hF3; clear hO3 hF3))
          go_roundw
          case rel =>
            rw [HCL.out]
            refine ⟨k + 1, B3, c3, by omega, by rw [HCH.out, HTX.out], by rw [HCH.out, HO2.out], rfl, by go_num, Lib.hid ?_⟩
            rw [HCH.out]
            have h := HO3.out
            rw [HKL.out] at h
            exact HI.out.next HSZ.out.1 (by rw [HXN.out]; exact HUP.out.1) HUP.out.2 (by rw [HXN.out]; exact h) HF3.out
          case measure => simp [intOf]; omega
        · have hd8 : decide ((c : Int) < 8) = false := by rw [decide_eq_false_iff_not]; omega
          have HO2 : Hid (okO (cs ++ [c]) = false) := Lib.hid (by rw [HOK.out, decide_eq_false h8]; rfl)
          have h8i : ¬ (c : Int) < 8 := by omega
          clear HOK hlook
          go_wp2_with (first
            | (at_builtin; refine str_push (base := W2.heap.size) (l := cs.map nmB) (s := x) (MM.own_far HOWN.out HUP.out.2 HOFF.out) (Nat.le_trans HFI.out HFM.out) (by rw [HKL.out]; omega) rfl (.tmp 49) (.tmp 51) rfl rfl rfl ?_; intro B3 c3 w3 hO3 hF3; have HO3 := Lib.hid hO3; have HF3 := Lib.hid hF3; clear hO3 hF3))
          go_roundw
          case rel =>
            rw [HCL.out]
            refine ⟨k + 1, B3, c3, by omega, by rw [HCH.out, HTX.out], by rw [HCH.out, HO2.out], rfl, by go_num, Lib.hid ?_⟩
            rw [HCH.out]
            have h := HO3.out
            rw [HKL.out] at h
            exact HI.out.next HSZ.out.1 (by rw [HXN.out]; exact HUP.out.1) HUP.out.2 (by rw [HXN.out]; exact h) HF3.out
          case measure => simp [intOf]; omega
    · obtain rfl : k = m := by omega
      have hlen : (chO ns k).length = k := chO_len (by rw [HNL.out]; omega)
      have htl := textO_len (chO ns k) (chO_lt ns k)
      obtain ⟨q, hq⟩ := of_O (chO ns k) (chO_lt ns k) (by omega)
      have hsz : (str (textO (chO ns k))).size ≤ 100 := by rw [str_size]; omega
      have HTA := Lib.hid (textO_all (chO ns k))
      have HOF := Lib.hid (fun w' => of_any (str (headO ++ textO (chO ns k) ++ tailO)) (by rw [str_size, List.length_append, List.length_append]; simp only [headO, tailO, List.length_cons, List.length_nil]; omega) w')
      rw [hq] at HOF
      have HI := Lib.hid hI.out
      have HCL := Lib.hid hlen
      have HFW : Hid (MM.Far [mb] w wr) := Lib.hid ((HF2.out.mono (fun b hb => by cases hb)).trans hI.out.far (fun b hb _ => hb))
      have HMW : Hid (w.heap.size ≤ mb) := Lib.hid (by have := HSZ.out.2; have := HMB.out; omega)
      clear hI hlen htl hq
      generalize chO ns k = cs at *
      cases hok : okO cs with
      | false =>
        rw [hok, if_neg (by decide)] at HOF
        clear hok
        go_wp2_with (first
          | (go_at_call 8; (refine Calls.mono (ocall_at HTA.out.symm (HOF.out _)) ?_); rintro e w2 hX; obtain ⟨rfl, hF2⟩ : e = .returned (.tuple #[.slice none 0 0, .slice none 0 0, .int .i64 0, .int .i64 80]) ∧ MM.Far [] wr w2 := hX; have HF3 := Lib.hid hF2; clear hF2))
        go_ret
        exact ⟨rfl, (HFW.out.trans HF3.out (by simp)).below (Nat.le_refl _) (fun b hb => by have h := HMW.out; have h2 : b = mb := (by simpa using hb); omega)⟩
      | true =>
        rw [hok, if_pos rfl] at HOF
        clear hok
        go_wp2_with (first
          | (go_at_call 8; (refine Calls.mono (ocall_at HTA.out.symm (HOF.out _)) ?_); rintro e w2 ⟨fv, tv, rs, rfl, hD, hrs⟩; have hFR := hD.rows; have hTR := hD.tops_row; obtain ⟨FA, fc, rfl, -, -, -, hF⟩ := hFR; obtain ⟨TA, tc, rfl, -, -, -, hT⟩ := hTR
             have hlen : rs.length = 2 := (by have := congrArg List.length hrs; rw [List.length_map] at this; exact this)
             rw [hlen]
             rw [hrs] at hF
             obtain ⟨b, o, PA, pc, LA, lc, rfl, hb, x0, d1, d2, d3, d4, x5, d6, d7, xP, hI1⟩ := hF 1 (by simp)
             have d0 : w2.cell? ⟨b, o + 8, none⟩ = some (.int .u8 6) := (by simpa using x0)
             have d5 : w2.cell? ⟨b, o + 8 + 5, none⟩ = some (.slice PA (cs.map nmB).length pc) := (by simpa using x5)
             have hP : Sl w2 [] (.slice PA (cs.map nmB).length pc) (strs (cs.map nmB)) := (by simpa using xP)
             have hml : (cs.map nmB).length = k := (by rw [List.length_map]; exact HCL.out)
             rw [hml] at d5 hP
             have HP := Lib.hid hP; have HF3 := Lib.hid hD.far; clear hD hrs hF hT hlen hP hI1 hml d1 d2 d3 d4 d6 d7 x0 x5 xP))
        have HOW : Hid (Sl w2 [] (.slice WA k wc) (strs (cs.map nmB))) := Lib.hid ((Sl.own HI.out.own (by simp)).far HF3.out (by simp))
        have HMLN : Hid ((cs.map nmB).length = k) := Lib.hid (by rw [List.length_map]; exact HCL.out)
        go_loopw [114] (fun s114 wz => ∃ j : Nat, j ≤ k ∧ s114 = .int .i64 (j : Int) ∧ Hid (MM.Far [] w2 wz)) (fun s114 _ => k - (intOf s114).toNat)
        case atStart => exact ⟨0, by omega, rfl, Lib.hid (MM.Far.refl _ _)⟩
        case round =>
          obtain ⟨j, hj, rfl, hFz⟩ := hrel
          obtain ⟨wz, rfl⟩ : ∃ wz, wz = wr := ⟨_, rfl⟩
          have y0 := far_cell hFz.out d0
          have y5 := far_cell hFz.out d5
          by_cases hlt2 : j < k
          · have hjl : j < (cs.map nmB).length := by rw [HMLN.out]; exact hlt2
            obtain ⟨A1, q1, e3, _, _, hc3⟩ := HP.out.far hFz.out (by simp)
            obtain ⟨A2, q2, e4, _, _, hc4⟩ := HOW.out.far hFz.out (by simp)
            injection e3 with e31 e32 e33
            injection e4 with e41 e42 e43
            subst e31 e33 e41 e43
            obtain ⟨g1, o3, rfl, _, _, cc1⟩ := hc3 j (.string (cs.map nmB)[j]) (by unfold strs; rw [List.getElem?_map, List.getElem?_eq_getElem hjl]; rfl)
            obtain ⟨g2, o4, rfl, _, _, cc2⟩ := hc4 j (.string (cs.map nmB)[j]) (by unfold strs; rw [List.getElem?_map, List.getElem?_eq_getElem hjl]; rfl)
            generalize (cs.map nmB)[j] = sj at cc1 cc2
            have hj0 : (0 : Int) ≤ (j : Int) := by omega
            have hj1 : (j : Int) < (k : Int) := by omega
            clear hc3 hc4 e32 e42 d0 d5
            go_wp2
            go_quiet (fail)
            go_wp2
            go_roundw
            case rel => exact ⟨j + 1, by omega, by go_num, Lib.hid (hFz.out.drewN _)⟩
            case measure => simp [intOf]; omega
          · obtain rfl : j = k := by omega
            go_wp2
            go_ret
            exact ⟨rfl, ((HFW.out.trans HF3.out (by simp)).trans hFz.out (by simp)).below (Nat.le_refl _) (fun b hb => by have h := HMW.out; have h2 : b = mb := (by simpa using hb); omega)⟩
end EW
end Go.Proofs.Ytpbfgfadickgbaa
