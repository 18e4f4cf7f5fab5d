/-
  The walk of ArenaOwn: an arena keeps none of what it is handed. Condition: the argument is a slice of numbers that fit their kind.
-/
import Derived.Test.YtfjijcepggmigaaArenaApp
import Derived.Deep.DeepCutAuto
namespace Go.Proofs.Ytfjijcepggmigaa
open Go.RowKit
namespace AL
open AW
set_option maxRecDepth 100000 in
set_option maxHeartbeats 2000000 in
theorem own (a : Option Addr) (len cap : Nat) (zs : List Int) (w : World) (hz : MR.Ints .u64 w a len cap zs) :
    Calls Try.prog 7 #[.slice a len cap] w fun e w' => e = .returned (.bool true) ∧ Below w.heap.size w w' := by
  have hle := hz.le
  have hmax := hz.max
  unfold maxLen at hmax
  go_enter Try.func7, Try.ntmps7
  go_wp2_with (fail)
  refine (shown_any w).mono ?_
  rintro e w0 ⟨rfl, hF0⟩
  go_wp2_with (fail)
  refine (new_int w0 30 (by omega) (by omega)).mono ?_
  rintro e w1 ⟨p, g, h, rfl, hp, hg, hh, hA1, hF1⟩
  go_wp2_with (fail)
  refine (new_int w1 30 (by omega) (by omega)).mono ?_
  rintro e w2 ⟨p2, g2, h2, rfl, hp2, hg2, hh2, hB1, hF2⟩
  go_upto_region 6 with (fail)
  go_cut [8] (fun s8 wx => Copied w2 s8 (zs.take 20) wx)
  case first =>
    have hF : MM.Far [] w w2 := (hF0.trans hF1 (by simp)).trans hF2 (by simp)
    have hS := take_src hz (hF.alloc (.cells #[] 33)) 20
    have HZ := Lib.hid hz.len_
    have hnil := hz.nil
    cases a with
    | none =>
      obtain rfl : cap = 0 := hnil rfl
      obtain rfl : len = 0 := by omega
      have hz0 : zs = [] := List.eq_nil_of_length_eq_zero HZ.out
      subst hz0
      clear hz hS HZ
      go_wp2_with (first
        | (refine app ?_ (.tmp 40) (.tmp 45) ?_ w2.heap.size (.slice (some ⟨w2.heap.size, 0, none⟩) 0 0) 0 [] ?_ none 0 0 [] ?_ (empty_row _ _ (Nat.le_refl _)) rfl (by simp) [] (MM.Src.nil _ _ _) (by omega) (by simp) ?_
           · rfl
           · rfl
           · rfl
           · rfl
           intro v1 w3 hv1 hg1 hat1))
      go_meet
      exact copied_of (MM.Far.refl _ _) rfl rfl hv1 hg1
    | some ad =>
      clear hnil
      by_cases h20 : len ≤ 20
      · have HL : Hid ((zs.take 20).length = len) := by show _ = _; rw [List.length_take, HZ.out]; omega
        clear hz
        go_wp2_with (first
          | (refine app ?_ (.tmp 40) (.tmp 45) ?_ w2.heap.size (.slice (some ⟨w2.heap.size, 0, none⟩) 0 0) 0 [] ?_ (some ad) len cap (zs.take 20) ?_ (empty_row _ _ (Nat.le_refl _)) HL.out (fun h => by cases h) [] hS (by omega) (by simp) ?_
             · rfl
             · rfl
             · rfl
             · rfl
             intro v1 w3 hv1 hg1 hat1))
        go_meet
        exact copied_of (MM.Far.refl _ _) (by rw [HL.out, Nat.zero_add]) rfl hv1 hg1
      · have HL : Hid ((zs.take 20).length = 20) := by show _ = _; rw [List.length_take, HZ.out]; omega
        clear hz
        go_wp2_with (first
          | (refine app ?_ (.tmp 40) (.tmp 45) ?_ w2.heap.size (.slice (some ⟨w2.heap.size, 0, none⟩) 0 0) 0 [] ?_ (some ad) 20 cap (zs.take 20) ?_ (empty_row _ _ (Nat.le_refl _)) HL.out (fun h => by cases h) [] hS (by omega) (by simp) ?_
             · rfl
             · rfl
             · rfl
             · rfl
             intro v1 w3 hv1 hg1 hat1))
        go_meet
        exact copied_of (MM.Far.refl _ _) (by rw [HL.out]) rfl hv1 hg1
  case rest =>
    have hu : ∀ x ∈ zs.take 20, WP.U x := fun x hx => u_of (hz.wf x (List.mem_of_mem_take hx))
    have hF02 : MM.Far [] w w2 := (hF0.trans hF1 (by simp)).trans hF2 (by simp)
    have hl20 : (zs.take 20).length ≤ 20 := by rw [List.length_take]; omega
    generalize zs.take 20 = L at hcut hu hl20
    have s0 := hF0.size
    clear hz hle hmax hF0
    obtain ⟨hx, hFx⟩ := hcut
    have hxl := MM.own_lt hx
    obtain ⟨A, c, rfl, hnil, hlec, hcm, hsrc, hcase⟩ := MO.form hx
    have hp2l := hA1.head.lt
    have hg2l := hA1.words.lt
    have hh2l := hA1.kinds.lt
    have hs12 := hF2.size
    have hA2 := hA1.far (hF2.trans hFx (by simp)) (by simp) (by simp) (by simp)
    go_wp2_with (fail)
    refine (alloc_to hA2 3 A L.length c L 1 0 [⟨3, L⟩] rfl (by omega) hu (by
      have h1 : allE (Int.toNat 30) [] 3 L.length = 0 := by unfold allE; rw [if_neg (by omega), if_neg (by simp [AP.sz]; omega)]
      unfold allW; rw [if_pos h1]; decide) (by unfold allE; rw [if_neg (by omega), if_neg (by simp [AP.sz]; omega)]) (by
      have h1 : allE (Int.toNat 30) [] 3 L.length = 0 := by unfold allE; rw [if_neg (by omega), if_neg (by simp [AP.sz]; omega)]
      unfold allT; rw [if_pos h1]; rfl) (hsrc _ (fun b hb hm => by have := hxl b hb; simp at hm; omega))).mono ?_
    rintro e w4 ⟨rfl, hA4, hF4⟩
    have hx4 : w4.ownsRow w2.heap.size 33 1 (.slice A L.length c) L.length (U64s L) := MM.own_far hx hF4 (fun b hb hm => by have := hxl b hb; simp at hm; omega)
    obtain ⟨xb, hxb⟩ : ∃ xb, xb = (Value.slice A L.length c).ownBlock.toList := ⟨_, rfl⟩
    have hxb1 : ∀ b, (Value.slice A L.length c).ownBlock = some b → b ∈ xb := by intro b hb; rw [hxb, hb]; simp
    have hxb2 : ∀ b ∈ xb, w2.heap.size ≤ b ∧ b < wc.heap.size := by
      intro b hb
      rw [hxb] at hb
      have := hxl b (by simpa using hb)
      omega
    clear hxb
    have hs4 := hF4.size
    have hS4 : MM.Src (w4.alloc (.cells #[] 33)) [] A (U64s L) := by
      have := (MO.form hx4)
      obtain ⟨A', c', e, _, _, _, h5, _⟩ := this
      cases e
      exact (h5 [] (by simp)).far ((MM.Far.refl [] w4).alloc _) (by simp)
    have hnil2 : A = none → c = 0 ∧ L.length = 0 := by
      intro hA
      rcases hcase with ⟨_, h1, h2⟩ | ⟨g, h1, _⟩
      · exact ⟨h2, h1⟩
      · rw [hA] at h1; cases h1
    have HN := Lib.hid hnil2
    clear hnil hnil2 hcase hsrc
    go_wp2_with (first
      | (refine app ?_ (.tmp 53) (.tmp 54) ?_ w4.heap.size (.slice (some ⟨w4.heap.size, 0, none⟩) 0 0) 0 [] ?_ A L.length c L ?_ (empty_row _ _ (Nat.le_refl _)) rfl HN.out [] hS4 (by omega) (by simp) ?_
         · rfl
         · rfl
         · rfl
         · rfl
         intro v5 w5 hv5 hg5 hat5))
    have hc5 : Copied w4 v5 L w5 := copied_of (MM.Far.refl _ _) (by simp) rfl hv5 hg5
    obtain ⟨hv5', hF5⟩ := hc5
    clear hv5 hg5 hat5
    have hx5 := MM.own_far hx4 hF5 (by simp)
    have hA5 := hA4.far hF5 (by simp) (by simp) (by simp)
    have hB5 : Ar w5 p2 g2 h2 (Int.toNat 30) [] := by
      have h1 := hB1.head.lt
      have h2 := hB1.words.lt
      have h3 := hB1.kinds.lt
      refine hB1.far (((hFx.mono (S' := [p, g, h]) (by simp)).trans hF4 (fun b hb _ => hb)).trans hF5 (by simp)) ?_ ?_ ?_
      all_goals (simp; omega)
    go_loopw [58] (fun i wr => ∃ k : Nat, k ≤ L.length ∧ i = .int .i64 k ∧ (∃ ys, wr.ownsRow w2.heap.size 33 1 (.slice A L.length c) L.length ys) ∧ MM.Far xb w5 wr) (fun i _ => L.length - (intOf i).toNat)
    case atStart => exact ⟨0, Nat.zero_le _, rfl, ⟨_, hx5⟩, MM.Far.refl _ _⟩
    case round =>
      obtain ⟨k, hk, rfl, ⟨ys, hys⟩, hFr⟩ := hrel
      by_cases hlt : k < L.length
      · obtain ⟨A', c', e, _, _, _, _, hcase⟩ := MO.form hys
        cases e
        rcases hcase with ⟨_, h1, _⟩ | ⟨gx, rfl, hgx1, hgx2⟩
        · omega
        have hcell : ∃ o, wr.cell? ⟨gx, k, none⟩ = some o := by
          have := hys.cellAt k (by omega)
          rw [this]
          exact ⟨_, List.getElem?_eq_getElem (by have := hys.1; omega)⟩
        obtain ⟨o, hcell⟩ := hcell
        have hfz := hys.frozenAt k
        have hin : gx ∈ xb := hxb1 gx rfl
        have hst := (hys.stored k (.int .u64 26)).1
        have HS := Lib.hid hst
        clear hst
        go_wp2
        go_roundw
        case rel => exact ⟨k + 1, by omega, by go_num, ⟨_, HS.out⟩, hFr.setCell (fun _ => hin) _⟩
        case measure => simp [intOf]; omega
      · have hkL : k = L.length := by omega
        subst hkL
        clear hlt hk
        have hv5l := MM.own_lt hv5'
        have hA6 := hA5.far hFr (fun hm => by have := hxb2 _ hm; omega) (fun hm => by have := hxb2 _ hm; omega) (fun hm => by have := hxb2 _ hm; omega)
        have hv6 := MM.own_far hv5' hFr (fun b hb hm => by have := hxb2 _ hm; have := hv5l b hb; omega)
        have hB6 : Ar (wr.alloc (.cells #[.int .u64 18] 33)) p2 g2 h2 (Int.toNat 30) [] := by
          have h1 := hB1.head.lt
          have h2 := hB1.words.lt
          have h3 := hB1.kinds.lt
          refine (hB5.far hFr ?_ ?_ ?_).far ((MM.Far.refl [] _).alloc _) (by simp) (by simp) (by simp)
          all_goals (intro hm; have := hxb2 _ hm; omega)
        go_wp2_with (fail)
        refine (alloc_to hB6 4 _ 1 1 [18] 1 0 [⟨4, [18]⟩] rfl (by omega) (u_all _ (by decide)) (by decide) (by decide) rfl (MM.Src.row (MM.Row.new _ _ [.int .u64 18]) (by
          have h1 : _ ∧ _ ∧ _ := ⟨hB6.head.lt, hB6.words.lt, hB6.kinds.lt⟩
          have h2 : _ ∧ _ ∧ _ := ⟨hB1.head.lt, hB1.words.lt, hB1.kinds.lt⟩
          have h3 : _ ∧ _ ∧ _ ∧ _ := ⟨hFx.size, hF4.size, hF5.size, hFr.size⟩
          simp; omega) _ (fun j u hu => hu))).mono ?_
        rintro e w7 ⟨rfl, hB7, hF7⟩
        have hA7 : Ar w7 p g h (Int.toNat 30) [⟨3, L⟩] := by
          refine (hA6.far ((MM.Far.refl [] wr).alloc _) (by simp) (by simp) (by simp)).far hF7 ?_ ?_ ?_
          all_goals (simp; omega)
        have hv7 : w7.ownsRow w4.heap.size 33 1 v5 L.length (U64s L) := by
          refine MM.own_far (hv6.alloc _) hF7 (fun b hb hm => ?_)
          have h2 : _ ∧ _ ∧ _ := ⟨hB1.head.lt, hB1.words.lt, hB1.kinds.lt⟩
          have h3 : _ ∧ _ ∧ _ ∧ _ := ⟨hFx.size, hF4.size, hF5.size, hFr.size⟩
          have := hv5l b hb
          simp at hm; omega
        have hw7 : Below w.heap.size w w7 := by
          have s1 := hF02.size
          have s2 := hFx.size
          have s3 := hF4.size
          have s4 := hF5.size
          have s5 := hFr.size
          have s6 := hF1.size
          refine ((((((hF02.below (Nat.le_refl _) (by simp)).trans (hFx.below (by omega) (by simp))).trans (hF4.below (by omega) ?_)).trans (hF5.below (by omega) (by simp))).trans (hFr.below (by omega) ?_)).alloc (by omega) _).trans (hF7.below (by simp; omega) ?_)
          · intro b hb; simp at hb; omega
          · intro b hb; have := hxb2 b hb; omega
          · intro b hb; simp at hb; omega
        have hx7 := MM.own_lt hv7
        clear hx hxl hA2 hx4 hA4 hx5 hA5 hB5 hys hFr hv5l hA6 hv6 hB6 hF7 hv5' hF5 hF4 hFx hxb1 hxb2 hF1 hF2 hF02
        obtain ⟨A5, c5, rfl, _, hle5, hcm5, _, hcase5⟩ := MO.form hv7
        go_wp2_with (fail)
        go_loopw [70] (fun i wr => ∃ k : Nat, k ≤ L.length ∧ i = .int .i64 k ∧ wr = w7) (fun i _ => L.length - (intOf i).toNat)
        case atStart => exact ⟨0, Nat.zero_le _, rfl, rfl⟩
        case round =>
          obtain ⟨k, hk, rfl, rfl⟩ := hrel
          by_cases hlt : k < L.length
          · rcases hcase5 with ⟨_, h1, _⟩ | ⟨gv, rfl, hgv1, hgv2⟩
            · omega
            have hcell : wr.cell? ⟨gv, k, none⟩ = some (.int .u64 L[k]) := by
              rw [hv7.cellAt k (by omega)]
              unfold U64s
              rw [List.getElem?_map, List.getElem?_eq_getElem hlt]; rfl
            obtain ⟨x, hx⟩ : ∃ x, L[k] = x := ⟨_, rfl⟩
            rw [hx] at hcell
            have e1 : AW.look [(⟨3, L⟩ : AP.Th)] 1 = some 0 := rfl
            have HG := Lib.hid (get_any hA7 1 (by unfold WP.U; omega) k)
            rw [show getW [(⟨3, L⟩ : AP.Th)] 1 k = x by simp [getW, e1, AP.th, hlt, hx], show getE [(⟨3, L⟩ : AP.Th)] 1 k = 0 by simp [getE, e1, AP.th, hlt]] at HG
            clear hx e1
            go_wp2_with (first | (go_at_call 17; refine HG.out.mono ?_; rintro e w' ⟨rfl, rfl⟩))
            go_roundw
            case rel => exact ⟨k + 1, by omega, by go_num, trivial⟩
            case measure => simp [intOf]; omega
          · have hkL : k = L.length := by omega
            subst hkL
            clear hlt hk
            have HK := Lib.hid (kind_any hA7 1 (by unfold WP.U; omega))
            have HL := Lib.hid (len_any hA7 1 (by unfold WP.U; omega))
            have HU := Lib.hid (used_any hA7)
            have HU2 := Lib.hid (used_any hB7)
            rw [show kindN [(⟨3, L⟩ : AP.Th)] 1 = 3 from rfl] at HK
            rw [show lenN [(⟨3, L⟩ : AP.Th)] 1 = L.length from rfl] at HL
            rw [show AP.sz [(⟨3, L⟩ : AP.Th)] = L.length + 1 from by simp [AP.sz]] at HU
            rw [show AP.sz [(⟨4, [18]⟩ : AP.Th)] = 2 from rfl] at HU2
            go_wp2_with (first | (go_at_call 19; refine HK.out.mono ?_; rintro e w' ⟨rfl, rfl⟩) | (go_at_call 21; refine HL.out.mono ?_; rintro e w' ⟨rfl, rfl⟩) | (go_at_call 23; (with_reducible refine HU2.out.mono ?_); rintro e w' ⟨rfl, rfl⟩) | (go_at_call 23; (with_reducible refine HU.out.mono ?_); rintro e w' ⟨rfl, rfl⟩))
            go_ret
            exact ⟨WW.ret_b (by rw [beq_iff_eq]; omega), hw7⟩
end AL
end Go.Proofs.Ytfjijcepggmigaa
