/-
  Contracts of layer 3's copyObject and copyWord. Condition: the copier is as the lists say.
-/
import Derived.Test.YtcfepiihjbbnaaaMoveWalks2
import Derived.Deep.RegionHeld3
namespace Go.Proofs.Ytcfepiihjbbnaaa
open Go.RowKit Go.Maps
namespace MW
open AW AP
section
variable {w : World} {B c mb p g h n p' g' h' : Nat} {ts : List Th} {s : MP.St}
theorem ret_1 {k : IntKind} {a b : Int} (h : a = b) : Ending.returned (.int k a) = .returned (.int k b) := by rw [h]
theorem lit_inj {a b : Int} (h : (DataW.lit (K a) : DataW Unit) = .lit (K b)) : a = b := by simpa [K] using h
theorem Co.size (hC : Co w B c mb p g h n ts p' g' h' s) : c < w.heap.size ∧ mb < w.heap.size ∧ p' < w.heap.size ∧ g' < w.heap.size ∧ h' < w.heap.size := by
  obtain ⟨k, D, hO, _⟩ := hC.map
  exact ⟨hC.head.lt, owns_lt hO, hC.dst.head.lt, hC.dst.words.lt, hC.dst.kinds.lt⟩
theorem object_old (hC : Co w B c mb p g h n ts p' g' h' s) {x : Int} (hx : WP.U x) {i q : Nat} (hi : AW.look ts x = some i) (hp : MP.pos s.od i = some q) :
    Calls Try.prog 34 #[ptr c, .int .u64 x] w fun e w' => e = .returned (.int .u64 (MP.cwW ts s x)) ∧ w = w' := by
  have c2 := hC.head.at (i := 2) rfl
  obtain ⟨k, D, hO, hk, hM⟩ := hC.map
  obtain ⟨h1, h2⟩ := (hM x hx i hi).2 q hp
  have hkey := keyOf_int_mk (P := Try.prog) Try.underlying42 (wf_u hx)
  have HE := Lib.hid (MP.cw_old hi hp).2
  have HO := Lib.hid hO
  have H2 := Lib.hid h2
  clear hO hC hM h2 hi hp hx
  go_enter Try.func34, Try.ntmps34
  go_wp2_with (first
    | (at_lookup; refine wpList_lookup_own_ok_int _ rfl _ _ 40 rfl 42 42 .u64 word_keyed Try.underlying40 Try.underlying42 (word_zero _) mb k D rfl HO.out _ _ rfl hkey ?_; intro v hat hwv; rw [h1]))
  go_ret
  rw [H2.out] at hat
  have hv := lit_inj hat
  exact ⟨ret_1 (by rw [← hv, HE.out]), rfl⟩
theorem len_le (ts : List Th) : ts.length ≤ sz ts := by
  induction ts with
  | nil => exact Nat.le_refl _
  | cons t ts ih => simp only [List.length_cons, sz]; omega
/-- Behind the copy of a thing that is new. -/
theorem object_end {w5 w6 w7 : World} (hC : Co w B c mb p g h n ts p' g' h' s) {x : Int} (hx : WP.U x) {i : Nat} (hi : AW.look ts x = some i) (hp : MP.pos s.od i = none)
    (hF5 : MM.Far [] w w5) (hA6 : Ar w6 p' g' h' n (s.us ++ [th ts i])) (hF6 : MM.Far [p', g', h'] w5 w6) {k : Nat} {D : DataW Unit} (hD : IsMap D) (hk : k ≤ s.od.length) (hM : MapOk ts s D) (hO7 : Owns w7 mb (k + 1) (D.put (K x) (.lit (K (WP.ofW 1 (sz s.us)))))) (hT : w6.mapTurned w7 mb) :
    Co w7 B c mb p g h n ts p' g' h' (MP.cwS ts s x) ∧ MM.Far [mb, p', g', h'] w w7 ∧ MP.cwW ts s x = WP.ofW 1 (sz s.us) := by
  obtain ⟨e1, e2⟩ := MP.cw_new hi hp
  have hF7 := far_turned hT
  have hs := hC.size
  have hne := hC.ne
  have hl := hC.low
  have hn := hC.new
  have hF6' : MM.Far [mb, p', g', h'] w w6 := (hF5.mono (S' := [mb, p', g', h']) (by simp)).trans hF6 (by simp)
  have hF : MM.Far [mb, p', g', h'] w w7 := hF6'.trans hF7 (by simp)
  rw [e1]
  refine ⟨⟨MP.inv_new hC.src.ok hC.inv (MP.look_lt hi) hp, ?_, ?_, ?_, ⟨k + 1, _, hO7, by simp; omega, mapok_new hC.inv hM hD hx hi hp⟩, hl, hn⟩, hF, e2⟩
  · exact hC.src.far hF (by simp; omega) (by simp; omega) (by simp; omega)
  · exact hA6.far hF7 (by simp; omega) (by simp; omega) (by simp; omega)
  · exact hC.head.far hF (by simp; omega)
theorem co_drew (hC : Co w B c mb p g h n ts p' g' h' s) : Co w.drew B c mb p g h n ts p' g' h' s := hC.far_nil (MM.Far.refl [] w).drew
set_option maxHeartbeats 2000000 in
theorem object_new (hC : Co w B c mb p g h n ts p' g' h' s) {x : Int} (hx : WP.U x) {i : Nat} (hi : AW.look ts x = some i) (hp : MP.pos s.od i = none) :
    Calls Try.prog 34 #[ptr c, .int .u64 x] w fun e w' => e = .returned (.int .u64 (MP.cwW ts s x)) ∧ Co w' B c mb p g h n ts p' g' h' (MP.cwS ts s x) ∧ MM.Far [mb, p', g', h'] w w' := by
  have c2 := hC.head.at (i := 2) rfl
  have c1 := hC.head.at (i := 1) rfl
  have c0 := hC.head.at (i := 0) rfl
  obtain ⟨k, D, hO, hk, hM⟩ := hC.map
  have h1 := (hM x hx i hi).1 hp
  have hkey := keyOf_int_mk (P := Try.prog) Try.underlying42 (wf_u hx)
  have hthi := hC.src.ok.each i (MP.look_lt hi)
  have hkn : kindN ts x = (th ts i).k := by simp [kindN, hi]
  have hD := hO.isMap
  have hfit := MP.fits hC.inv (MP.look_lt hi) (MP.pos_none hp)
  have hkl : k ≤ 65536 := by
    have h2 := MP.count hC.inv
    rw [hC.inv.len] at h2
    have h3 := len_le ts
    have h4 := hC.src.ok.room
    have h5 := hC.src.ok.size
    omega
  have hroom : n ≥ sz s.us + (th ts i).l.length + 1 := by have := hC.src.ok.room; omega
  have HK := Lib.hid (fun (w2 : World) (hF : MM.Far [] w w2) => kind_any (hC.src.far hF (by simp) (by simp) (by simp)) x hx)
  rw [hkn] at HK
  have HFo := Lib.hid (fun (w2 : World) (hF : MM.Far [] w w2) => fields_of (hC.src.far hF (by simp) (by simp) (by simp)) hx hi)
  have hE : allE n s.us (th ts i).k (th ts i).l.length = 0 := by unfold allE; rw [if_neg (by omega), if_neg (by omega)]
  have HAl := Lib.hid (fun (w5 : World) (fb : Nat) (hF : MM.Far [] w w5) (hR : MM.Row w5 fb 42 (U64s (th ts i).l)) (hfb : w.heap.size ≤ fb) =>
    alloc_to (hC.dst.far hF (by simp) (by simp) (by simp)) (th ts i).k (some ⟨fb, 0, none⟩) (th ts i).l.length (th ts i).l.length (th ts i).l (WP.ofW 1 (sz s.us)) 0 (s.us ++ [th ts i]) rfl (by omega) hthi.2.2.2
      (by unfold allW; rw [if_pos hE]) hE (by unfold allT; rw [if_pos hE]) (MM.Src.row hR (by have := hC.size; simp; omega) _ (fun j u hu => hu)))
  have HC := Lib.hid hC
  have HO := Lib.hid (owns_far hO ((MM.Far.refl [] w).drew) (by simp))
  have HOw := Lib.hid hO
  have HM := Lib.hid hM
  have HEnd := Lib.hid (fun (w5 w6 w7 : World) (a1 : MM.Far [] w w5) a2 a3 a4 a5 => object_end (w5 := w5) (w6 := w6) (w7 := w7) hC hx hi hp a1 a2 a3 hD hk hM a4 a5)
  clear hO hC hM hi hp hkn hfit hroom hE
  have hthk := Lib.hid hthi
  generalize (th ts i).k = kk at HK HAl
  generalize (th ts i).l.length = L at HFo HAl
  clear hthi hthk
  go_enter Try.func34, Try.ntmps34
  go_wp2_with (first
    | (at_lookup; refine wpList_lookup_own_ok_int _ rfl _ _ 40 rfl 42 42 .u64 word_keyed Try.underlying40 Try.underlying42 (word_zero _) mb k D rfl HOw.out _ _ rfl hkey ?_; intro v hat hwv; rw [h1]))
  go_region_held3 (fun w' => w'.cell? ⟨c, 0, none⟩ = some (ptr p) ∧ w'.cell? ⟨c, 1, none⟩ = some (ptr p')) (go_keep) (first
    | (go_at_call 13
       (with_reducible refine (HK.out _ (MM.Far.refl [] w).drew).mono ?_)
       rintro e w' ⟨rfl, rfl⟩)
    | (go_at_call 36
       (with_reducible refine (HFo.out _ (MM.Far.refl [] w).drew).mono ?_)
       rintro e w5 ⟨rfl, hR5, hF5⟩
       have HR5 := Lib.hid (show MM.Row w5 w.heap.size 42 (U64s (th ts i).l) from hR5)
       have HF5 := Lib.hid ((MM.Far.refl [] w).drew.trans hF5 (by simp))
       have HC5 := Lib.hid (HC.out.far_nil HF5.out)
       have y0 := HC5.out.head.at (i := 0) rfl
       have y1 := HC5.out.head.at (i := 1) rfl
       clear hR5 hF5)
    | (go_at_call 19
       (with_reducible refine (HAl.out w5 w.heap.size HF5.out HR5.out (Nat.le_refl _)).mono ?_)
       rintro e w6 ⟨rfl, hA6, hF6⟩
       have HA6 := Lib.hid hA6
       have HF6 := Lib.hid hF6
       have hne6 : c ∉ [p', g', h'] := by have := HC.out.ne; simp; omega
       have HH6 := Lib.hid (HC5.out.head.far hF6 hne6)
       have z0 := HH6.out.at (i := 0) rfl
       have z1 := HH6.out.at (i := 1) rfl
       have z2 := HH6.out.at (i := 2) rfl
       have HO6 := Lib.hid (owns_far (owns_far HOw.out HF5.out (by simp)) hF6 (by have := HC.out.ne; simp; omega))
       clear hA6 hF6 hne6))
  all_goals
    clear y0 y1 c0 c1 c2
    go_wp2_with (first
      | (at_mapUpdate; refine wpList_mapUpdate_in _ rfl _ _ _ 40 rfl 42 42 word_keyed Try.underlying40 _ mb k D rfl HO6.out (by unfold maxLen; omega) _ _ _ rfl rfl hkey _ [] (plainElem_int Try.underlying42 (wf_u (WP.ofW_u _ _))) ?_; intro w7 hO7 hT7; have HE := Lib.hid (HEnd.out w5 w6 w7 HF5.out HA6.out HF6.out hO7 hT7); clear hO7 hT7))
    go_ret
    exact ⟨ret_1 HE.out.2.2.symm, HE.out.1, HE.out.2.1⟩
set_option maxHeartbeats 1000000 in
theorem word_any (hC : Co w B c mb p g h n ts p' g' h' s) {x : Int} (hx : WP.U x) :
    Calls Try.prog 23 #[ptr c, .int .u64 x] w fun e w' => e = .returned (.int .u64 (MP.cwW ts s x)) ∧ Co w' B c mb p g h n ts p' g' h' (MP.cwS ts s x) ∧ MM.Far [mb, p', g', h'] w w' := by
  have c0 := hC.head.at (i := 0) rfl
  have HK := Lib.hid (kind_any hC.src x hx)
  have HX := Lib.hid hx
  have HC := Lib.hid hC
  cases hl : AW.look ts x with
  | none =>
    obtain ⟨e1, e2⟩ := MP.cw_none s hl
    rw [show kindN ts x = 0 by simp [kindN, hl]] at HK
    have hto := Lib.hid (WW.to_any 1 x hx w)
    rw [e1, e2]
    clear e1 e2 hC hx hl
    obtain ⟨ok, hok⟩ : ∃ ok, WP.toB 1 x = ok := ⟨_, rfl⟩
    have HB : Hid (MP.bareW x = if ok = true then 26 else x) := by
      show _ = _
      unfold MP.bareW; rw [hok]
    rw [hok] at hto
    clear hok
    cases ok with
    | true =>
      go_enter Try.func23, Try.ntmps23
      go_wp2_with (first
        | (go_at_call 13; refine HK.out.mono ?_; rintro e w' ⟨rfl, rfl⟩)
        | (go_at_call 35; refine hto.out.mono ?_; rintro e w' ⟨rfl, rfl⟩))
      go_ret
      exact ⟨ret_1 (by rw [HB.out]; rfl), HC.out, MM.Far.refl _ _⟩
    | false =>
      go_enter Try.func23, Try.ntmps23
      go_wp2_with (first
        | (go_at_call 13; refine HK.out.mono ?_; rintro e w' ⟨rfl, rfl⟩)
        | (go_at_call 35; refine hto.out.mono ?_; rintro e w' ⟨rfl, rfl⟩))
      go_ret
      exact ⟨ret_1 (by rw [HB.out]; rfl), HC.out, MM.Far.refl _ _⟩
  | some i =>
    have hk := (hC.src.ok.each i (MP.look_lt hl)).1
    rw [show kindN ts x = (th ts i).k by simp [kindN, hl]] at HK
    have hkz : ((th ts i).k != 0) = true := by rw [bne_iff_ne]; omega
    have HOb : Hid (Calls Try.prog 34 #[ptr c, .int .u64 x] w fun e w' => e = .returned (.int .u64 (MP.cwW ts s x)) ∧ Co w' B c mb p g h n ts p' g' h' (MP.cwS ts s x) ∧ MM.Far [mb, p', g', h'] w w') := by
      cases hp : MP.pos s.od i with
      | none => exact object_new hC hx hl hp
      | some q =>
        refine (object_old hC hx hl hp).mono ?_
        rintro e w' ⟨he, rfl⟩
        refine ⟨he, ?_, MM.Far.refl _ _⟩
        rw [(MP.cw_old hl hp).1]; exact hC
    generalize (th ts i).k = kk at HK hk hkz
    clear hC hx hl
    go_enter Try.func23, Try.ntmps23
    go_wp2_with (first
      | (go_at_call 13; refine HK.out.mono ?_; rintro e w' ⟨rfl, rfl⟩)
      | (go_at_call 34; refine HOb.out.mono ?_; rintro e w' ⟨rfl, hC2, hF2⟩; have HC2 := Lib.hid hC2; have HF2 := Lib.hid hF2; clear hC2 hF2))
    go_ret
    exact ⟨rfl, HC2.out, HF2.out⟩
end
end MW
end Go.Proofs.Ytcfepiihjbbnaaa
