/-
  The walk of layer 4's statement NamesPuts: it answers true for any names and any number. No condition.
-/
import Derived.Test.YteochpfdongcaaaNamesShown
import Derived.Test.YteochpfdongcaaaNamesFew
import Derived.Test.YteochpfdongcaaaNamesRef
namespace Go.Proofs.Yteochpfdongcaaa
open Go.RowKit Go.Maps
namespace NP
def all (l : List ByteArray) : List ByteArray := l.foldl putL []
theorem all_snoc (l : List ByteArray) (k : Nat) (h : k < l.length) : all (l.take (k + 1)) = putL (all (l.take k)) (l[k]'h) := by
  unfold all
  rw [List.take_succ_eq_append_getElem h, List.foldl_append]; rfl
theorem putL_len (L : List ByteArray) (s : ByteArray) : (putL L s).length ≤ L.length + 1 := by
  unfold putL; split <;> simp
theorem all_len (l : List ByteArray) : (all l).length ≤ l.length := by
  have h : ∀ (l L : List ByteArray), (l.foldl putL L).length ≤ L.length + l.length := by
    intro l
    induction l with
    | nil => intro L; simp
    | cons a l ih => intro L; have := ih (putL L a); have := putL_len L a; simp; omega
  have := h l []; simpa [all] using this
theorem few_len (l : List ByteArray) : (few l).length ≤ 100 := by simp [few]; omega
theorem cut_len (s : ByteArray) : (cut s).size ≤ 40 := by
  unfold cut
  simp
  omega
theorem few_size (l : List ByteArray) : ∀ s ∈ few l, s.size ≤ 40 := by
  intro s hs
  obtain ⟨t, _, rfl⟩ := List.mem_map.1 hs
  exact cut_len t
end NP
namespace NW
open MM
/-- A slice that is read: its cells as the walk finds them. -/
theorem own_cell {w : World} {base : Nat} {L : List ByteArray} {v : Value} (h : w.ownsRow base 9 1 v L.length (strs L)) :
    ∃ c, L.length ≤ c ∧ c ≤ maxLen ∧ ((L = [] ∧ ∃ A, v = .slice A 0 c) ∨ ∃ b, v = .slice (some ⟨b, 0, none⟩) L.length c ∧ b < w.heap.size ∧ ∀ (k : Nat) (hk : k < L.length), w.cell? ⟨b, k, none⟩ = some (.string L[k])) := by
  obtain ⟨A, c, rfl, _, hc1, hc2, hsrc, hA⟩ := MO.form h
  refine ⟨c, hc1, hc2, ?_⟩
  rcases hA with ⟨rfl, h0, _⟩ | ⟨g, rfl, _, hg⟩
  · left
    have : L = [] := List.eq_nil_of_length_eq_zero h0
    subst this
    exact ⟨rfl, _, rfl⟩
  · right
    refine ⟨g, rfl, hg, fun k hk => ?_⟩
    obtain ⟨ad, e, _, _, hc⟩ := hsrc [] (by simp) (by simp [strs]; omega)
    injection e with e
    subst e
    have := hc k (.string L[k]) (by simp [strs, hk])
    rwa [head_add] at this
def Puts (l : List ByteArray) (g : Nat) (w3 : World) (v i : Value) (wr : World) : Prop :=
  ∃ k : Nat, k ≤ l.length ∧ i = .int .i64 (k : Int) ∧ ∃ S mv sv, Nm wr g S (NP.all (l.take k)) mv sv ∧ (∀ b, b ∈ S → b = g ∨ w3.heap.size ≤ b) ∧ wr.ownsRow 0 9 1 v (NP.all (l.take k)).length (strs (NP.all (l.take k))) ∧
    (∀ b, v.ownBlock = some b → b ∉ S ∧ w3.heap.size ≤ b) ∧ Far [g] w3 wr
set_option maxRecDepth 100000 in
set_option maxHeartbeats 2000000 in
theorem puts_any {a : Option Addr} {len cap : Nat} {zs : List ByteArray} {w : World} (hz : MR.Strs w a len cap zs) (i : Int) :
    Calls Try.prog 3 #[.slice a len cap, .int .i64 i] w fun e w' => e = .returned (.bool true) ∧ Below w.heap.size w w' := by
  have HZ := Lib.hid hz
  clear hz
  go_enter Try.func3, Try.ntmps3
  go_wp2_with (fail)
  refine (shown_any w).mono ?_
  rintro e w1 ⟨rfl, hF1⟩
  go_wp2_with (fail)
  refine (new_any w1).mono ?_
  rintro e w2 ⟨g, rfl, hg, hN2, hF2⟩
  go_wp2_with (fail)
  refine (few_any ((HZ.out.far hF1).far hF2)).mono ?_
  rintro e w3 ⟨v3, rfl, hown3, hF3⟩
  have hgl := hN2.head.lt
  obtain ⟨A3, c3, hv3, _, hc1, hc2, hsrc, _⟩ := MO.form hown3
  unfold maxLen at hc2
  have hsr := Lib.hid (hsrc [g] (fun b hb e => by have := MM.own_lt hown3 b hb; simp at e; omega))
  have hfl := NP.few_len zs
  have hfs := Lib.hid (NP.few_size zs)
  have hN3 := hN2.nil hF3
  have hFa : Far [] w w3 := (hF1.trans hF2 (by simp)).trans hF3 (by simp)
  have HFA := Lib.hid hFa
  rw [hv3]
  generalize NP.few zs = l at *
  obtain ⟨n, hn⟩ : ∃ n, n = l.length := ⟨_, rfl⟩
  have HN := Lib.hid hn
  rw [← hn] at hc1 hfl ⊢
  have hk2 := hF2.size
  have hk1 := hF1.size
  have hk3 := hF3.size
  clear hn hown3 hsrc hF1 hF2 hF3 HZ hN2 hFa hv3
  go_wp2_with (fail)
  go_loopw [7, 30] (fun v i wr => Puts l g w3 v i wr) (fun _ i _ => n - (intOf i).toNat)
  case atStart => exact ⟨0, by omega, rfl, [g], _, _, hN3, by simp, MO.none_ _ _ _ _, by simp [Value.ownBlock], Far.refl _ _⟩
  case round =>
    obtain ⟨k, hk, rfl, S, mv, sv, hN, hS, hown, hvS, hF⟩ := hrel
    by_cases hlt : k < n
    · have hkl : k < l.length := by rw [← HN.out]; exact hlt
      obtain ⟨ad, rfl, hag, hadl, hc0⟩ := hsr.out (by simp [strs]; omega)
      obtain ⟨b, off, spot⟩ := ad
      obtain ⟨s, hs⟩ : ∃ s, s = l[k] := ⟨_, rfl⟩
      have hc := hc0 k (.string s) (by simp [strs, hkl, hs])
      have hsm : s.size ≤ maxLen := by have := hfs.out s (by rw [hs]; exact List.getElem_mem _); unfold maxLen; omega
      obtain rfl : spot = none := by
        have h1 := hc0 0 (.string (l[0]'(by omega))) (by simp [strs, List.getElem?_eq_getElem (show 0 < l.length by omega)])
        rw [MR.add_zero_] at h1
        exact World.cell?_spot h1
      rw [MR.mk_add] at hc
      have c0 : wr.cell? ⟨b, off + k, none⟩ = some (.string s) := (hF.cell (p := ⟨b, off + k, none⟩) hadl hag).trans hc
      have hT := Lib.hid (NP.all_snoc l k hkl)
      have hL : (NP.all (l.take k)).length ≤ 4096 := by have := NP.all_len (l.take k); simp at this; omega
      rw [← hs] at hT
      generalize NP.all (l.take k) = L at *
      have HL := Lib.hid hL
      have HSM := Lib.hid hsm
      have HW := Lib.hid hown
      have HK := Lib.hid hN
      clear hc hc0 hs hL hsm hown hN
      go_wp2_with (fail)
      refine (find_any HK.out s HSM.out).mono ?_
      rintro e w' ⟨rfl, rfl⟩
      go_wp2_with (fail)
      refine (rfind_any HW.out s HL.out).mono ?_
      rintro e w' ⟨rfl, rfl⟩
      go_wp2_with (fail)
      refine (put_any HK.out s HSM.out).mono ?_
      rintro e w4 ⟨rfl, S4, mv4, sv4, hN4, hF4, hS4⟩
      have HW4 := Lib.hid (own_far HW.out hF4 (fun x hx => (hvS x hx).1))
      go_wp2_with (fail)
      refine (rput_any HW4.out s HL.out HSM.out (Nat.zero_le _)).mono ?_
      rintro e w5 ⟨v5, rfl, ⟨hW5, hF5⟩, hv5⟩
      have HN5 := Lib.hid (hN4.nil hF5)
      have HW5 := Lib.hid hW5
      have HT4 := Lib.hid hN4.lt
      clear hN4 hW5
      go_wp2_with (fail)
      refine (text_any HN5.out i).mono ?_
      rintro e w6 ⟨rfl, hF6⟩
      have HW6 := Lib.hid (own_far HW5.out hF6 (by simp))
      go_wp2_with (fail)
      refine (rtext_any HW6.out i HN5.out.ok.len).mono ?_
      rintro e w' ⟨rfl, rfl⟩
      go_wp2_with (fail)
      refine (len_any (HN5.out.nil hF6)).mono ?_
      rintro e w' ⟨rfl, rfl⟩
      obtain ⟨A5, c5, e5, _⟩ := MO.form HW5.out
      rw [e5]
      have E5 := Lib.hid e5
      clear e5
      go_wp2_with (fail)
      go_roundw
      case rel =>
        have k4 := hF4.size
        have k5 := hF5.size
        have k6 := hF6.size
        have kr := hF.size
        refine ⟨k + 1, by omega, by go_num, ?_⟩
        rw [hT.out, ← E5.out]
        refine ⟨S4, mv4, sv4, HN5.out.nil hF6, fun x hx => ?_, HW6.out, fun x hx => ?_, ((hF.trans hF4 (fun x hx hl => ?_)).trans hF5 (by simp)).trans hF6 (by simp)⟩
        · rcases hS4 x hx with h | h
          · exact hS x h
          · right; omega
        · rcases hv5 x hx with h | h
          · refine ⟨fun hm => ?_, (hvS x h).2⟩
            rcases hS4 x hm with h' | h'
            · exact (hvS x h).1 h'
            · have := (own_lt HW.out x h).1; omega
          · refine ⟨fun hm => ?_, by omega⟩
            have := HT4.out x hm
            omega
        · rcases hS x hx with h | h
          · simp [h]
          · omega
      case measure => simp [intOf]; omega
    · go_wp2
      go_ret
      exact ⟨rfl, (HFA.out.trans hF (fun b hb hl => by simp at hb; omega)).below_nil⟩
end NW
end Go.Proofs.Yteochpfdongcaaa
