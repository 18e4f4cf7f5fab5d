/-
  Layer 4's helpers of the statements: the document's examples, and the first names, cut. No condition.
-/
import Derived.Test.YteochpfdongcaaaNamesWalks3
import Derived.Test.YteochpfdongcaaaReadStr
namespace Go.Proofs.Yteochpfdongcaaa
open Go.RowKit Go.Maps
namespace NP
/-- A text that is cut behind 40 bytes. -/
def cut (s : ByteArray) : ByteArray := s.extract 0 (min (s.size : Int) 40).toNat
def few (l : List ByteArray) : List ByteArray := (l.take 100).map cut
theorem few_snoc (l : List ByteArray) (k : Nat) (h : k < l.length) (hk : k < 100) : few (l.take (k + 1)) = few (l.take k) ++ [cut (l[k]'h)] := by
  unfold few
  rw [List.take_take, List.take_take, Nat.min_eq_right (by omega), Nat.min_eq_right (by omega), List.take_succ_eq_append_getElem h, List.map_append]; rfl
theorem few_more (l : List ByteArray) (k : Nat) (hk : 100 ≤ k) : few (l.take k) = few l := by
  unfold few
  rw [List.take_take, Nat.min_eq_left hk]
end NP
namespace NW
open MM
def Few (w : World) (zs : List ByteArray) (len : Nat) (v i : Value) (wr : World) : Prop :=
  ∃ k : Nat, k ≤ len ∧ i = .int .i64 (k : Int) ∧ wr.ownsRow w.heap.size 9 1 v (NP.few (zs.take k)).length (strs (NP.few (zs.take k))) ∧ Far [] w wr
set_option maxHeartbeats 1000000 in
theorem few_any {a : Option Addr} {len cap : Nat} {zs : List ByteArray} {w : World} (hz : MR.Strs w a len cap zs) :
    Calls Try.prog 10 #[.slice a len cap] w fun e w' => ∃ v, e = .returned v ∧ w'.ownsRow w.heap.size 9 1 v (NP.few zs).length (strs (NP.few zs)) ∧ Far [] w w' := by
  have hle := hz.le
  have hmax := hz.max
  unfold maxLen at hmax
  have HL := Lib.hid hz.len_
  have HZ := Lib.hid hz
  clear hz
  go_enter Try.func10, Try.ntmps10
  go_wp2
  go_loopw [3, 8] (fun v i wr => Few w zs len v i wr) (fun _ i _ => len - (intOf i).toNat)
  case atStart => exact ⟨0, by omega, rfl, ⟨by simp [NP.few, strs], .inl ⟨rfl, by simp [NP.few]⟩⟩, Far.refl _ _⟩
  case round =>
    obtain ⟨k, hk, rfl, hown, hF⟩ := hrel
    by_cases hlt : k < len
    · have hkz : k < zs.length := by rw [HL.out]; exact hlt
      obtain ⟨ad, rfl, _, hadl, hc0⟩ := HZ.out.src (by simp; omega)
      obtain ⟨b, off, spot⟩ := ad
      obtain ⟨s, hs⟩ : ∃ s, s = zs[k] := ⟨_, rfl⟩
      have hc := hc0 k (.string s) (by simp [hkz, hs])
      have hsm : s.size ≤ maxLen := by rw [hs]; exact HZ.out.fit _ (List.getElem_mem _)
      obtain rfl : spot = none := by
        have h1 := hc0 0 (.string (zs[0]'(by omega))) (by simp [List.getElem?_eq_getElem (show 0 < zs.length by omega)])
        rw [MR.add_zero_] at h1
        exact World.cell?_spot h1
      rw [MR.mk_add] at hc
      have c0 : wr.cell? ⟨b, off + k, none⟩ = some (.string s) := (hF.cell (p := ⟨b, off + k, none⟩) hadl (by simp)).trans hc
      have HS := Lib.hid hs
      have HO := Lib.hid hown
      have hl := Lib.hid (NP.few_snoc zs k hkz)
      have hb : (NP.few (zs.take k)).length ≤ 100 := by simp [NP.few]; omega
      unfold maxLen at hsm
      clear hc hc0 hs hown
      by_cases h100 : k < 100
      · go_wp2_with (first
          | (at_builtin
             refine MO.wpList_append _ ?_ (.tmp 15) (.tmp 21) 22 ?_ w.heap.size 9 (.string ⟨#[]⟩) 1 16 Try.underlying22 string_info rfl (by omega) _ (NP.few (zs.take k)).length (strs (NP.few (zs.take k))) ?_ (HO.out.alloc _) (some ⟨wr.heap.size, 0, none⟩) 1 1 [.string (NP.cut s)] ?_ rfl (fun h => by cases h) [] ?_ (strs_one [_]) (by simp only [maxLen]; omega) (by omega) ?_ ?_
             · rfl
             · rfl
             · rfl
             · rfl
             · exact MM.Src.row (MM.Row.new _ _ [.string (NP.cut s)]) (by simp) _ (fun j u hu => hu)
             · have := hF.size; simp; omega
             intro v1 wG hv1 hg1 hat1))
        go_roundw
        case rel =>
          have hF1 := hF.size
          refine ⟨k + 1, by omega, by go_num, ?_, (hF.alloc _).trans (MM.Far.of_grown (S := u3.ownBlock.toList) hg1 (by intro b1 hb1 _; simp [hb1])) (fun b1 hb1 _ => ?_)⟩
          · rw [hl.out h100, ← HS.out, List.length_append, List.length_singleton]
            simpa [strs] using hv1
          · have := (MM.own_lt HO.out b1 (by simpa using hb1)).2
            omega
        case measure => simp [intOf]; omega
      · go_wp2
        go_roundw
        case rel =>
          have e1 := NP.few_more zs k (by omega)
          have e2 := NP.few_more zs (k + 1) (by omega)
          refine ⟨k + 1, by omega, by go_num, ?_, hF⟩
          rw [e2, ← e1]; exact HO.out
        case measure => simp [intOf]; omega
    · obtain rfl : k = len := by omega
      have HO := Lib.hid hown
      clear hown
      go_wp2
      go_ret
      have e : zs.take k = zs := by rw [← HL.out]; exact List.take_length
      rw [e] at HO
      exact ⟨_, rfl, HO.out, hF⟩
end NW
end Go.Proofs.Yteochpfdongcaaa
