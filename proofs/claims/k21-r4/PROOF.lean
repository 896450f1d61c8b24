import PyProof.Rows.All
import Wide.All
import OpenK.AllK
import Wide.FinOn
import PySem.Challenge.RW_kraftroom_k21_errors
set_option Elab.async false
set_option maxRecDepth 100000
namespace K21
open PySem
theorem ofString_len (s : String) : (Str.ofString s).length = s.length := by
  rw [Str.ofString_eq_toList]
  show (s.toList.map Char.toNat).toArray.size = _
  rw [List.size_toArray, List.length_map, String.length_toList]
theorem txt_len (n : Int) : Str.length ((Str.empty ++ (⟨⟨[nat_lit 97, nat_lit 116, nat_lit 32, nat_lit 112, nat_lit 108, nat_lit 97, nat_lit 99, nat_lit 101, nat_lit 32]⟩⟩ : Str)) ++ Str.ofString (toString (Int.fmod n 1000000))) < Nat.succ sizeLine := by
  have h1 : (Int.fmod n 1000000).natAbs < 10 ^ 6 := by
    rw [Int.fmod_eq_emod_of_nonneg n (by decide)]
    omega
  have h2 := int_text_length_le10 (k := 6) (by decide) h1
  show ((#[] ++ #[97, 116, 32, 112, 108, 97, 99, 101, 32]) ++ (Str.ofString (toString (Int.fmod n 1000000))).cps).size < _
  rw [Array.size_append]
  have h3 := ofString_len (toString (Int.fmod n 1000000))
  have h4 : (Str.ofString (toString (Int.fmod n 1000000))).cps.size ≤ 7 := by
    show (Str.ofString (toString (Int.fmod n 1000000))).length ≤ 7
    omega
  have h5 : (#[] ++ #[97, 116, 32, 112, 108, 97, 99, 101, 32] : Array Nat).size = 9 := rfl
  have h6 : 100 < sizeLine := by decide
  rw [h5]
  omega
theorem txt_lenZ (n : Int) : ¬ (Nat.ble (Nat.succ sizeLine) (Str.length (@HAppend.hAppend Str Str Str (@instHAppendOfAppend Str W.ZFast.zw178013285451222756) (@HAppend.hAppend Str Str Str (@instHAppendOfAppend Str W.ZFast.zw178013285451222756) Str.empty (⟨⟨[nat_lit 97, nat_lit 116, nat_lit 32, nat_lit 112, nat_lit 108, nat_lit 97, nat_lit 99, nat_lit 101, nat_lit 32]⟩⟩ : Str)) (Str.ofString (@toString Int W.ZFast.zw12639441684803245416 (W.Z.modQ n 1000000))))) = true) := by
  have h := txt_len n
  rw [W.Z.modQ_eq, W.ZFast.ze12639441684803245416, W.ZFast.ze178013285451222756] at h
  intro z
  exact absurd (Nat.le_of_ble_eq_true z) (Nat.not_le.mpr h)
theorem txt_short (n : Int) : Str.length (Str.ofString (@toString Int W.ZFast.zw12639441684803245416 (W.Z.modQ n 1000000))) ≤ 7 := by
  have h1 : (Int.fmod n 1000000).natAbs < 10 ^ 6 := by
    rw [Int.fmod_eq_emod_of_nonneg n (by decide)]
    omega
  have h2 := int_text_length_le10 (k := 6) (by decide) h1
  have h3 := ofString_len (toString (Int.fmod n 1000000))
  rw [W.Z.modQ_eq, W.ZFast.ze12639441684803245416] at h2 h3
  omega
theorem txt_lenY (n : Int) : ¬ (Nat.ble (Nat.succ sizeLine) (Str.length (@HAppend.hAppend Str Str Str (@instHAppendOfAppend Str W.ZFast.zw178013285451222756) Str.empty (⟨⟨[nat_lit 97, nat_lit 116, nat_lit 32, nat_lit 112, nat_lit 108, nat_lit 97, nat_lit 99, nat_lit 101, nat_lit 32]⟩⟩ : Str)) + Str.length (Str.ofString (@toString Int W.ZFast.zw12639441684803245416 (W.Z.modQ n 1000000)))) = true) := by
  intro z
  have h1 := Nat.le_of_ble_eq_true z
  have h2 := txt_short n
  have h3 : Str.length (@HAppend.hAppend Str Str Str (@instHAppendOfAppend Str W.ZFast.zw178013285451222756) Str.empty (⟨⟨[nat_lit 97, nat_lit 116, nat_lit 32, nat_lit 112, nat_lit 108, nat_lit 97, nat_lit 99, nat_lit 101, nat_lit 32]⟩⟩ : Str)) = 9 := rfl
  have h6 : 100 < sizeLine := by decide
  rw [h3] at h1
  have h4 : Nat.succ sizeLine = sizeLine + 1 := rfl
  omega
theorem txt_lenX (n : Int) : ¬ (Nat.ble (Nat.succ sizeLine) (Str.length (Str.ofString (@toString Int W.ZFast.zw12639441684803245416 (W.Z.modQ n 1000000)))) = true) := by
  intro z
  have h1 := Nat.le_of_ble_eq_true z
  have h2 := txt_short n
  have h6 : 100 < sizeLine := by decide
  have h4 : Nat.succ sizeLine = sizeLine + 1 := rfl
  omega
end K21
open PySem PySem.W PySem.W.X PyProof.Rows PySem.W.ZRun
set_option maxHeartbeats 0 in
theorem PySem.Challenge.cw_kraftroom_k21_errors_holds : PySem.Challenge.rw_kraftroom_k21_errors.Holds := by
  w_on; o_law; z_head; (case hw => w_witness2)
  k_fill
  intro w s₀ s₁ mg mb G y fa o pm cd doc dV kV ho hd hcd hD hmg hg args vals as L hpre hlay hrd hwl hlo
  z_open y L KX ZH ZN ZT
  refine Ground.open G ?_
  intro T B D TE TW
  wrow_args hpre hlay hrd hwl hlo
  obtain ⟨hat, hsz⟩ := script_at L
  have htk := script_toks L ZT
  rw [ZN] at hat hsz
  subst hat
  x_fa T KX hmg
  all_lens
  x_ints 1
  · z_item n
    have hL := K21.txt_lenZ n
    have hL2 := K21.txt_lenY n
    have hL3 := K21.txt_lenX n
    z_lists L; z_lens; z_run
  · z_lists L; z_lens; z_run
