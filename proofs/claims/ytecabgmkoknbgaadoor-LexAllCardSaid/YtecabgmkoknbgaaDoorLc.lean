/- Contract: the document's own Skip. -/
import Derived.Test.YtecabgmkoknbgaaDoorLb
namespace Go.Proofs.YtecabgmkoknbgaaDoor
open Go.RowKit

set_option maxHeartbeats 2000000 in
theorem rskip_any (a : Option Addr) (len cap : Nat) (l : List Int) (w : World) (h : Bs w a len cap l) (hsz : len ≤ 1000000) :
    Calls Tryd.prog 33 #[.slice a len cap] w fun e w' => e = .returned (.tuple #[.int .i64 (sk l).1, .int .i64 (sk l).2]) ∧ w = w' := by
  have hl := h.hl
  have H := Lib.hid h
  clear h
  go_enter Tryd.func33, Tryd.ntmps33
  go_wp2
  go_loop [4] (fun i => ∃ k : Nat, i = .int .i64 k ∧ k ≤ len ∧ Hid (skAt l k = sk l)) (fun i => len - (intOf i).toNat)
  case atStart => exact ⟨0, rfl, by omega, Lib.hid (skAt_zero l)⟩
  case round =>
    obtain ⟨k, rfl, hk, HM⟩ := hrel
    by_cases hlt : k < len
    · have h0 := (bt_rng H.out.rng k).1
      have h1 := (bt_rng H.out.rng k).2
      obtain ⟨b, off, rfl, _, hc⟩ := H.out.at_ (by omega)
      have hck := hc k hlt
      have HC := Lib.hid hc
      clear hc
      by_cases c1 : cls (bt l k) = 1
      · have HT : Hid (decide (cls (bt l k) = 1) = true) := Lib.hid (by simp [c1])
        have HN : Hid (skAt l (k + 1) = sk l) := Lib.hid (by rw [← skAt_one (by omega) c1]; exact HM.out)
        have HV := Lib.hid c1
        clear c1
        go_wp2_with (first | (go_at_call 43; refine (rof_any _ _ h0 h1).mono ?_; rintro e w' ⟨rfl, rfl⟩; rw [HV.out]))
        go_round
        case rel => exact ⟨k + 1, by go_num, by omega, HN⟩
        case measure => simp [intOf]; omega
      · have HV := Lib.hid c1
        obtain ⟨z, hz⟩ : ∃ z, z = cls (bt l k) := ⟨_, rfl⟩
        have hz1 : ¬ z = 1 := by rw [hz]; exact c1
        have HZ : Hid (cls (bt l k) = z) := Lib.hid hz.symm
        clear c1 hz
        by_cases c2 : bt l k = 37
        · have e2 : (bt l k == 37) = true := by simpa using c2
          have HN : Hid (skAt l (k + lineL (l.drop k)) = sk l) := Lib.hid (by rw [← skAt_line H.out.rng (by omega) c2]; exact HM.out)
          have HP := Lib.hid (lineL_pos (l := l.drop k) (by rw [bt_drop]; exact c2))
          clear c2
          go_wp2_with (first | (go_at_call 43; refine (rof_any _ _ h0 h1).mono ?_; rintro e w' ⟨rfl, rfl⟩; rw [HZ.out]))
          go_loop [4] (fun i => ∃ j : Nat, i = .int .i64 j ∧ k ≤ j ∧ j ≤ len ∧ Hid (j + lineL (l.drop j) = k + lineL (l.drop k))) (fun i => len - (intOf i).toNat)
          case atStart => exact ⟨k, rfl, by omega, by omega, Lib.hid rfl⟩
          case round =>
            obtain ⟨j, rfl, hkj, hj, HJ⟩ := hrel
            by_cases hjl : j < len
            · have hcj := HC.out j hjl
              have HS := Lib.hid (lineL_drop l j (by omega))
              by_cases c10 : bt l j = 10
              · have e10 : (bt l j != 10) = false := by simpa using c10
                have HF : Hid (k + lineL (l.drop k) = j) := Lib.hid (by rw [← HJ.out, HS.out, if_pos c10]; omega)
                have hjk : k < j := by have := HF.out; have := HP.out; omega
                clear c10
                go_wp2
                go_round
                case rel => exact ⟨j, rfl, by omega, Lib.hid (by rw [← HF.out]; exact HN.out)⟩
                case measure => simp [intOf]; omega
              · have e10 : (bt l j != 10) = true := by simpa using c10
                have HF : Hid (j + 1 + lineL (l.drop (j + 1)) = k + lineL (l.drop k)) := Lib.hid (by rw [← HJ.out, HS.out, if_neg c10]; omega)
                clear c10
                go_wp2
                go_round
                case rel => exact ⟨j + 1, by go_num, by omega, by omega, HF⟩
                case measure => simp [intOf]; omega
            · have HF : Hid (k + lineL (l.drop k) = j) := Lib.hid (by rw [← HJ.out, List.drop_eq_nil_iff.2 (by omega : l.length ≤ j)]; rfl)
              have hjk : k < j := by have := HF.out; have := HP.out; omega
              go_wp2
              go_round
              case rel => exact ⟨j, rfl, by omega, Lib.hid (by rw [← HF.out]; exact HN.out)⟩
              case measure => simp [intOf]; omega
        · have e2 : (bt l k == 37) = false := by simpa using c2
          by_cases p1 : pre2 47 42 (l.drop k) = true
          · have HP := Lib.hid p1
            cases hcm : cmAt l k 0 with
            | none =>
              have HN : Hid (sk l = (k, 14)) := Lib.hid (by rw [← HM.out, skAt_none p1 hcm])
              have HQ : Hid (cmV (cmAt l k 0) = -1) := Lib.hid (by rw [hcm]; rfl)
              clear p1 c2 hcm
              go_wp2_with (first | (go_at_call 43; refine (rof_any _ _ h0 h1).mono ?_; rintro e w' ⟨rfl, rfl⟩; rw [HZ.out]) | (go_at_call 44; refine (pair47_any _ _ _ l k _ H.out hk hsz).mono ?_; rintro e w' ⟨rfl, rfl⟩; rw [HP.out]) | (go_at_call 45; refine (rcomment_any _ _ _ l k _ H.out hk hsz).mono ?_; rintro e w' ⟨rfl, rfl⟩; rw [HQ.out]))
              exact bodyPost_ret (v := .tuple #[.int .i64 k, .int .i64 14]) (by simp [results, Tryd.results33, go_sem]) rfl ⟨by rw [HN.out], rfl⟩
            | some m =>
              have HN : Hid (skAt l m = sk l) := Lib.hid (by rw [← skAt_some p1 hcm]; exact HM.out)
              have HQ : Hid (cmV (cmAt l k 0) = m) := Lib.hid (by rw [hcm]; rfl)
              have hm := cmAt_le (by omega) hcm
              clear p1 c2 hcm
              obtain ⟨hm1, hm2⟩ := hm
              go_wp2_with (first | (go_at_call 43; refine (rof_any _ _ h0 h1).mono ?_; rintro e w' ⟨rfl, rfl⟩; rw [HZ.out]) | (go_at_call 44; refine (pair47_any _ _ _ l k _ H.out hk hsz).mono ?_; rintro e w' ⟨rfl, rfl⟩; rw [HP.out]) | (go_at_call 45; refine (rcomment_any _ _ _ l k _ H.out hk hsz).mono ?_; rintro e w' ⟨rfl, rfl⟩; rw [HQ.out]))
              go_round
              case rel => exact ⟨m, rfl, by omega, HN⟩
              case measure => simp [intOf]; omega
          · have hp1 : pre2 47 42 (l.drop k) = false := by simpa using p1
            have HP := Lib.hid hp1
            have HN : Hid (sk l = (k, 0)) := Lib.hid (by rw [← HM.out, skAt_else (by omega) HV.out c2 hp1])
            clear p1 hp1 c2
            go_wp2_with (first | (go_at_call 43; refine (rof_any _ _ h0 h1).mono ?_; rintro e w' ⟨rfl, rfl⟩; rw [HZ.out]) | (go_at_call 44; refine (pair47_any _ _ _ l k _ H.out hk hsz).mono ?_; rintro e w' ⟨rfl, rfl⟩; rw [HP.out]))
            exact bodyPost_ret (v := .tuple #[.int .i64 k, .int .i64 0]) (by simp [results, Tryd.results33, go_sem]) rfl ⟨by rw [HN.out], rfl⟩
    · have HN : Hid (sk l = (k, 0)) := Lib.hid (by rw [← HM.out, skAt_end (by omega)])
      go_wp2
      exact bodyPost_ret (v := .tuple #[.int .i64 k, .int .i64 0]) (by simp [results, Tryd.results33, go_sem]) rfl ⟨by rw [HN.out], rfl⟩

end Go.Proofs.YtecabgmkoknbgaaDoor
