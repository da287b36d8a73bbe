import PyProof.Rows.All
import Wide.All
import OpenK.AllK
import Wide.FinOn
import HandS.ForMost
import HandS.Wide
import HandS.Codes
import PySem.Challenge.RW_dotread_k07_alphabets_told
import PyProof.TypeEq
import PyProof.InstEq
import PyProof.StrBlock2
import HandS.TupMul
import HandS.TupAny
import HandS.More
import HandS.ForExc
import PyProof.ListStr
import HandS.Zip
import KE.GoesMore
import KE.GoesZip
import KE.GoesEnum
import HandS.Deep
import HandS.List
import HandS.SetBool
import HandS.SetFor
import HandS.SetTxt0
import KE.SortData
import HandS.TupSets
import HandS.OwnEq
import HandS.OwnIter
import HandS.Words
import PyProof.InstNe
import HandS.IsInst
import HandS.Style
import HandS.ExcInit
import HandS.ExcField
import HandS.ExcValue
import HandS.ExcIs
import HandS.Lambda
import HandS.EndTab
import PyProof.ReprRoads
import KE.KExcIs
import HandS.Walk
import PyProof.CallFns
import KE.OsRunLaw
import HandS.Head2
set_option Elab.async false
set_option linter.all false
set_option maxRecDepth 100000
set_option maxHeartbeats 4000000
namespace Dt
open PySem PySem.Spec PyProof.Rows L2
def topS (i : Nat) : Stmt := PySem.Challenge.pw_dotread_k07_alphabets_told.main.body.getD i (.Pass ⟨0, 0, 0, 0⟩)
/-! ### the drawing dict -/
def drK (g c : Addr) (r t : Int) : List (Key × V) := [(.inr "great", .ref g), (.inr "rest", .int r), (.inr "cells", .ref c), (.inr "turn", .int t)]
theorem n1 : ¬ (("great" : Str) = "rest") := by decide +kernel
theorem n2 : ¬ (("great" : Str) = "cells") := by decide +kernel
theorem n3 : ¬ (("great" : Str) = "turn") := by decide +kernel
theorem n4 : ¬ (("rest" : Str) = "cells") := by decide +kernel
theorem n5 : ¬ (("rest" : Str) = "turn") := by decide +kernel
theorem n6 : ¬ (("cells" : Str) = "turn") := by decide +kernel
theorem inr_ne {a b : Str} (h : ¬ a = b) : ¬ (Sum.inr a : Key) = Sum.inr b := fun z => h (Sum.inr.inj z)
section
variable (g c : Addr) (r t z : Int)
theorem v_great : valV (drK g c r t) (Sum.inr "great" : Key) = some (.ref g) := valV_pos rfl
theorem v_rest : valV (drK g c r t) (Sum.inr "rest" : Key) = some (.int r) := (valV_neg (inr_ne n1)).trans (valV_pos rfl)
theorem v_cells : valV (drK g c r t) (Sum.inr "cells" : Key) = some (.ref c) := (valV_neg (inr_ne n2)).trans ((valV_neg (inr_ne n4)).trans (valV_pos rfl))
theorem v_turn : valV (drK g c r t) (Sum.inr "turn" : Key) = some (.int t) := (valV_neg (inr_ne n3)).trans ((valV_neg (inr_ne n5)).trans ((valV_neg (inr_ne n6)).trans (valV_pos rfl)))
theorem put_rest : putK (drK g c r t) (Sum.inr "rest" : Key) (.int z) = drK g c z t := by
  unfold putK
  rw [valV_any, v_rest]
  have m4 := fun q : ("cells" : Str) = "rest" => n4 q.symm
  have m5 := fun q : ("turn" : Str) = "rest" => n5 q.symm
  rw [if_pos (show (some (V.int r)).isSome = true from rfl)]
  unfold drK
  simp only [List.map_cons, List.map_nil, inr_ne n1, if_true, if_false, if_neg (inr_ne fun q => m4 q), if_neg (inr_ne fun q => m5 q)]
theorem put_turn : putK (drK g c r t) (Sum.inr "turn" : Key) (.int z) = drK g c r z := by
  unfold putK
  rw [valV_any, v_turn, if_pos (show (some (V.int t)).isSome = true from rfl)]
  unfold drK
  simp only [List.map_cons, List.map_nil, inr_ne n3, inr_ne n5, inr_ne n6, if_true, if_false]
end
structure Dr (H : Hp) (d g c : Addr) : Prop where
  dk : ∃ r t, H d = some (.dK (drK g c r t))
  gl : ∃ gs : List Int, H g = some (.lst (gs.map V.int)) ∧ gs.length ≤ 63
  cl : ∃ cs : List Int, H c = some (.lst (cs.map V.int)) ∧ 0 < cs.length ∧ cs.length ≤ 64
  gc : g ≠ c
/-- all but d and g stays -/
def Dn (d g : Addr) (H H' : Hp) : Prop := ∀ b o, H b = some o → b ≠ d → b ≠ g → H' b = some o
theorem Dn.refl {d g : Addr} {H : Hp} : Dn d g H H := fun _ _ e _ _ => e
theorem Dn.trans {d g : Addr} {H H1 H2 : Hp} (a : Dn d g H H1) (b : Dn d g H1 H2) : Dn d g H H2 := fun x o e h1 h2 => b x o (a x o e h1 h2) h1 h2
theorem Dn.same {d g : Addr} {H H' : Hp} (a : Same H H') : Dn d g H H' := fun b o e _ _ => a b o e
theorem same_upd {H : Hp} {p : Addr} {o : HO} (h : H p = none) : Same H (upd H p o) := fun b x e => by
  rw [upd_ne (ne_of_none e h)]
  exact e
theorem Dr.dg {H : Hp} {d g c : Addr} (D : Dr H d g c) : d ≠ g := by
  obtain ⟨⟨r, t, h1⟩, ⟨gs, h2, _⟩, _, _⟩ := D
  exact ne_of h1 h2 (by intro z; cases z)
theorem Dr.dc {H : Hp} {d g c : Addr} (D : Dr H d g c) : d ≠ c := by
  obtain ⟨⟨r, t, h1⟩, _, ⟨gs, h2, _⟩, _⟩ := D
  exact ne_of h1 h2 (by intro z; cases z)
theorem Dr.same {H H' : Hp} {d g c : Addr} (D : Dr H d g c) (s : Same H H') : Dr H' d g c := by
  obtain ⟨⟨r, t, h1⟩, ⟨gs, h2, h3⟩, ⟨cs, h4, h5⟩, h6⟩ := D
  exact ⟨⟨r, t, s _ _ h1⟩, ⟨gs, s _ _ h2, h3⟩, ⟨cs, s _ _ h4, h5⟩, h6⟩
theorem Dn.nn {d g c p : Addr} {H H' : Hp} (a : Dn d g H H') (D : Dr H' d g c) (h : H' p = none) : H p = none := by
  cases e : H p with
  | none => rfl
  | some o =>
    have h1 : p ≠ d := by
      rintro rfl
      obtain ⟨⟨r, t, q⟩, _⟩ := D
      rw [q] at h
      cases h
    have h2 : p ≠ g := by
      rintro rfl
      obtain ⟨_, ⟨gs, q, _⟩, _⟩ := D
      rw [q] at h
      cases h
    rw [a _ _ e h1 h2] at h
    cases h
section
variable {H : Hp} {d g c : Addr} {r t : Int} (h : H d = some (.dK (drK g c r t)))
include h
theorem get_great : DGet H d (.str "great") (some (.ref g)) := by
  have z := DGet.k (k := (Sum.inr "great" : Key)) h
  rw [v_great] at z
  exact z
theorem get_rest : DGet H d (.str "rest") (some (.int r)) := by
  have z := DGet.k (k := (Sum.inr "rest" : Key)) h
  rw [v_rest] at z
  exact z
theorem get_cells : DGet H d (.str "cells") (some (.ref c)) := by
  have z := DGet.k (k := (Sum.inr "cells" : Key)) h
  rw [v_cells] at z
  exact z
theorem get_turn : DGet H d (.str "turn") (some (.int t)) := by
  have z := DGet.k (k := (Sum.inr "turn" : Key)) h
  rw [v_turn] at z
  exact z
theorem dput_rest {z : Int} : DPut H d (.str "rest") (.int z) (upd H d (.dK (drK g c z t))) := by
  have q := DPut.k (k := (Sum.inr "rest" : Key)) (v := .int z) h (by show 4 < sizeLine; decide)
  rw [put_rest] at q
  exact q
theorem dput_turn {z : Int} : DPut H d (.str "turn") (.int z) (upd H d (.dK (drK g c r z))) := by
  have q := DPut.k (k := (Sum.inr "turn" : Key)) (v := .int z) h (by show 4 < sizeLine; decide)
  rw [put_turn] at q
  exact q
end
theorem dpInts {K : PySem.W.Frag} {H : Hp} : ∀ ns : List Int, DpAll K H (ns.map V.int) (ns.map PyData.int)
  | [] => .nil
  | n :: r => .cons (.int n) (dpInts r)
/-! ### _law_next -/
abbrev sNext : Stmt := topS 39
theorem scNext : FnScope ["draw", "below", "number", "turn", "stock", "made", "prime"] ["draw", "below"] (defScope sNext) := ⟨rfl, rfl, rfl, by decide +kernel, rfl, by decide +kernel, by decide +kernel⟩
def spNext : Sp := fun vs H Q _ => ∃ (d g c : Addr) (b : Int), vs = [.ref d, .int b] ∧ Dr H d g c ∧ 0 < b ∧ b < 1073741824 ∧ ∀ (n : Int) (H' : Hp), 0 ≤ n → n < b → Dr H' d g c → Dn d g H H' → Q (.int n) H'
section
variable {P : Program} {w : World} {K : PySem.W.Frag} {mg : Str → Option Value} {base : Heap}
theorem ok_next {f : Addr} {fd : FuncData} {k : Nat} (F : Fun K "_law_next" "_law_next" sNext f fd) (ml : mg "len" = none) : FnOk P w K mg base CX0 (k + 1) f fd ["draw", "below"] spNext := by
  refine F.ok scNext (fun vs H Q E h => ?_) (fun cdv A outer s H vs Q E hr h => ?_)
  · obtain ⟨d, g, c, b, rfl, _⟩ := h
    rfl
  · obtain ⟨d, g, c, b, rfl, D, hb0, hb1, q⟩ := h
    have hu := hu_of hr
    have nd := scNext.nd
    refine ⟨_, C8.pss_cut (ps_if (PW.pt (pw_and (pt_cmpR op_lt (pe_dget hu (pv 0) pe_str (fun _ _ => rfl)) pe_int (nomark _)) (pw_and1 (pt_cmpR (op_neD hr.units) (pe_dget hu (pv 0) pe_str (fun _ _ => rfl)) (pe_lst pa_nil) (nomark _)))))
        (pss_one (ps_dput hu (pv 0) pe_str (pe_bm PySem.F.plainAttrs_list PySem.F.slot_list_pop PySem.F.type_list_pop mt_popAt (pe_dget hu (pv 0) pe_str (fun _ _ => rfl)) (pa_cons pe_int pa_nil)) rfl)) pss_nil)
      (pss_cons (ps_if (pt_cmpR op_gt (pe_dget hu (pv 0) pe_str (fun _ _ => rfl)) pe_int (nomark _))
        (pss_cons (ps_set (i := 2) nd rfl (.inl rfl) (pe_op op_mod (pe_dget hu (pv 0) pe_str (fun _ _ => rfl)) (pv 1)))
        (pss_cons (ps_dput hu (pv 0) pe_str (pe_op op_fdiv (pe_dget hu (pv 0) pe_str (fun _ _ => rfl)) (pv 1)) rfl)
        (pss_one (ps_ret (pv 2))))) pss_nil)
      (pss_cons (ps_par (i := 3) (j := 4) (by rfl) nd rfl rfl (by decide) rfl rfl (pa_cons (pe_dget hu (pv 0) pe_str (fun _ _ => rfl)) (pa_cons (pe_dget hu (pv 0) pe_str (fun _ _ => rfl)) pa_nil)) (by rfl))
      (pss_cons (ps_dput hu (pv 0) pe_str (pe_op op_add (pv 3) pe_int) rfl)
      (pss_cons (ps_set (i := 5) nd rfl (.inl rfl) (pe_op op_mod (pe_op op_mul (pe_op op_add (pe_op op_add (pe_ix ix_list (pv 4) (pe_op op_mod (pv 3) (pe_callB call_len_seq (by rfl) ml PySem.boot_len (pa_cons (pv 4) pa_nil))) (fun _ _ => rfl)) (pe_op op_mul pe_int (pv 3))) pe_int) pe_int) pe_int))
      (pss_cons (ps_set (i := 6) nd rfl (.inl rfl) (pe_ix ix_list (pe_lst (pa_cons pe_int (pa_cons pe_int (pa_cons pe_int (pa_cons pe_int (pa_cons pe_int pa_nil)))))) (pe_op op_mod (pv 3) pe_int) (fun _ _ => rfl)))
      (pss_one (ps_ret (pe_op op_mod (pe_op op_fdiv (pe_op op_mod (pe_op op_mul (pv 5) (pe_op op_add (pe_op op_add (pv 5) (pe_op op_mul pe_int (pv 3))) pe_int)) (pv 6)) pe_int) (pv 1))))))))), ?_⟩
    obtain ⟨⟨r, t, hd⟩, ⟨gs, hg, lg⟩, ⟨cs, hc, lc0, lc⟩, gc⟩ := id D
    refine ⟨fun σ' H' => σ' = [some (.ref d), some (.int b), none, none, none, none, none] ∧ Dr H' d g c ∧ Dn d g H H', ?_, ?_⟩
    · refine ⟨.ref d, rfl, d, .int r, rfl, get_rest hd, r, 2, rfl, rfl, _, rfl, ite2 (fun e => ?_) (fun e => iteF ⟨rfl, D, Dn.refl⟩)⟩
      refine ⟨.ref d, rfl, d, .ref g, rfl, get_great hd, ?_⟩
      refine ⟨by show 0 ≤ sizeLine; decide, fun p hp => ?_⟩
      refine ⟨.list (gs.map PyData.int), .list [], .lst (SqL.of ((same_upd hp) _ _ hg)) (dpInts gs), .lst (SqL.of upd_same) .nil, PySem.W.ke_shaped_ints gs, by decide +kernel, _, rfl, ?_⟩
      have D1 := D.same (same_upd (o := .lst []) hp)
      cases gs with
      | nil => exact iteF ⟨rfl, D1, Dn.same (same_upd hp)⟩
      | cons z zs =>
        refine iteT ?_
        have hg1 := (same_upd (o := .lst []) hp) _ _ hg
        have hd1 := (same_upd (o := .lst []) hp) _ _ hd
        have hc1 := (same_upd (o := .lst []) hp) _ _ hc
        have hd2 : (upd (upd H p (.lst [])) g (.lst (((z :: zs).map V.int).eraseIdx 0))) d = some (.dK (drK g c r t)) := by
          rw [upd_ne D.dg]
          exact hd1
        have sq0 : seqIndex? 0 ((z :: zs).map V.int).length = some 0 := by simp [seqIndex?]
        refine ⟨.ref d, rfl, d, .ref g, rfl, get_great hd1, .inl ⟨rfl, _, SqL.of hg1⟩, g, _, 0, 0, .int z, rfl, rfl, hg1, by decide, by decide, sq0, rfl, .ref d, rfl, d, _, rfl, dput_rest hd2, rfl, ⟨⟨z, t, upd_same⟩, ⟨zs, ?_, ?_⟩, ⟨cs, ?_, lc0, lc⟩, gc⟩, ?_⟩
        · rw [upd_ne D.dg.symm, upd_same]
          rfl
        · simp only [List.length_cons] at lg
          omega
        · rw [upd_ne D.dc.symm, upd_ne gc.symm]
          exact hc1
        · intro b' o e' h1 h2
          rw [upd_ne h1, upd_ne h2]
          exact (same_upd hp) _ _ e'
    · rintro σ' H1 ⟨rfl, D1, dn⟩
      obtain ⟨⟨r1, t1, hd1⟩, ⟨gs1, hg1, lg1⟩, ⟨cs1, hc1, lc01, lc1⟩, gc1⟩ := id D1
      refine ⟨.ref d, rfl, d, .int r1, rfl, get_rest hd1, r1, 1, rfl, rfl, _, rfl, ite2 (fun e => ?_) (fun e => ?_)⟩
      · refine ⟨.ref d, rfl, d, .int r1, rfl, get_rest hd1, .int b, rfl, r1, b, rfl, rfl, hb0, ?_⟩
        refine ⟨.ref d, rfl, d, .int r1, rfl, get_rest hd1, .int b, rfl, r1, b, rfl, rfl, ⟨hb0, hb1⟩, .ref d, rfl, d, _, rfl, dput_rest hd1, .int (r1 % b), rfl, q _ _ (Int.emod_nonneg _ (by omega)) (Int.emod_lt_of_pos _ hb0) ⟨⟨_, t1, upd_same⟩, ⟨gs1, ?_, lg1⟩, ⟨cs1, ?_, lc01, lc1⟩, gc1⟩ ?_⟩
        · rw [upd_ne D1.dg.symm]
          exact hg1
        · rw [upd_ne D1.dc.symm]
          exact hc1
        · intro b' o e' h1 h2
          rw [upd_ne h1]
          exact dn _ _ e' h1 h2
      · refine ⟨.ref d, rfl, d, .int t1, rfl, get_turn hd1, .ref d, rfl, d, .ref c, rfl, get_cells hd1, .int t1, .ref c, rfl, ?_⟩
        refine ⟨.int t1, rfl, t1, 1, rfl, rfl, .ref d, rfl, d, _, rfl, dput_turn hd1, ?_⟩
        have hc2 : (upd H1 d (.dK (drK g c r1 (t1 + 1)))) c = some (.lst (cs1.map V.int)) := by
          rw [upd_ne D1.dc.symm]
          exact hc1
        have hlen : ((cs1.map V.int).length : Int) = (cs1.length : Int) := by rw [List.length_map]
        have hpos : (0 : Int) < ((cs1.map V.int).length : Int) := by omega
        have m0 : 0 ≤ t1 % ((cs1.map V.int).length : Int) := Int.emod_nonneg _ (by omega)
        have m1 := Int.emod_lt_of_pos t1 hpos
        obtain ⟨j, hj⟩ := Int.eq_ofNat_of_zero_le m0
        have hj2 : j < cs1.length := by omega
        have hat : atI (cs1.map V.int) (t1 % ((cs1.map V.int).length : Int)) = some (.int cs1[j]) := by
          rw [hj]
          refine atI_nat ?_
          rw [List.getElem?_map, List.getElem?_eq_getElem hj2]
          rfl
        refine ⟨.ref c, rfl, .int t1, rfl, .ref c, rfl, c, _, rfl, .inl (SqL.of hc2), t1, _, rfl, rfl, hpos, c, _, _, .int cs1[j], rfl, rfl, SqL.of hc2, hat, .int t1, rfl, 1299721, t1, rfl, rfl, .inl ⟨by decide, by decide⟩, _, _, rfl, rfl, _, _, rfl, rfl, _, _, rfl, rfl, .inr ⟨by decide, by decide⟩, _, _, rfl, rfl, (by show (0 : Int) < 2147483647; decide), ?_⟩
        have hpr : ∃ z : Int, 0 < z ∧ atI [V.int 2147483629, V.int 2147483587, V.int 2147483579, V.int 2147483563, V.int 2147483549] (t1 % 5) = some (.int z) := by
          have a0 := Int.emod_nonneg t1 (show (5 : Int) ≠ 0 by decide)
          have a1 := Int.emod_lt_of_pos t1 (show (0 : Int) < 5 by decide)
          rcases (show t1 % 5 = 0 ∨ t1 % 5 = 1 ∨ t1 % 5 = 2 ∨ t1 % 5 = 3 ∨ t1 % 5 = 4 by omega) with x | x | x | x | x <;> rw [x]
          · exact ⟨2147483629, by decide, rfl⟩
          · exact ⟨2147483587, by decide, rfl⟩
          · exact ⟨2147483579, by decide, rfl⟩
          · exact ⟨2147483563, by decide, rfl⟩
          · exact ⟨2147483549, by decide, rfl⟩
        obtain ⟨z, hz, hat2⟩ := hpr
        refine ⟨by show 5 ≤ sizeLine; decide, fun l hl => ⟨.int t1, rfl, t1, 5, rfl, rfl, (by show (0 : Int) < 5; decide), l, _, _, .int z, rfl, rfl, SqL.of upd_same, hat2, ?_⟩⟩
        have mm0 := Int.emod_nonneg ((cs1[j] + 1299721 * t1 + 7919) * 48271) (show (2147483647 : Int) ≠ 0 by decide)
        have mm1 := Int.emod_lt_of_pos ((cs1[j] + 1299721 * t1 + 7919) * 48271) (show (0 : Int) < 2147483647 by decide)
        have dl := same_upd (o := .lst [V.int 2147483629, V.int 2147483587, V.int 2147483579, V.int 2147483563, V.int 2147483549]) hl
        refine ⟨_, rfl, _, rfl, .int t1, rfl, 2, t1, rfl, rfl, .inl ⟨by decide, by decide⟩, _, _, rfl, rfl, _, _, rfl, rfl, _, _, rfl, rfl, .inl ⟨by omega, by omega⟩, .int z, rfl, _, _, rfl, rfl, hz, _, _, rfl, rfl, ⟨by decide, by decide⟩, .int b, rfl, _, _, rfl, rfl, hb0, q _ _ (Int.emod_nonneg _ (by omega)) (Int.emod_lt_of_pos _ hb0) ?_ ?_⟩
        · refine Dr.same ⟨⟨_, _, upd_same⟩, ⟨gs1, ?_, lg1⟩, ⟨cs1, hc2, lc01, lc1⟩, gc1⟩ dl
          rw [upd_ne D1.dg.symm]
          exact hg1
        · intro b' o e' h1 h2
          refine dl _ _ ?_
          rw [upd_ne h1]
          exact dn _ _ e' h1 h2
end
end Dt
/-! rules of our own: types compared, a text times a number -/
namespace TyNe
open PySem PySem.TypeEq
open Sem (wp)
open Builtin
theorem slot_type_ne : Slot "type" (cmpInfo .NotEq).2.1 "object.__ne__" :=
  .of (owner := "object") (n := "__ne__") (by rw [typeLookup_type, builtinLookup_eq_fast]; kernel_rfl) (by decide +kernel) (by decide +kernel) (by decide +kernel)
    (by first | exact .inl (by decide +kernel) | exact .inr (by decide +kernel)) (by rw [isSubtype_type]; kernel_rfl)
theorem slot_type_ne2 : Slot "type" (cmpInfo .NotEq).2.2 "object.__ne__" :=
  .of (owner := "object") (n := "__ne__") (by rw [typeLookup_type, builtinLookup_eq_fast]; kernel_rfl) (by decide +kernel) (by decide +kernel) (by decide +kernel)
    (by first | exact .inl (by decide +kernel) | exact .inr (by decide +kernel)) (by rw [isSubtype_type]; kernel_rfl)
section
variable {prog : Program} {w : World} {A : Around} {E : Value → Shared → Prop} {s : Shared}
theorem call_ne_same {X : String} {Q : Value → Shared → Prop} (hX : ∀ s' : Shared, s'.TypeIs (.type X) "type") (h : Q (.bool false) s) : wpAny (model prog w) A (call (.builtin "object.__ne__") [.type X, .type X]) Q E s := by
  refine wpAny_call (codeAny_call_builtin slot_type_ne.plain F.cmpEntry_ne (slot_type_ne.check _ _ _ _ _ _ _ _ (hX s) (F.cmpArgs_ne _ _) ?_))
  unfold Builtin.«object.__ne__»
  repeat (first
    | with_reducible refine wpAny_cRoomFor_or (.inl rfl) ?_
    | (refine wpAny_bind (m := callSpecialIfBound? (.type X) (Str.ofString "__eq__") [.type X])
        (wpAny_callSpecialIfBound?_slot (hX _) slot_type_eq (call_gives slot_type_eq (hX _) F.entry_object_eq (F.args_object_eq_2 _ _) (object_eq_same rfl (by simp)) ?_)))
    | wp_step)
  show wpAny (model prog w) A.in1 (truthy (.bool true) >>= fun b => ret (.bool !b)) _ _ _
  exact wpAny_bind (wpAny_truthy_bool (wpAny_pure h))
theorem call_ne_other {X Y : String} {Q : Value → Shared → Prop} (hX : ∀ s' : Shared, s'.TypeIs (.type X) "type") (hne : (Value.type X == Value.type Y) = false) (h : Q .notImplemented s) : wpAny (model prog w) A (call (.builtin "object.__ne__") [.type X, .type Y]) Q E s := by
  refine wpAny_call (codeAny_call_builtin slot_type_ne.plain F.cmpEntry_ne (slot_type_ne.check _ _ _ _ _ _ _ _ (hX s) (F.cmpArgs_ne _ _) ?_))
  unfold Builtin.«object.__ne__»
  repeat (first
    | with_reducible refine wpAny_cRoomFor_or (.inl rfl) ?_
    | (refine wpAny_bind (m := callSpecialIfBound? (.type X) (Str.ofString "__eq__") [.type Y])
        (wpAny_callSpecialIfBound?_slot (hX _) slot_type_eq (call_gives slot_type_eq (hX _) F.entry_object_eq (F.args_object_eq_2 _ _) (object_eq_other rfl hne) ?_)))
    | wp_step)
  show wpAny (model prog w) A.in1 (ret .notImplemented) _ _ _
  exact wpAny_pure h
theorem ne_type_same {X : String} {Q : Value → Shared → Prop} (hX : ∀ s' : Shared, s'.TypeIs (.type X) "type") (h : Q (.bool false) s) : wpAny (model prog w) A (compareOp .NotEq (.type X) (.type X)) Q E s := by
  show wpAny _ A (richCompare .NotEq _ _) Q E s
  exact wpAny_richCompare_same (T := "type") (hX s) (hX s) slot_type_ne (call_ne_same hX ⟨(by intro e; cases e), h⟩)
theorem ne_type_other {X Y : String} {Q : Value → Shared → Prop} (hX : ∀ s' : Shared, s'.TypeIs (.type X) "type") (hY : ∀ s' : Shared, s'.TypeIs (.type Y) "type") (hne : (Value.type X == Value.type Y) = false) (h : Q (.bool true) s) :
    wpAny (model prog w) A (compareOp .NotEq (.type X) (.type Y)) Q E s := by
  have hne' : (Value.type Y == Value.type X) = false := by
    rw [Bool.eq_false_iff] at hne ⊢
    intro e
    exact hne (by rw [beq_iff_eq] at e ⊢; exact e.symm)
  show wpAny _ A (richCompare .NotEq _ _) Q E s
  have h1 := slot_type_ne
  have h2 := slot_type_ne2
  rcases hi : cmpInfo CmpOp.NotEq with ⟨sym, f, r⟩
  rw [hi] at h1 h2
  simp only [richCompare, hi, (hX s).oneThing_none]
  try with_reducible refine wpAny_holding ?_
  refine wpAny_bind (wpAny_cRoomFor_or (.inl rfl) ?_)
  refine wpAny_bind (wpAny_typeOf (hX s) (wpAny_bind (wpAny_typeOf (hY s) ?_)))
  simp only [bne_self_eq_false, Bool.false_eq_true, if_false, pure_bind, Bool.not_false, if_true]
  refine wpAny_bind (m := tryCompare _ _ _) (wpAny_tryCompare_declines (hX s) h1 (call_ne_other hX hne ⟨rfl, ?_⟩))
  refine wpAny_bind (m := tryCompare _ _ _) (wpAny_tryCompare_declines (hY _) h2 (call_ne_other hY hne' ⟨rfl, ?_⟩))
  refine wpAny_bind (wpAny_rule (wpAny_bind (wpAny_of_eq (a := false) (by rw [isSame_plain rfl, hne]) (wpAny_pure h))))
end
end TyNe
namespace L2X
open PySem PySem.Spec PyProof.Rows L2
/-- the built-in classes that are compared here -/
def tyOk (a : String) : Bool := a = "int" ∨ a = "str" ∨ a = "bool" ∨ a = "NoneType" ∨ a = "list" ∨ a = "tuple" ∨ a = "dict"
theorem tyOk_is {a : String} (h : tyOk a = true) : ∀ s' : Shared, s'.TypeIs (.type a) "type" := by
  unfold tyOk at h
  rcases of_decide_eq_true h with rfl | rfl | rfl | rfl | rfl | rfl | rfl
  · exact TypeEq.meta_int
  · exact TypeEq.meta_str
  · exact TypeEq.meta_bool
  · exact TypeEq.meta_NoneType
  · exact TypeEq.meta_list
  · exact TypeEq.meta_tuple
  · exact TypeEq.meta_dict
theorem ty_ne {a b : String} (h : a ≠ b) : (Value.type a == Value.type b) = false := beq_eq_false_iff_ne.mpr fun z => h (Value.type.inj z)
def rTyC (g : Bool → Bool) : R2 := fun x y H Q => ∃ a b, x = .ty a ∧ y = .ty b ∧ tyOk a = true ∧ tyOk b = true ∧ Q (.bl (g (decide (a = b)))) H
section
variable {X : Cx}
theorem op_eq_ty : OpR X (compareOp .Eq) (rTyC id) := by
  intro pins s σ H x y v u Q I rx ry h
  obtain ⟨a, b, rfl, rfl, ha, hb, q⟩ := h
  cases (show v = Value.type a from rx)
  cases (show u = Value.type b from ry)
  by_cases e : a = b
  · subst e
    refine TypeEq.eq_type_same (tyOk_is ha) ⟨.bl true, H, I, rfl, ?_⟩
    rw [decide_eq_true rfl] at q
    exact q
  · refine TypeEq.eq_type_other (tyOk_is ha) (tyOk_is hb) (ty_ne e) ⟨.bl false, H, I, rfl, ?_⟩
    rw [decide_eq_false e] at q
    exact q
theorem op_ne_ty : OpR X (compareOp .NotEq) (rTyC not) := by
  intro pins s σ H x y v u Q I rx ry h
  obtain ⟨a, b, rfl, rfl, ha, hb, q⟩ := h
  cases (show v = Value.type a from rx)
  cases (show u = Value.type b from ry)
  by_cases e : a = b
  · subst e
    refine TyNe.ne_type_same (tyOk_is ha) ⟨.bl false, H, I, rfl, ?_⟩
    rw [decide_eq_true rfl] at q
    exact q
  · refine TyNe.ne_type_other (tyOk_is ha) (tyOk_is hb) (ty_ne e) ⟨.bl true, H, I, rfl, ?_⟩
    rw [decide_eq_false e] at q
    exact q
/-- text * n -/
theorem op_mul_str : OpR X (binaryOp .Mult) (fun x y H Q => ∃ z n, x = .str z ∧ y = .int n ∧ MulOk z n ∧ Q (.str (Txt.mul z n)) H) := by
  intro pins s σ H x y v u Q I rx ry h
  obtain ⟨z, n, rfl, rfl, hk, q⟩ := h
  obtain ⟨t, rfl⟩ := rx
  obtain ⟨t', rfl⟩ := ry
  exact SB.mul hk fun t' k => ⟨.str _, H, I.tok _, ⟨_, rfl⟩, q⟩
end
end L2X
namespace Dt
open PySem PySem.Spec PyProof.Rows L2 L2X
open SX (S)
/-- the built-ins that are named in the text -/
structure Tx (mg : Str → Option Value) : Prop where
  len : mg "len" = none
  range : mg "range" = none
  tuple : mg "tuple" = none
  list : mg "list" = none
  int : mg "int" = none
/-! ### _law_begun -/
abbrev sBegun : Stmt := topS 38
theorem scBegun : FnScope ["script", "great", "cell"] ["script"] (defScope sBegun) := ⟨rfl, rfl, rfl, by decide +kernel, rfl, by decide +kernel, by decide +kernel⟩
def spBegun (K : PySem.W.Frag) : Sp := fun vs H Q _ => ∃ (a : Addr) (ns : List Int), vs = [.ref a] ∧ SqL K H a (ns.map V.int) ∧ ns.length ≤ 63 ∧ ∀ (d g c : Addr) (H' : Hp), Same H H' → H d = none → H g = none → Dr H' d g c → Q (.ref d) H'
section
variable {P : Program} {w : World} {K : PySem.W.Frag} {mg : Str → Option Value} {base : Heap}
theorem merge_dr (g c : Addr) (r t : Int) : mergeK [] (drK g c r t) = drK g c r t := by
  have a1 : putK ([] : List (Key × V)) (.inr "great") (.ref g) = [(.inr "great", .ref g)] := putK_new _ rfl
  have a2 : putK [((.inr "great" : Key), V.ref g)] (.inr "rest") (.int r) = [(.inr "great", .ref g), (.inr "rest", .int r)] := putK_new _ ((valV_neg (inr_ne n1)).trans rfl)
  have a3 : putK [((.inr "great" : Key), V.ref g), (.inr "rest", .int r)] (.inr "cells") (.ref c) = [(.inr "great", .ref g), (.inr "rest", .int r), (.inr "cells", .ref c)] := putK_new _ ((valV_neg (inr_ne n2)).trans ((valV_neg (inr_ne n4)).trans rfl))
  have a4 : putK [((.inr "great" : Key), V.ref g), (.inr "rest", .int r), (.inr "cells", .ref c)] (.inr "turn") (.int t) = [(.inr "great", .ref g), (.inr "rest", .int r), (.inr "cells", .ref c), (.inr "turn", .int t)] :=
    putK_new _ ((valV_neg (inr_ne n3)).trans ((valV_neg (inr_ne n5)).trans ((valV_neg (inr_ne n6)).trans rfl)))
  show putK (putK (putK (putK ([] : List (Key × V)) (.inr "great") (.ref g)) (.inr "rest") (.int r)) (.inr "cells") (.ref c)) (.inr "turn") (.int t) = _
  rw [a1, a2, a3, a4]
  rfl
theorem ok_begun {f : Addr} {fd : FuncData} {k : Nat} (F : Fun K "_law_begun" "_law_begun" sBegun f fd) (T : Tx mg) : FnOk P w K mg base CX0 (k + 1) f fd ["script"] (spBegun K) := by
  refine F.ok scBegun (fun vs H Q E h => ?_) (fun cdv A outer s H vs Q E hr h => ?_)
  · obtain ⟨a, ns, rfl, _⟩ := h
    rfl
  · obtain ⟨a, ns, rfl, hS, hl, q⟩ := h
    have hu := hu_of hr
    have nd := scBegun.nd
    refine ⟨_, pss_cons (ps_setLc (i := 1) (own := [("cell", 2)]) (g := gName 2) (by rfl) nd rfl rfl (sw_true rfl rfl rfl (by decide +kernel)) (pi_list (pv 0)) (blkOk_by (N := ["script", "great", "cell"]) (sc := defScope sBegun) (by decide +kernel)) (fun _ _ _ _ _ => pg_name (i := 2) nd rfl (Or.inl rfl)) (fun _ _ _ _ _ => pts_one (pt_cmpR op_ge (pv 2) (pe_op op_pow pe_int pe_int) (nomark _))) (fun _ _ _ _ _ => pv 2))
      (pss_one (ps_ret (pe_disp (pps_cons pe_str (pv 1) (pps_cons pe_str pe_int (pps_cons pe_str (pe_op op_cat (pe_callTy call_list_of (by rfl) T.list (by decide +kernel) (pa_cons (pv 0) pa_nil)) (pe_lst (pa_cons (pe_op op_add (pe_callB call_len_seq (by rfl) T.len PySem.boot_len (pa_cons (pv 0) pa_nil)) pe_int) pa_nil))) (pps_cons pe_str pe_int pps_nil)))) (by rfl) (by rfl) (fun z => by cases z) (by decide)))), ?_⟩
    refine ⟨.ref a, rfl, a, rfl, ⟨_, hS⟩, fun D hD => lc_list (K := K) (a := a) (xs := ns.map V.int) (fun i H2 => Same H H2 ∧ ∃ gs : List Int, H2 D = some (.lst (gs.map V.int)) ∧ gs.length ≤ i) ⟨same_upd hD, [], upd_same, Nat.le_refl _⟩ (fun i H2 _ ⟨sm, _⟩ => sm.seq hS) ?_ ?_⟩
    · rintro i x H2 hi ⟨sm, gs, hg, hlg⟩
      obtain ⟨z, hz, rfl⟩ : ∃ z, ns[i]? = some z ∧ x = V.int z := by
        rw [List.getElem?_map] at hi
        cases e : ns[i]? with
        | none =>
          rw [e] at hi
          cases hi
        | some z =>
          rw [e] at hi
          exact ⟨z, rfl, (Option.some.inj hi).symm⟩
      have hin : i < ns.length := by
        rcases Nat.lt_or_ge i ns.length with h | h
        · exact h
        · rw [List.getElem?_eq_none h] at hz
          cases hz
      refine ⟨rfl, .int z, rfl, 10, 18, rfl, rfl, ⟨by decide, by decide, by decide⟩, z, _, rfl, rfl, _, rfl, ?_⟩
      cases decide ((10 : Int) ^ Int.toNat 18 ≤ z) with
      | false => exact iteF ⟨sm, gs, hg, by omega⟩
      | true =>
        refine iteT ⟨.int z, rfl, gs.map V.int, hg, ?_, ?_, gs ++ [z], ?_, ?_⟩
        · rw [List.length_map]
          exact small1000 (by omega)
        · exact fun b o e => by
            rw [upd_ne (ne_of_none e hD)]
            exact sm _ _ e
        · rw [upd_same, List.map_append]
          rfl
        · rw [List.length_append]
          show gs.length + 1 ≤ i + 1
          omega
    · rintro H2 ⟨sm, gs, hg, hlg⟩
      rw [List.length_map] at hlg
      refine fun p hp => ?_
      have s1 : Same H2 (upd H2 p (.dK [])) := same_upd hp
      have h1 : SqL K (upd H2 p (.dK [])) a (ns.map V.int) := s1.seq (sm.seq hS)
      refine ⟨.ref D, rfl, .ref a, rfl, a, _, rfl, .inl h1, fun l hl2 => ?_⟩
      have s2 := same_upd (o := .lst (ns.map V.int)) hl2
      refine ⟨.ref a, rfl, a, _, rfl, .inl (s2.seq h1), _, 5, rfl, rfl, (by show 1 ≤ sizeLine; decide), fun l2 hl3 => ?_⟩
      have s3 := same_upd (o := .lst [V.int (((ns.map V.int).length : Int) + 5)]) hl3
      refine ⟨l, l2, ns.map V.int, _, rfl, rfl, s3 _ _ upd_same, upd_same, ?_, fun c hc => ?_⟩
      · rw [List.length_map]
        show ns.length + 1 ≤ sizeLine
        exact Nat.le_of_lt (small1000 (by omega))
      · have s4 := same_upd (o := .lst (ns.map V.int ++ [V.int (((ns.map V.int).length : Int) + 5)])) hc
        have hp4 := s4 _ _ (s3 _ _ (s2 _ _ (upd_same (H := H2) (a := p) (o := .dK []))))
        have hD4 := s4 _ _ (s3 _ _ (s2 _ _ (s1 _ _ hg)))
        have nDp : D ≠ p := ne_of_none hg hp
        have npc : p ≠ c := ne_of_none (s3 _ _ (s2 _ _ (upd_same (H := H2) (a := p) (o := .dK [])))) hc
        have nDc : D ≠ c := ne_of_none (s3 _ _ (s2 _ _ (s1 _ _ hg))) hc
        have sA : Same H (upd (upd (upd (upd H2 p (.dK [])) l (.lst (ns.map V.int))) l2 (.lst [V.int (((ns.map V.int).length : Int) + 5)])) c (.lst (ns.map V.int ++ [V.int (((ns.map V.int).length : Int) + 5)]))) := fun b o e => s4 _ _ (s3 _ _ (s2 _ _ (s1 _ _ (sm _ _ e))))
        have hp0 : H p = none := by
          cases e : H p with
          | none => rfl
          | some o =>
            rw [sm _ _ e] at hp
            cases hp
        refine ⟨hp4, drK D c 0 0, rfl, (by show 4 ≤ 15; decide), q p D c _ (fun b o e => ?_) hp0 hD ⟨⟨0, 0, ?_⟩, ⟨gs, ?_, by omega⟩, ⟨ns ++ [(((ns.map V.int).length : Int) + 5)], ?_, ?_, ?_⟩, nDc⟩⟩
        · rw [upd_ne (ne_of_none e hp0)]
          exact sA _ _ e
        · rw [merge_dr]
          exact upd_same
        · rw [upd_ne nDp]
          exact hD4
        · rw [upd_ne npc.symm, upd_same, List.map_append]
          rfl
        · rw [List.length_append]
          show 0 < ns.length + 1
          omega
        · rw [List.length_append]
          show ns.length + 1 ≤ 64
          omega
/-! ### rows and pictures -/
def rv (l : List Nat) : V := .str (S l)
structure RowR (wide : Nat) (l : List Nat) : Prop where
  len : l.length = wide
  sg : ∀ c ∈ l, c = 35 ∨ c = 46
structure PicR (high wide : Nat) (rs : List (List Nat)) : Prop where
  len : rs.length = high
  row : ∀ l ∈ rs, RowR wide l
  h0 : 1 ≤ high
  h1 : high ≤ 60
  w0 : 1 ≤ wide
  w1 : wide ≤ 120
theorem s_dot : ("." : Str) = S [46] := by decide +kernel
theorem s_hash : ("#" : Str) = S [35] := by decide +kernel
theorem s_empty : ("" : Str) = S [] := by decide +kernel
/-! ### a sign many times; signs joined -/
theorem fold_rep (c : Nat) : ∀ (n : Nat) (acc : Array Nat), (List.replicate n #[c]).foldl (· ++ ·) acc = acc ++ (List.replicate n c).toArray
  | 0, acc => by simp
  | n + 1, acc => by
    rw [List.replicate_succ, List.foldl_cons, fold_rep c n (acc ++ #[c]), List.replicate_succ]
    apply Array.ext'
    simp
theorem mul_sign (c n : Nat) (h : 1 ≤ n) : Txt.mul (S [c]) (n : Int) = S (List.replicate n c) := by
  unfold Txt.mul
  rw [if_neg (by omega)]
  by_cases e : n = 1
  · subst e
    rfl
  · have e1 : (((n : Int) == 1) || (S [c]).length == 0) = false := by
      have a1 : ((n : Int) == 1) = false := by
        rw [beq_eq_false_iff_ne]
        omega
      rw [a1]
      rfl
    rw [e1, if_neg Bool.false_ne_true]
    have q := fold_rep c n #[]
    show (⟨(List.replicate (n : Int).toNat #[c]).foldl (· ++ ·) #[]⟩ : Str) = _
    rw [Int.toNat_natCast, q]
    simp [S]
theorem mul_ok (c n : Nat) (h : 1 ≤ n) (h2 : n ≤ 120) : MulOk (S [c]) (n : Int) := by
  refine ⟨?_, fun _ _ => ?_, fun _ _ => ?_⟩
  · rw [Bool.or_eq_false_iff, decide_eq_false_iff_not, decide_eq_false_iff_not]
    omega
  · show ¬ ((1 : Nat) : Int) > (2 ^ 63 - 1) / (n : Int)
    have : (1 : Int) ≤ (2 ^ 63 - 1) / (n : Int) := (Int.le_ediv_iff_mul_le (by omega)).mpr (by omega)
    omega
  · have e : (S [c]).length * (n : Int).toNat = n := by
      show 1 * (n : Int).toNat = n
      omega
    rw [e]
    unfold Builtin.Str.tooLong
    have z : n ≤ sizeLine := Nat.le_of_lt (small1000 (by omega))
    first
      | (rw [decide_eq_false_iff_not]; omega)
      | (simp; omega)
theorem joinL_ones : ∀ cs : List Nat, TL.joinL [] (cs.map fun c => [c]) = cs
  | [] => rfl
  | [c] => rfl
  | c :: d :: r => by
    show [c] ++ ([] ++ TL.joinL [] ((d :: r).map fun c => [c])) = _
    rw [joinL_ones (d :: r)]
    rfl
theorem join_ones (cs : List Nat) : Txt.join "" (cs.map fun c => S [c]) = S cs := by
  rw [s_empty]
  have e := SX.join_S [] (cs.map fun c => [c])
  rw [joinL_ones, List.map_map] at e
  exact e
theorem lens_ones : ∀ cs : List Nat, ((cs.map fun c => S [c]).map (·.length)).sum = cs.length
  | [] => rfl
  | c :: r => by
    show 1 + ((r.map fun c => S [c]).map (·.length)).sum = r.length + 1
    rw [lens_ones r, Nat.add_comm]
theorem row_rep (c wide : Nat) (h : c = 35 ∨ c = 46) : RowR wide (List.replicate wide c) := ⟨List.length_replicate, fun x hx => by rw [(List.mem_replicate.mp hx).2]; exact h⟩
theorem Dr.new {d g c p : Addr} {H : Hp} (D : Dr H d g c) (hn : H p = none) : p ≠ d ∧ p ≠ g := by
  obtain ⟨⟨r, t, h1⟩, ⟨gs, h2, _⟩, _, _⟩ := D
  exact ⟨fun z => by (rw [z, h1] at hn; cases hn), fun z => by (rw [z, h2] at hn; cases hn)⟩
/-! ### _law_picture -/
abbrev sPic : Stmt := topS 41
theorem scPic : FnScope ["draw", "high", "wide", "share", "rows", "r", "row", "c"] ["draw", "high", "wide"] (defScope sPic) := ⟨rfl, rfl, rfl, by decide +kernel, rfl, by decide +kernel, by decide +kernel⟩
def spPic : Sp := fun vs H Q _ => ∃ (d g c : Addr) (high wide : Nat), vs = [.ref d, .int high, .int wide] ∧ Dr H d g c ∧ 1 ≤ high ∧ high ≤ 60 ∧ 1 ≤ wide ∧ wide ≤ 120 ∧
  ∀ (a : Addr) (rs : List (List Nat)) (H' : Hp), PicR high wide rs → H a = none → H' a = some (.tup (rs.map rv)) → Dr H' d g c → Dn d g H H' → Q (.ref a) H'
theorem ok_pic {f fN : Addr} {fd fdN : FuncData} {k : Nat} (F : Fun K "_law_picture" "_law_picture" sPic f fd) (T : Tx mg) (GN : FnOk P w K mg base CX0 (k + 1) fN fdN ["draw", "below"] spNext) (mN : mg "_law_next" = some (.ref fN)) (kN : PySem.W.keepIn K (.ref fN) = true) (bN : Binds K fdN ["draw", "below"] []) : FnOk P w K mg base CX0 (k + 2) f fd ["draw", "high", "wide"] spPic := by
  refine F.ok scPic (fun vs H Q E h => ?_) (fun cdv A outer s H vs Q E hr h => ?_)
  · obtain ⟨d, g, c, high, wide, rfl, _⟩ := h
    rfl
  · obtain ⟨d, g, c, high, wide, rfl, D, h0, h1, w0, w1, q⟩ := h
    have hu := hu_of hr
    have nd := scPic.nd
    refine ⟨_, pss_cons (ps_asg (pe_tup (pa_cons (pe_ix ix_list (pe_lst (pa_cons pe_int (pa_cons pe_int (pa_cons pe_int pa_nil)))) (pe_call GN hr (by rfl) mN kN bN .nil pass0 (pa_cons (pv 0) (pa_cons pe_int pa_nil))) (fun _ _ => rfl)) (pa_cons (pe_lst pa_nil) pa_nil))) (pg_tup rfl (pgs_cons (pg_name (i := 3) nd rfl (.inr rfl)) (pgs_cons (pg_name (i := 4) nd rfl (.inl rfl)) pgs_nil))))
      (pss_cons (ps_for PassesOwn.never rfl (pi_range1 rfl T.range (pa_cons (pv 1) pa_nil)) (pg_name (i := 5) nd rfl (.inl rfl))
        (pss_cons (ps_set (i := 6) nd rfl (.inl rfl) (pe_join pe_str (pe_lc (own := [("c", 7)]) (g := gName 7) (tt := tYes) rfl nd (pi_range1 rfl T.range (pa_cons (pv 2) pa_nil)) (blkOk_by (N := ["draw", "high", "wide", "share", "rows", "r", "row", "c"]) (sc := defScope sPic) (by decide +kernel)) (fun _ _ _ _ _ => pg_name (i := 7) nd rfl (Or.inl rfl)) (fun _ _ _ _ _ => pts_nil)
            (fun _ _ _ _ _ => pe_ifExp (pt_cmpR op_eq (pe_call GN hr (by rfl) mN kN bN .nil pass0 (pa_cons (pv 0) (pa_cons (pv 3) pa_nil))) pe_int (nomark _)) pe_str pe_str))))
        (pss_one (ps_expr (pe_bm PySem.F.plainAttrs_list PySem.F.slot_list_append PySem.F.type_list_append mt_append (pv 4) (pa_cons (pe_ix ix_list (pe_lst (pa_cons (pv 6) (pa_cons (pv 6) (pa_cons (pv 6) (pa_cons (pe_op op_mul_str pe_str (pv 2)) (pa_cons (pe_op op_mul_str pe_str (pv 2)) pa_nil)))))) (pe_call GN hr (by rfl) mN kN bN .nil pass0 (pa_cons (pv 0) (pa_cons pe_int pa_nil))) (fun _ _ => rfl)) pa_nil))))))
      (pss_one (ps_ret (pe_callTy call_tuple_of (by rfl) T.tuple (by decide +kernel) (pa_cons (pv 4) pa_nil))))), ?_⟩
    refine ⟨by show 3 ≤ sizeLine; decide, fun l hl => ?_⟩
    have sl := same_upd (o := .lst [V.int 2, V.int 3, V.int 6]) hl
    refine ⟨.ref d, rfl, d, g, c, 3, rfl, D.same sl, by decide, by decide, fun n H1 hn0 hn1 D1 dn1 => ?_⟩
    obtain ⟨nld, nlg⟩ := D.new hl
    have hl1 := dn1 _ _ (upd_same (H := H) (a := l) (o := .lst [V.int 2, V.int 3, V.int 6])) nld nlg
    obtain ⟨sh, hsh0, hsh1, hat⟩ : ∃ sh : Int, 0 < sh ∧ sh < 1073741824 ∧ atI [V.int 2, V.int 3, V.int 6] n = some (.int sh) := by
      rcases (show n = 0 ∨ n = 1 ∨ n = 2 by omega) with x | x | x <;> rw [x]
      · exact ⟨2, by decide, by decide, rfl⟩
      · exact ⟨3, by decide, by decide, rfl⟩
      · exact ⟨6, by decide, by decide, rfl⟩
    have dnA : Dn d g H H1 := (Dn.same sl).trans dn1
    refine ⟨l, _, n, .int sh, rfl, rfl, SqL.of hl1, hat, ?_⟩
    refine ⟨by show 0 ≤ sizeLine; decide, fun l2 hl2 => ⟨by show 2 ≤ sizeLine; decide, fun t ht => ?_⟩⟩
    refine ⟨t, _, rfl, SqT.of upd_same, rfl, .int sh, _, rfl, .ref l2, [], rfl, rfl, ?_⟩
    have s2 := same_upd (o := .lst []) hl2
    have s3 := same_upd (o := .tup [V.int sh, V.ref l2]) ht
    have hl2' := s3 _ _ (upd_same (H := H1) (a := l2) (o := .lst []))
    have hl20 : H l2 = none := dnA.nn D1 hl2
    obtain ⟨n2d, n2g⟩ := D.new hl20
    have b1 : (-(2 ^ 62) : Int) ≤ (high : Int) ∧ (high : Int) < 2 ^ 62 := ⟨by omega, by omega⟩
    have b2 : (-(2 ^ 62) : Int) ≤ (wide : Int) ∧ (wide : Int) < 2 ^ 62 := ⟨by omega, by omega⟩
    refine ⟨.int high, rfl, high, rfl, b1.1, b1.2, for_range (lo := 0) (n := high) (fun i σ H2 => ∃ (y5 y6 : Option V) (rs : List (List Nat)), σ = [some (.ref d), some (.int high), some (.int wide), some (.int sh), some (.ref l2), y5, y6, none] ∧ rs.length = i ∧ (∀ l ∈ rs, RowR wide l) ∧ H2 l2 = some (.lst (rs.map rv)) ∧ Dr H2 d g c ∧ Dn d g H H2)
      ⟨none, none, [], rfl, rfl, (fun _ h => nomatch h), hl2', (D1.same s2).same s3, (dnA.trans (Dn.same s2)).trans (Dn.same s3)⟩ ?_ ?_⟩
    · rintro i σ H2 hi ⟨y5, y6, rs, rfl, hrl, hrow, h2l, D2, dn2⟩
      refine ⟨⟨_, rfl⟩, .int wide, rfl, wide, rfl, b2.1, b2.2, fun Dd hDd => lc_range (lo := 0) (n := wide) (fun j H3 => ∃ cs : List Nat, cs.length = j ∧ (∀ c ∈ cs, c = 35 ∨ c = 46) ∧ H3 Dd = some (.lst (cs.map fun c => rv [c])) ∧ H3 l2 = some (.lst (rs.map rv)) ∧ Dr H3 d g c ∧ Dn d g H H3) ?_ ?_ ?_⟩
      · have sD := same_upd (o := .lst []) hDd
        exact ⟨[], rfl, (fun _ h => nomatch h), upd_same, sD _ _ h2l, D2.same sD, dn2.trans (Dn.same sD)⟩
      · rintro j H3 hj ⟨cs, hcl, hcs, h3D, h3l, D3, dn3⟩
        obtain ⟨nDd, nDg⟩ := D2.new hDd
        refine ⟨rfl, .ref d, rfl, .int sh, rfl, d, g, c, sh, rfl, D3, hsh0, hsh1, fun m H4 hm0 hm1 D4 dn4 => ⟨rfl, _, rfl, ?_⟩⟩
        have h4D := dn4 _ _ h3D nDd nDg
        have h4l := dn4 _ _ h3l n2d n2g
        have nDl : Dd ≠ l2 := (ne_of_none h2l hDd).symm
        have fin : ∀ x : Nat, x = 35 ∨ x = 46 → ∃ acc, H4 Dd = some (.lst acc) ∧ acc.length < sizeLine ∧ ∃ cs : List Nat, cs.length = j + 1 ∧ (∀ c ∈ cs, c = 35 ∨ c = 46) ∧ (upd H4 Dd (.lst (acc ++ [rv [x]]))) Dd = some (.lst (cs.map fun c => rv [c])) ∧ (upd H4 Dd (.lst (acc ++ [rv [x]]))) l2 = some (.lst (rs.map rv)) ∧ Dr (upd H4 Dd (.lst (acc ++ [rv [x]]))) d g c ∧ Dn d g H (upd H4 Dd (.lst (acc ++ [rv [x]]))) := fun x hx => by
          refine ⟨_, h4D, ?_, cs ++ [x], ?_, ?_, ?_, ?_, ?_, ?_⟩
          · rw [List.length_map]
            exact small1000 (by omega)
          · rw [List.length_append, hcl]
            rfl
          · intro y hy
            rcases List.mem_append.mp hy with z | z
            · exact hcs y z
            · rw [List.mem_singleton.mp z]
              exact hx
          · rw [upd_same, List.map_append]
            rfl
          · rw [upd_ne nDl.symm]
            exact h4l
          · obtain ⟨⟨r, t', e1⟩, ⟨gs, e2, e3⟩, ⟨ks, e4, e5⟩, e6⟩ := id D4
            have nDc : Dd ≠ c := by
              obtain ⟨_, _, ⟨ks', e4', _⟩, _⟩ := id D2
              exact (ne_of_none e4' hDd).symm
            exact ⟨⟨r, t', by rw [upd_ne nDd.symm]; exact e1⟩, ⟨gs, by rw [upd_ne nDg.symm]; exact e2, e3⟩, ⟨ks, by rw [upd_ne nDc.symm]; exact e4, e5⟩, e6⟩
          · intro b o e hb1 hb2
            have hb3 : b ≠ Dd := ne_of_none (dn2 b o e hb1 hb2) hDd
            rw [upd_ne hb3]
            exact dn4 b o (dn3 b o e hb1 hb2) hb1 hb2
        cases decide (V.int m = V.int 0) with
        | true =>
          refine iteT ?_
          have e := fin 35 (.inl rfl)
          unfold rv at e
          rw [← s_hash] at e
          exact e
        | false =>
          refine iteF ?_
          have e := fin 46 (.inr rfl)
          unfold rv at e
          rw [← s_dot] at e
          exact e
      · rintro H3 ⟨cs, hcl, hcs, h3D, h3l, D3, dn3⟩
        have rowcs : RowR wide cs := ⟨hcl, hcs⟩
        refine ⟨"", Dd, cs.map fun c => S [c], rfl, rfl, .inl (SqL.of ?_), ?_, ?_⟩
        · rw [h3D, List.map_map]
          rfl
        · rw [lens_ones]
          show cs.length + _ * 0 ≤ 16777216
          omega
        · rw [join_ones]
          refine ⟨.ref l2, rfl, .inl ⟨rfl, _, SqL.of h3l⟩, .str (S cs), rfl, .str (S cs), rfl, .str (S cs), rfl, .int wide, rfl, ".", wide, rfl, rfl, ?_, .int wide, rfl, "#", wide, rfl, rfl, ?_, (by show 5 ≤ sizeLine; decide), fun l3 hl3 => ?_⟩
          · rw [s_dot]
            exact mul_ok 46 wide w0 w1
          · rw [s_hash]
            exact mul_ok 35 wide w0 w1
          · rw [s_dot, s_hash, mul_sign 46 wide w0, mul_sign 35 wide w0]
            have s5 := same_upd (o := .lst [V.str (S cs), V.str (S cs), V.str (S cs), V.str (S (List.replicate wide 46)), V.str (S (List.replicate wide 35))]) hl3
            refine ⟨.ref d, rfl, d, g, c, 5, rfl, D3.same s5, by decide, by decide, fun n5 H5 hn50 hn51 D5 dn5 => ?_⟩
            obtain ⟨n3d, n3g⟩ := D3.new hl3
            have h5l3 := dn5 _ _ (upd_same (H := H3) (a := l3)) n3d n3g
            have h5l2 := dn5 _ _ (s5 _ _ h3l) n2d n2g
            obtain ⟨lr, hlr, hat5⟩ : ∃ lr : List Nat, RowR wide lr ∧ atI [V.str (S cs), V.str (S cs), V.str (S cs), V.str (S (List.replicate wide 46)), V.str (S (List.replicate wide 35))] n5 = some (rv lr) := by
              rcases (show n5 = 0 ∨ n5 = 1 ∨ n5 = 2 ∨ n5 = 3 ∨ n5 = 4 by omega) with x | x | x | x | x <;> rw [x]
              · exact ⟨cs, rowcs, rfl⟩
              · exact ⟨cs, rowcs, rfl⟩
              · exact ⟨cs, rowcs, rfl⟩
              · exact ⟨_, row_rep 46 wide (.inr rfl), rfl⟩
              · exact ⟨_, row_rep 35 wide (.inl rfl), rfl⟩
            refine ⟨l3, _, n5, rv lr, rfl, rfl, SqL.of h5l3, hat5, l2, _, _, rfl, rfl, h5l2, ?_, ?_⟩
            · rw [List.length_map]
              exact small1000 (by omega)
            · refine ⟨_, _, rs ++ [lr], rfl, ?_, ?_, ?_, ?_, ?_⟩
              · rw [List.length_append, hrl]
                rfl
              · intro y hy
                rcases List.mem_append.mp hy with z | z
                · exact hrow y z
                · rw [List.mem_singleton.mp z]
                  exact hlr
              · rw [upd_same, List.map_append]
                rfl
              · obtain ⟨⟨r, t', e1⟩, ⟨gs, e2, e3⟩, ⟨ks, e4, e5⟩, e6⟩ := id D5
                have n2c : l2 ≠ c := by
                  obtain ⟨_, _, ⟨ks', e4', _⟩, _⟩ := id D
                  exact (ne_of_none e4' hl20).symm
                exact ⟨⟨r, t', by rw [upd_ne n2d.symm]; exact e1⟩, ⟨gs, by rw [upd_ne n2g.symm]; exact e2, e3⟩, ⟨ks, by rw [upd_ne n2c.symm]; exact e4, e5⟩, e6⟩
              · intro b o e hb1 hb2
                have hb3 : b ≠ l2 := ne_of_none e hl20
                rw [upd_ne hb3]
                exact dn5 b o (s5 b o (dn3 b o e hb1 hb2)) hb1 hb2
    · rintro σ H2 ⟨y5, y6, rs, rfl, hrl, hrow, h2l, D2, dn2⟩
      refine ⟨.ref l2, rfl, l2, _, rfl, .inl ⟨SqL.of h2l, fun p hp => ?_⟩⟩
      have sp := same_upd (o := .tup (rs.map rv)) hp
      exact q p rs _ ⟨hrl, hrow, h0, h1, w0, w1⟩ (dn2.nn D2 hp) upd_same (D2.same sp) (dn2.trans (Dn.same sp))
end
end Dt
namespace Dt
open PySem PySem.Spec PyProof.Rows L2 L2X
open SX (S)
/-! ### _law_sized, _law_pick -/
def spSized : Sp := fun vs H Q _ => ∃ (d g c : Addr), vs = [.ref d] ∧ Dr H d g c ∧ ∀ (high wide : Nat) (a : Addr) (rs : List (List Nat)) (H' : Hp), PicR high wide rs → H a = none → H' a = some (.tup (rs.map rv)) → Dr H' d g c → Dn d g H H' → Q (.ref a) H'
abbrev sPick : Stmt := topS 40
theorem scPick : FnScope ["draw", "some"] ["draw", "some"] (defScope sPick) := ⟨rfl, rfl, rfl, by decide +kernel, rfl, by decide +kernel, by decide +kernel⟩
def spPick (K : PySem.W.Frag) : Sp := fun vs H Q _ => ∃ (d g c l : Addr) (xs : List V), vs = [.ref d, .ref l] ∧ Dr H d g c ∧ H l = some (.lst xs) ∧ l ≠ g ∧ 0 < xs.length ∧ xs.length ≤ 1000 ∧ ∀ (n : Nat) (x : V) (H' : Hp), xs[n]? = some x → Dr H' d g c → Dn d g H H' → Q x H'
section
variable {P : Program} {w : World} {K : PySem.W.Frag} {mg : Str → Option Value} {base : Heap}
theorem ok_pick {f fN : Addr} {fd fdN : FuncData} {k : Nat} (F : Fun K "_law_pick" "_law_pick" sPick f fd) (T : Tx mg) (GN : FnOk P w K mg base CX0 (k + 1) fN fdN ["draw", "below"] spNext) (mN : mg "_law_next" = some (.ref fN)) (kN : PySem.W.keepIn K (.ref fN) = true) (bN : Binds K fdN ["draw", "below"] []) : FnOk P w K mg base CX0 (k + 2) f fd ["draw", "some"] (spPick K) := by
  refine F.ok scPick (fun vs H Q E h => ?_) (fun cdv A outer s H vs Q E hr h => ?_)
  · obtain ⟨d, g, c, l, xs, rfl, _⟩ := h
    rfl
  · obtain ⟨d, g, c, l, xs, rfl, D, hl, nlg, x0, x1, q⟩ := h
    have hu := hu_of hr
    have nd := scPick.nd
    have nld : l ≠ d := by
      obtain ⟨⟨r, t, e⟩, _⟩ := D
      exact ne_of hl e (by intro z; cases z)
    refine ⟨_, pss_one (ps_ret (pe_ix ix_list (pv 1) (pe_call GN hr (by rfl) mN kN bN .nil pass0 (pa_cons (pv 0) (pa_cons (pe_callB call_len_seq (by rfl) T.len PySem.boot_len (pa_cons (pv 1) pa_nil)) pa_nil))) (fun _ _ => rfl))), ?_⟩
    refine ⟨.ref l, rfl, .ref d, rfl, .ref l, rfl, l, xs, rfl, .inl (SqL.of hl), d, g, c, (xs.length : Int), rfl, D, by omega, by omega, fun n H1 hn0 hn1 D1 dn1 => ?_⟩
    obtain ⟨j, rfl⟩ := Int.eq_ofNat_of_zero_le hn0
    have hj : j < xs.length := by omega
    have hx : xs[j]? = some xs[j] := List.getElem?_eq_getElem hj
    exact ⟨l, xs, (j : Int), xs[j], rfl, rfl, SqL.of (dn1 _ _ hl nld nlg), atI_nat hx, q j _ H1 hx D1 dn1⟩
end
end Dt


namespace Dt
open PySem PySem.Spec PyProof.Rows L2 L2X
open SX (S)
/-! ### what is a picture -/
def rowOk : V → Bool
  | .str x => decide (1 ≤ x.length) && decide (x.length ≤ 120) && decide (Txt.count x "#" + Txt.count x "." = (x.length : Int))
  | _ => false
theorem rowOk_str (x : Str) : rowOk (.str x) = (decide (1 ≤ x.length) && decide (x.length ≤ 120) && decide (Txt.count x "#" + Txt.count x "." = (x.length : Int))) := rfl
def lenV : V → Int
  | .str x => x.length
  | _ => 0
def picOk (xs : List V) : Bool := decide (1 ≤ xs.length) && decide (xs.length ≤ 60) && xs.all rowOk && xs.all fun y => decide (lenV y = lenV (xs.headD .non))
/-- a thing of a known kind -/
def Kn (K : PySem.W.Frag) (H : Hp) (x : V) : Prop := (∃ T, TyB K H x T ∧ tyOk T = true) ∧ ∀ z, x = .str z → z.length ≤ sizeLine
structure Tp (mg : Str → Option Value) : Prop where
  typ : mg "type" = none
  str : mg "str" = none
  all : mg "all" = none
  mr : ∃ t, mg "MOST_ROWS" = some (.int 60 t)
  mc : ∃ t, mg "MOST_COLUMNS" = some (.int 120 t)
abbrev sIsText : Stmt := topS 18
theorem scIsText : FnScope ["thing"] ["thing"] (defScope sIsText) := ⟨rfl, rfl, rfl, by decide +kernel, rfl, by decide +kernel, by decide +kernel⟩
def isStr : V → Bool
  | .str _ => true
  | _ => false
def spIsText (K : PySem.W.Frag) : Sp := fun vs H Q _ => ∃ x, vs = [x] ∧ Kn K H x ∧ Q (.bl (isStr x)) H
abbrev sIsRow : Stmt := topS 25
theorem scIsRow : FnScope ["thing"] ["thing"] (defScope sIsRow) := ⟨rfl, rfl, rfl, by decide +kernel, rfl, by decide +kernel, by decide +kernel⟩
def spIsRow (K : PySem.W.Frag) : Sp := fun vs H Q _ => ∃ x, vs = [x] ∧ Kn K H x ∧ Q (.bl (rowOk x)) H
theorem isStr_ty {K : PySem.W.Frag} {H : Hp} {x : V} {T : String} (t : TyB K H x T) : decide (T = "str") = isStr x := by
  cases t <;> rfl
section
variable {P : Program} {w : World} {K : PySem.W.Frag} {mg : Str → Option Value} {base : Heap}
theorem ok_isText {f : Addr} {fd : FuncData} {k : Nat} (F : Fun K "is_text" "is_text" sIsText f fd) (T : Tp mg) : FnOk P w K mg base CX0 (k + 1) f fd ["thing"] (spIsText K) := by
  refine F.ok scIsText (fun vs H Q E h => ?_) (fun cdv A outer s H vs Q E hr h => ?_)
  · obtain ⟨x, rfl, _⟩ := h
    rfl
  · obtain ⟨x, rfl, ⟨⟨Ty, ht, ok⟩, _⟩, q⟩ := h
    refine ⟨_, pss_one (ps_ret (pe_cmpR op_eq_ty (pe_callTy call_type1 (by rfl) T.typ (by decide +kernel) (pa_cons (pv 0) pa_nil)) (pe_bltn (v := .ty "str") (u := .type "str") (by rfl) T.str (by decide +kernel) rfl) (nomark _))), ?_⟩
    refine ⟨x, rfl, x, Ty, rfl, ht, Ty, "str", rfl, rfl, ok, rfl, ?_⟩
    have e : id (decide (Ty = "str")) = isStr x := isStr_ty ht
    rw [e]
    exact q
theorem ok_isRow {f fT : Addr} {fd fdT : FuncData} {k : Nat} (F : Fun K "_is_row" "_is_row" sIsRow f fd) (T : Tp mg) (X : Tx mg) (GT : FnOk P w K mg base CX0 (k + 1) fT fdT ["thing"] (spIsText K)) (mT : mg "is_text" = some (.ref fT)) (kT : PySem.W.keepIn K (.ref fT) = true) (bT : Binds K fdT ["thing"] []) : FnOk P w K mg base CX0 (k + 2) f fd ["thing"] (spIsRow K) := by
  refine F.ok scIsRow (fun vs H Q E h => ?_) (fun cdv A outer s H vs Q E hr h => ?_)
  · obtain ⟨x, rfl, _⟩ := h
    rfl
  · obtain ⟨x, rfl, kn, q⟩ := h
    obtain ⟨t, hmc⟩ := T.mc
    refine ⟨_, pss_cons (ps_if (PW.pt (pw_or (pt_not (pt_val (pe_call GT hr (by rfl) mT kT bT .nil pass0 (pa_cons (pv 0) pa_nil)))) (pw_or1 (pt_not (pt_chain op_le op_le pe_int (pe_callB call_len_str (by rfl) X.len PySem.boot_len (pa_cons (pv 0) pa_nil)) (pe_glob (v := .int 120) (by rfl) hmc ⟨_, rfl⟩))))))
        (pss_one (ps_ret pe_bl)) pss_nil)
      (pss_one (ps_ret (pe_cmpR op_eq (pe_op op_add (pe_m1 PySem.F.slot_str_count PySem.F.type_str_count mt_count (pv 0) pe_str) (pe_m1 PySem.F.slot_str_count PySem.F.type_str_count mt_count (pv 0) pe_str)) (pe_callB call_len_str (by rfl) X.len PySem.boot_len (pa_cons (pv 0) pa_nil)) (nomark _)))), ?_⟩
    refine ⟨x, rfl, x, rfl, kn, _, rfl, ?_⟩
    cases x with
    | str z =>
      have hz := kn.2 z rfl
      refine iteF ?_
      refine ⟨.str z, rfl, z, rfl, hz, 1, _, rfl, rfl, _, rfl, ?_⟩
      refine ite2 (fun e => ?_) (fun e => ?_)
      · refine ⟨_, 120, rfl, rfl, _, rfl, ite2 (fun e2 => ?_) (fun e2 => ?_)⟩
        · have e3 : ¬ z.length ≤ 120 := fun le => by
            have : decide ((z.length : Int) ≤ 120) = true := decide_eq_true (by omega)
            rw [this] at e2
            cases e2
          have e4 : rowOk (.str z) = false := by
            rw [rowOk_str, decide_eq_false e3, Bool.and_false, Bool.false_and]
          rw [e4] at q
          exact q
        · have e3 : z.length ≤ 120 := by
            have h1 : ¬ ((!decide ((z.length : Int) ≤ 120)) = true) := e2
            have h2 : decide ((z.length : Int) ≤ 120) = true := by
              cases hh : decide ((z.length : Int) ≤ 120) with
              | true => rfl
              | false =>
                rw [hh] at h1
                exact absurd rfl h1
            have := of_decide_eq_true h2
            omega
          have e1 : 1 ≤ z.length := by
            have := of_decide_eq_true e
            omega
          refine ⟨.str z, rfl, ⟨_, rfl⟩, z, "#", rfl, rfl, .str z, rfl, ⟨_, rfl⟩, z, ".", rfl, rfl, _, _, rfl, rfl, .str z, rfl, z, rfl, hz, rfl, ?_⟩
          have e4 : rowOk (.str z) = decide (V.int (Txt.count z "#" + Txt.count z ".") = V.int (z.length : Int)) := by
            rw [rowOk_str, decide_eq_true e1, decide_eq_true e3, Bool.true_and, Bool.true_and]
            exact Bool.eq_iff_iff.mpr ⟨fun h => decide_eq_true (congrArg V.int (of_decide_eq_true h)), fun h => decide_eq_true (V.int.inj (of_decide_eq_true h))⟩
          rw [e4] at q
          exact q
      · have e1 : ¬ 1 ≤ z.length := fun le => e (decide_eq_true (by omega))
        have e4 : rowOk (.str z) = false := by
          rw [rowOk_str, decide_eq_false e1, Bool.false_and, Bool.false_and]
        rw [e4] at q
        exact ⟨_, rfl, q⟩
    | _ => exact iteT (iteT q)
/-! ### is_picture -/
abbrev sIsPic : Stmt := topS 24
theorem scIsPic : FnScope ["thing", "row"] ["thing"] (defScope sIsPic) := ⟨rfl, rfl, rfl, by decide +kernel, rfl, by decide +kernel, by decide +kernel⟩
/-- a thing as is_picture may be asked: no tuple, or a tuple whose items are of known kinds -/
def Asked (K : PySem.W.Frag) (H : Hp) (x : V) (b : Bool) : Prop :=
  (∃ T, TyB K H x T ∧ tyOk T = true ∧ T ≠ "tuple" ∧ b = false) ∨ ∃ a xs, x = .ref a ∧ SqT K H a xs ∧ (xs.length ≤ 60 → ∀ y ∈ xs, Kn K H y) ∧ b = picOk xs
def spIsPic (K : PySem.W.Frag) : Sp := fun vs H Q _ => ∃ x b, vs = [x] ∧ Asked K H x b ∧ ∀ H', Same H H' → Q (.bl b) H'
theorem sameT {K : PySem.W.Frag} {H H' : Hp} {a : Addr} {xs : List V} (e : Same H H') (h : SqT K H a xs) : SqT K H' a xs := by
  rcases h with (h | ⟨o, h⟩) | h
  · exact .inl (.inl (e _ _ h))
  · exact .inl (.inr ⟨o, e _ _ h⟩)
  · exact .inr h
theorem Kn.same {H H' : Hp} {x : V} (h : Kn K H x) (s : Same H H') : Kn K H' x := by
  obtain ⟨⟨T, t, ok⟩, hz⟩ := h
  refine ⟨⟨T, ?_, ok⟩, hz⟩
  cases t with
  | non => exact .non
  | bl b => exact .bl b
  | int i => exact .int i
  | str x => exact .str x
  | byt b => exact .byt b
  | lst h => exact .lst (s.seq h)
  | tup h => exact .tup (sameT s h)
  | dK h => exact .dK (s _ _ h)
theorem iteE {c : Bool} {A B : Prop} (e : c = false) (h : B) : if c = true then A else B := by
  rw [e]
  exact iteF h
theorem iteY {c : Bool} {A B : Prop} (e : c = true) (h : A) : if c = true then A else B := by
  rw [e]
  exact iteT h
theorem take_snoc {α : Type} {xs : List α} {i : Nat} {x : α} (h : xs[i]? = some x) : xs.take (i + 1) = xs.take i ++ [x] := by
  rw [List.take_add_one, h]
  rfl
theorem all_map_id {α : Type} (f : α → Bool) : ∀ xs : List α, (xs.map f).all id = xs.all f
  | [] => rfl
  | x :: r => by
    show (id (f x) && (r.map f).all id) = (f x && r.all f)
    rw [all_map_id f r]
    rfl
theorem bls {α : Type} (f : α → Bool) (xs : List α) : xs.map (fun y => V.bl (f y)) = (xs.map f).map V.bl := by
  rw [List.map_map]
  rfl
theorem ok_isPic {f fR : Addr} {fd fdR : FuncData} {k : Nat} (F : Fun K "is_picture" "is_picture" sIsPic f fd) (T : Tp mg) (X : Tx mg) (GR : FnOk P w K mg base CX0 (k + 1) fR fdR ["thing"] (spIsRow K)) (mR : mg "_is_row" = some (.ref fR)) (kR : PySem.W.keepIn K (.ref fR) = true) (bR : Binds K fdR ["thing"] []) : FnOk P w K mg base CX0 (k + 2) f fd ["thing"] (spIsPic K) := by
  refine F.ok scIsPic (fun vs H Q E h => ?_) (fun cdv A outer s H vs Q E hr h => ?_)
  · obtain ⟨x, b, rfl, _⟩ := h
    rfl
  · obtain ⟨x, b, rfl, ask, q⟩ := h
    obtain ⟨t, hmr⟩ := T.mr
    have nd := scIsPic.nd
    refine ⟨_, pss_cons (ps_if (PW.pt (pw_or (pt_cmpR op_ne_ty (pe_callTy call_type1 (by rfl) T.typ (by decide +kernel) (pa_cons (pv 0) pa_nil)) (pe_bltn (v := .ty "tuple") (u := .type "tuple") (by rfl) X.tuple (by decide +kernel) rfl) (nomark _)) (pw_or1 (pt_not (pt_chain op_le op_le pe_int (pe_callB call_len_seq (by rfl) X.len PySem.boot_len (pa_cons (pv 0) pa_nil)) (pe_glob (v := .int 60) (by rfl) hmr ⟨_, rfl⟩))))))
        (pss_one (ps_ret pe_bl)) pss_nil)
      (pss_cons (ps_if (pt_not (pt_val (pe_callB (cr_all rfl) (by rfl) T.all (by decide +kernel) (pa_cons (pe_lc (own := [("row", 1)]) (g := gName 1) (tt := tYes) rfl nd (pi_tup (pv 0)) (blkOk_by (N := ["thing", "row"]) (sc := defScope sIsPic) (by decide +kernel)) (fun _ _ _ _ _ => pg_name (i := 1) nd rfl (Or.inl rfl)) (fun _ _ _ _ _ => pts_nil)
            (fun _ _ _ _ _ => pe_call GR hr (by rfl) mR kR bR .nil pass0 (pa_cons (pv 1) pa_nil))) pa_nil)))) (pss_one (ps_ret pe_bl)) pss_nil)
      (pss_one (ps_ret (pe_callB (cr_all rfl) (by rfl) T.all (by decide +kernel) (pa_cons (pe_lc (own := [("row", 1)]) (g := gName 1) (tt := tYes) rfl nd (pi_tup (pv 0)) (blkOk_by (N := ["thing", "row"]) (sc := defScope sIsPic) (by decide +kernel)) (fun _ _ _ _ _ => pg_name (i := 1) nd rfl (Or.inl rfl)) (fun _ _ _ _ _ => pts_nil)
            (fun _ _ _ _ _ => pe_cmpR op_eq (pe_callB call_len_str (by rfl) X.len PySem.boot_len (pa_cons (pv 1) pa_nil)) (pe_callB call_len_str (by rfl) X.len PySem.boot_len (pa_cons (pe_ix (r := rIxT K) ix_tup (pv 0) pe_int (fun _ _ => rfl)) pa_nil)) (nomark _))) pa_nil))))), ?_⟩
    rcases ask with ⟨Ty, ht, ok, ne, rfl⟩ | ⟨a, xs, rfl, hx, kn, rfl⟩
    · refine ⟨x, rfl, x, Ty, rfl, ht, Ty, "tuple", rfl, rfl, ok, rfl, _, rfl, ?_⟩
      have e : not (decide (Ty = "tuple")) = true := by rw [decide_eq_false ne]; rfl
      exact iteY e (q H (Same.refl H))
    · refine ⟨.ref a, rfl, .ref a, "tuple", rfl, .tup hx, "tuple", "tuple", rfl, rfl, rfl, rfl, _, rfl, iteE (by decide) ?_⟩
      refine ⟨.ref a, rfl, a, xs, rfl, .inr hx, 1, _, rfl, rfl, _, rfl, ite2 (fun e => ?_) (fun e => ?_)⟩
      · have e1 : 1 ≤ xs.length := by
          have := of_decide_eq_true e
          omega
        refine ⟨_, 60, rfl, rfl, _, rfl, ite2 (fun e2 => ?_) (fun e2 => ?_)⟩
        · have e3 : ¬ xs.length ≤ 60 := fun le => by
            have : decide ((xs.length : Int) ≤ 60) = true := decide_eq_true (by omega)
            rw [this] at e2
            cases e2
          have z : picOk xs = false := by
            unfold picOk
            rw [decide_eq_false e3, Bool.and_false, Bool.false_and, Bool.false_and]
          rw [z] at q
          exact q H (Same.refl H)
        · have e3 : xs.length ≤ 60 := by
            have h1 : ¬ ((!decide ((xs.length : Int) ≤ 60)) = true) := e2
            have h2 : decide ((xs.length : Int) ≤ 60) = true := by
              cases hh : decide ((xs.length : Int) ≤ 60) with
              | true => rfl
              | false =>
                rw [hh] at h1
                exact absurd rfl h1
            have := of_decide_eq_true h2
            omega
          have kn' := kn e3
          refine ⟨.ref a, rfl, a, rfl, ⟨_, hx⟩, fun Dd hDd => lc_tup (K := K) (a := a) (xs := xs) (fun i H2 => Same H H2 ∧ H2 Dd = some (.lst ((xs.take i).map fun y => V.bl (rowOk y)))) ⟨same_upd hDd, upd_same⟩ (fun i H2 _ z => sameT z.1 hx) ?_ ?_⟩
          · rintro i y H2 hi ⟨sm, h2⟩
            have hm : y ∈ xs := List.mem_of_getElem? hi
            refine ⟨rfl, y, rfl, y, rfl, (kn' y hm).same sm, _, h2, ?_, ?_, ?_⟩
            · rw [List.length_map, List.length_take]
              exact small1000 (by omega)
            · exact fun b o e => by
                rw [upd_ne (ne_of_none e hDd)]
                exact sm _ _ e
            · rw [upd_same, take_snoc hi, List.map_append]
              rfl
          · rintro H2 ⟨sm, h2⟩
            rw [List.take_length, bls] at h2
            refine ⟨Dd, xs.map rowOk, rfl, SqL.of h2, _, rfl, ?_⟩
            rw [all_map_id]
            cases eall : xs.all rowOk with
            | false =>
              have z : picOk xs = false := by
                unfold picOk
                rw [eall, Bool.and_false, Bool.false_and]
              rw [z] at q
              exact q H2 sm
            | true =>
              have hx2 : SqT K H2 a xs := sameT sm hx
              obtain ⟨x0, r0, rfl⟩ : ∃ x0 r0, xs = x0 :: r0 := by
                cases xs with
                | nil => exact absurd e1 (by decide)
                | cons x0 r0 => exact ⟨x0, r0, rfl⟩
              have isS : ∀ y ∈ x0 :: r0, ∃ z : Str, y = .str z ∧ z.length ≤ sizeLine := fun y hy => by
                have h := List.all_eq_true.mp eall y hy
                cases y with
                | str z => exact ⟨z, rfl, (kn' _ hy).2 z rfl⟩
                | _ => cases h
              obtain ⟨z0, ez0, hz0⟩ := isS x0 List.mem_cons_self
              refine ⟨.ref a, rfl, a, rfl, ⟨_, hx2⟩, fun D2 hD2 => lc_tup (K := K) (a := a) (xs := x0 :: r0) (fun i H3 => Same H2 H3 ∧ H3 D2 = some (.lst (((x0 :: r0).take i).map fun y => V.bl (decide (lenV y = lenV x0))))) ⟨same_upd hD2, upd_same⟩ (fun i H3 _ z => sameT z.1 hx2) ?_ ?_⟩
              · rintro i y H3 hi ⟨sm3, h3⟩
                have hm : y ∈ x0 :: r0 := List.mem_of_getElem? hi
                obtain ⟨zy, ey, hzy⟩ := isS y hm
                refine ⟨rfl, y, rfl, zy, by rw [ey], hzy, .ref a, rfl, a, x0 :: r0, 0, x0, rfl, rfl, sameT sm3 hx2, atI_nat (j := 0) rfl, z0, by rw [ez0], hz0, rfl, _, h3, ?_, ?_, ?_⟩
                · rw [List.length_map, List.length_take]
                  exact small1000 (by omega)
                · exact fun b o e => by
                    rw [upd_ne (ne_of_none e hD2)]
                    exact sm3 _ _ e
                · rw [upd_same, take_snoc hi, List.map_append]
                  have e5 : decide (V.int (zy.length : Int) = V.int (z0.length : Int)) = decide (lenV y = lenV x0) := by
                    rw [ey, ez0]
                    exact Bool.eq_iff_iff.mpr ⟨fun h => decide_eq_true (V.int.inj (of_decide_eq_true h)), fun h => decide_eq_true (congrArg V.int (of_decide_eq_true h))⟩
                  rw [e5]
                  rfl
              · rintro H3 ⟨sm3, h3⟩
                rw [List.take_length, bls] at h3
                refine ⟨D2, _, rfl, SqL.of h3, ?_⟩
                rw [all_map_id]
                have z : picOk (x0 :: r0) = (x0 :: r0).all fun y => decide (lenV y = lenV x0) := by
                  unfold picOk
                  rw [eall, decide_eq_true e1, decide_eq_true e3]
                  rfl
                rw [z] at q
                exact q H3 (sm.trans sm3)
      · have e1 : ¬ 1 ≤ xs.length := fun le => e (decide_eq_true (by omega))
        have z : picOk xs = false := by
          unfold picOk
          rw [decide_eq_false e1, Bool.false_and, Bool.false_and, Bool.false_and]
        rw [z] at q
        exact ⟨_, rfl, q H (Same.refl H)⟩
end
end Dt
namespace Dt
open PySem PySem.Spec PyProof.Rows L2 L2X
open SX (S)
/-! ### refusals -/
/-- the class NoPicture, as the top has made it, at C -/
structure Tn (K : PySem.W.Frag) (mg : Str → Option Value) (C : Addr) : Prop where
  g : mg "NoPicture" = some (.ref C)
  x : PySem.W.excIn K C [.type "ValueError", .type "Exception", .type "BaseException", .type "object"] "ValueError.__new__" = true
  k : PySem.W.keepIn K (.ref C) = true
  b : PySem.W.subIn K (.ref C) (.type "BaseException") = some true
  t : PySem.W.typeIn K (.ref C) = some (.type "type")
abbrev sWant : Stmt := topS 26
theorem scWant : FnScope ["thing"] ["thing"] (defScope sWant) := ⟨rfl, rfl, rfl, by decide +kernel, rfl, by decide +kernel, by decide +kernel⟩
def spWant (K : PySem.W.Frag) (C : Addr) : Sp := fun vs H Q E => ∃ x b, vs = [x] ∧ Asked K H x b ∧ (b = true → ∀ H', Same H H' → Q .non H') ∧ (b = false → ∀ H', Same H H' → E (.ref C) none H')
section
variable {P : Program} {w : World} {K : PySem.W.Frag} {mg : Str → Option Value} {base : Heap} {C : Addr}
theorem ok_want {f fP : Addr} {fd fdP : FuncData} {k : Nat} (F : Fun K "want_picture" "want_picture" sWant f fd) (N : Tn K mg C) (GP : FnOk P w K mg base CX0 (k + 1) fP fdP ["thing"] (spIsPic K)) (mP : mg "is_picture" = some (.ref fP)) (kP : PySem.W.keepIn K (.ref fP) = true) (bP : Binds K fdP ["thing"] []) :
    FnOk P w K mg base (L2.CX P w) (k + 2) f fd ["thing"] (spWant K C) := by
  refine F.okX scWant (fun vs H Q E h => ?_) (fun cdv A outer s H vs Q E hr h => ?_)
  · obtain ⟨x, b, rfl, _⟩ := h
    rfl
  · obtain ⟨x, b, rfl, ask, q1, q2⟩ := h
    refine ⟨_, pss_one (ps_if (pt_not (pt_val (pe_call GP hr (by rfl) mP kP bP .nil pass0 (pa_cons (pv 0) pa_nil)))) (pss_one (ps_raise rfl (takes_of rfl rfl rfl rfl) (pmk_own PySem.F.excBase_ValueError N.x N.g N.k (raises_own N.b N.t) rfl))) pss_nil), ?_⟩
    refine ⟨x, rfl, x, b, rfl, ask, fun H' sm => ⟨_, rfl, ?_⟩⟩
    cases b with
    | true => exact iteF (q1 rfl H' sm)
    | false => exact iteT (q2 rfl H' sm)
end
end Dt
namespace L2X
open PySem PySem.Spec PyProof.Rows L2
section
variable {X : Cx}
/-- a tuple once is itself -/
theorem tuple_mul1 (l : Addr) (items : Array Value) (n : Nat) (dd : Option Addr) (sl : Array (Option Value)) (u : Tok) :
    Meets (Builtin.«tuple.__mul__» ⟨[.ref l, .int 1 u], []⟩) (fun _ R s => s.heap.get? l = some { cls := .type "tuple", dict := dd, data := .seq items n, slots := sl } ∧ R (.ok (.ret (Value.ref l))) s) :=
  .of_wp fun prog w A R s h => by
    obtain ⟨hp, g, d, tk, os⟩ := s
    obtain ⟨hl, h⟩ := h
    have f1 := AutoSeq1.idx_int
    wp_walk using wpAny_loadPart' hl
    exact ⟨_, rfl, h⟩
/-- list(text) -/
theorem vals_signs : ∀ (l : List Nat) (its : List Value), l.length = its.length → (∀ (j : Nat) (v : Value), its[j]? = some v → ∃ (c : Nat) (u : Tok), l[j]? = some c ∧ v = Value.str ⟨#[c]⟩ u) → Vals (l.map fun c => V.str ⟨#[c]⟩) its
  | [], [], _, _ => .nil
  | [], _ :: _, h, _ => by cases h
  | _ :: _, [], h, _ => by cases h
  | c :: r, v :: t, h, g => by
    obtain ⟨c', u, e1, e2⟩ := g 0 v rfl
    have e3 : c = c' := Option.some.inj e1
    subst e3
    refine .cons ⟨u, e2⟩ (vals_signs r t (Nat.succ.inj h) fun j w e => ?_)
    obtain ⟨c2, u2, e4, e5⟩ := g (j + 1) w e
    exact ⟨c2, u2, e4, e5⟩
theorem call_listS (hc : X.calm = true) : CallR X (.type "list") (fun xs H Q => ∃ x : Str, xs = [.str x] ∧ x.length ≤ sizeLine ∧ ∀ l, H l = none → Q (.ref l) (upd H l (.lst (x.cps.toList.map fun c => V.str ⟨#[c]⟩)))) := by
  intro pins s σ H xs us Q I r h
  obtain ⟨x, rfl, hx, q⟩ := h
  obtain ⟨u, rfl, t, rfl⟩ := vals1 r
  refine call_list_str (I.ok.hd hc) x t (fun h' tk acc c' keeps got it => ?_) hx
  have hl : x.cps.toList.length = acc.toList.length := by
    rw [Array.length_toList, Array.length_toList, it.1]
  have vs := vals_signs x.cps.toList acc.toList hl fun j v e => by
    obtain ⟨c, u', e1, e2⟩ := it.2 j v (by rw [← Array.getElem?_toList]; exact e)
    exact ⟨c, u', by rw [Array.getElem?_toList]; exact e1, e2⟩
  refine ⟨.ref s.heap.objs.size, _, I.laid (t' := tk) keeps (Nat.le_refl _) ?_, rfl, q _ (I.hok.fresh (Nat.le_refl _))⟩
  refine ⟨?_, acc.toList, c', vs, ?_⟩
  · rw [List.length_map]
    exact hx
  · rw [got]
/-- t * n, n from 1 on -/
def rRepA (K : PySem.W.Frag) : R2 := fun x y H Q => ∃ l k xs, x = .ref l ∧ y = .int k ∧ SqT K H l xs ∧ xs ≠ [] ∧ 1 ≤ k ∧ k ≤ 1000 ∧ xs.length ≤ 1000 ∧ (k = 1 → Q (.ref l) H) ∧ (2 ≤ k → ∀ p, H p = none → Q (.ref p) (upd H p (.tup (List.replicate k.toNat xs).flatten)))
theorem op_repA : OpR X (binaryOp .Mult) (rRepA X.K) := by
  intro pins s σ H x y v u Q I rx ry h
  obtain ⟨l, k, xs, rfl, rfl, hT, hne, h1, h2, hz, q1, q2⟩ := h
  by_cases e1 : k = 1
  · subst e1
    cases rx
    obtain ⟨t, rfl⟩ := ry
    obtain ⟨its, _, ⟨⟨cls, dd, data, sl⟩, got, hc, n, hd⟩, _⟩ := I.tuple hT
    simp only at hc hd
    subst hc hd
    have once := tuple_mul1 l its.toArray n dd sl t
    have back := int_rmul_tuple 1 t l its.toArray n dd sl
    refine wpAny_binaryOp_repeat_ref (T := "tuple") (U := "int") (by decide) ⟨_, got, rfl⟩ (fun s' => typeIs_int s' 1 t)
      noFill_tuple_mul F.fills_int_mul F.slot_int_rmul repeat_tuple F.slot_int_index.lookup ?_
    refine call_meets F.slot_int_rmul (typeIs_int s 1 t) F.entry_int_rmul (F.args_int_rmul_2 _ _) back ⟨got, rfl, ⟨_, got, rfl⟩, ?_⟩
    refine call_meets F.slot_tuple_mul ⟨_, got, rfl⟩ F.entry_tuple_mul (F.args_tuple_mul_2 _ _) once ⟨got, ?_⟩
    exact ⟨.ref l, H, I, rfl, q1 rfl⟩
  · exact op_repT pins s σ H _ _ v u Q I rx ry ⟨l, k, xs, rfl, rfl, hT, hne, by omega, h2, hz, q2 (by omega)⟩
end
end L2X
namespace Dt
open PySem PySem.Spec PyProof.Rows L2 L2X
open SX (S)
/-! ### rows and pictures by their signs -/
theorem cnt_two : ∀ l : List Nat, cnt 35 l + cnt 46 l ≤ l.length ∧ (cnt 35 l + cnt 46 l = l.length ↔ ∀ c ∈ l, c = 35 ∨ c = 46)
  | [] => ⟨by rw [cnt_nil, cnt_nil]; exact Int.le_refl _, by rw [cnt_nil, cnt_nil]; exact ⟨fun _ _ h => (List.not_mem_nil h).elim, fun _ => rfl⟩⟩
  | n :: r => by
    obtain ⟨h1, h2⟩ := cnt_two r
    rw [cnt_cons, cnt_cons, List.length_cons]
    have e : ∀ c ∈ n :: r, (c = 35 ∨ c = 46) ↔ True ∧ (c = 35 ∨ c = 46) := fun c _ => by simp
    by_cases a : n = 35
    · subst a
      rw [if_pos rfl, if_neg (by decide)]
      refine ⟨by omega, ⟨fun z => ?_, fun z => ?_⟩⟩
      · have z2 := h2.mp (by omega)
        intro c hc
        rcases List.mem_cons.mp hc with q | q
        · exact .inl q
        · exact z2 c q
      · have := h2.mpr fun c hc => z c (List.mem_cons_of_mem _ hc)
        omega
    · by_cases b : n = 46
      · subst b
        rw [if_neg (by decide), if_pos rfl]
        refine ⟨by omega, ⟨fun z => ?_, fun z => ?_⟩⟩
        · have z2 := h2.mp (by omega)
          intro c hc
          rcases List.mem_cons.mp hc with q | q
          · exact .inr q
          · exact z2 c q
        · have := h2.mpr fun c hc => z c (List.mem_cons_of_mem _ hc)
          omega
      · rw [if_neg a, if_neg b]
        refine ⟨by omega, ⟨fun z => by omega, fun z => ?_⟩⟩
        rcases z n List.mem_cons_self with q | q
        · exact absurd q a
        · exact absurd q b
theorem rowOk_S (l : List Nat) : rowOk (.str (S l)) = (decide (1 ≤ l.length) && decide (l.length ≤ 120) && decide (∀ c ∈ l, c = 35 ∨ c = 46)) := by
  have e : decide (Txt.count (S l) "#" + Txt.count (S l) "." = ((S l).length : Int)) = decide (∀ c ∈ l, c = 35 ∨ c = 46) := by
    rw [s_hash, s_dot, count_cnt, count_cnt, SX.S_len]
    exact Bool.eq_iff_iff.mpr ⟨fun h => decide_eq_true ((cnt_two l).2.mp (of_decide_eq_true h)), fun h => decide_eq_true ((cnt_two l).2.mpr (of_decide_eq_true h))⟩
  rw [rowOk_str, e, SX.S_len]
theorem rowOk_rv {wide : Nat} {l : List Nat} (h : RowR wide l) (w0 : 1 ≤ wide) (w1 : wide ≤ 120) : rowOk (rv l) = true := by
  unfold rv
  rw [rowOk_S, h.len, decide_eq_true w0, decide_eq_true w1, decide_eq_true h.sg]
  rfl
theorem rowOk_bad {l : List Nat} {c : Nat} (hc : c ∈ l) (h1 : c ≠ 35) (h2 : c ≠ 46) : rowOk (.str (S l)) = false := by
  rw [rowOk_S, decide_eq_false (p := ∀ c ∈ l, c = 35 ∨ c = 46), Bool.and_false]
  intro z
  rcases z c hc with q | q
  · exact h1 q
  · exact h2 q
theorem rowOk_len {l : List Nat} (h : l.length = 0 ∨ 120 < l.length) : rowOk (.str (S l)) = false := by
  rw [rowOk_S]
  rcases h with h | h
  · rw [decide_eq_false (by omega : ¬ 1 ≤ l.length)]
    rfl
  · rw [decide_eq_false (by omega : ¬ l.length ≤ 120), Bool.and_false, Bool.false_and]
theorem lenV_S (l : List Nat) : lenV (.str (S l)) = (l.length : Int) := by
  show ((S l).length : Int) = _
  rw [SX.S_len]
theorem picOk_pic {high wide : Nat} {rs : List (List Nat)} (h : PicR high wide rs) : picOk (rs.map rv) = true := by
  unfold picOk
  have a1 : decide (1 ≤ (rs.map rv).length) = true := decide_eq_true (by rw [List.length_map, h.len]; exact h.h0)
  have a2 : decide ((rs.map rv).length ≤ 60) = true := decide_eq_true (by rw [List.length_map, h.len]; exact h.h1)
  have a3 : (rs.map rv).all rowOk = true := List.all_eq_true.mpr fun y hy => by
    obtain ⟨l, hl, rfl⟩ := List.mem_map.mp hy
    exact rowOk_rv (h.row l hl) h.w0 h.w1
  have len : ∀ y ∈ rs.map rv, lenV y = (wide : Int) := fun y hy => by
    obtain ⟨l, hl, rfl⟩ := List.mem_map.mp hy
    unfold rv
    rw [lenV_S, (h.row l hl).len]
  have a4 : ((rs.map rv).all fun y => decide (lenV y = lenV ((rs.map rv).headD .non))) = true := List.all_eq_true.mpr fun y hy => by
    refine decide_eq_true ?_
    rw [len y hy]
    cases e : rs.map rv with
    | nil =>
      rw [e] at hy
      cases hy
    | cons x r =>
      have z := len x (by rw [e]; exact List.mem_cons_self)
      exact z.symm
  rw [a1, a2, a3, a4]
  rfl
/-- one row put in the place of another: no picture -/
theorem picOk_odd {high wide r : Nat} {rs : List (List Nat)} {one : V} (h : PicR high wide rs) (hr : r < high) (b : rowOk one = false ∨ (2 ≤ high ∧ lenV one ≠ (wide : Int))) :
    picOk ((rs.map rv).take r ++ [one] ++ (rs.map rv).drop (r + 1)) = false := by
  cases e : picOk ((rs.map rv).take r ++ [one] ++ (rs.map rv).drop (r + 1)) with
  | false => rfl
  | true =>
    exfalso
    unfold picOk at e
    rw [Bool.and_eq_true, Bool.and_eq_true, Bool.and_eq_true] at e
    obtain ⟨⟨⟨_, _⟩, e3⟩, e4⟩ := e
    have m1 : one ∈ (rs.map rv).take r ++ [one] ++ (rs.map rv).drop (r + 1) := by simp
    rcases b with b | ⟨b1, b2⟩
    · have z := List.all_eq_true.mp e3 one m1
      rw [b] at z
      cases z
    · have len : ∀ y ∈ rs.map rv, lenV y = (wide : Int) := fun y hy => by
        obtain ⟨l, hl, rfl⟩ := List.mem_map.mp hy
        unfold rv
        rw [lenV_S, (h.row l hl).len]
      obtain ⟨y, m2, hy⟩ : ∃ y, y ∈ (rs.map rv).take r ++ [one] ++ (rs.map rv).drop (r + 1) ∧ y ∈ rs.map rv := by
        have hl : (rs.map rv).length = high := by rw [List.length_map, h.len]
        by_cases hr0 : r = 0
        · subst hr0
          have : 1 < (rs.map rv).length := by omega
          refine ⟨(rs.map rv)[1], ?_, List.getElem_mem _⟩
          refine List.mem_append_right _ ?_
          exact List.mem_of_getElem? (i := 0) (by rw [List.getElem?_drop, List.getElem?_eq_getElem this])
        · have : 0 < (rs.map rv).length := by omega
          refine ⟨(rs.map rv)[0], ?_, List.getElem_mem _⟩
          refine List.mem_append_left _ (List.mem_append_left _ ?_)
          exact List.mem_of_getElem? (i := 0) (by rw [List.getElem?_take, if_pos (by omega), List.getElem?_eq_getElem this])
      have z1 := of_decide_eq_true (List.all_eq_true.mp e4 one m1)
      have z2 := of_decide_eq_true (List.all_eq_true.mp e4 y m2)
      exact b2 (z1.trans (z2.symm.trans (len y hy)))
end Dt
namespace Dt
open PySem PySem.Spec PyProof.Rows L2 L2X
open SX (S)
theorem pss_never {X : Cx} {st : List Stmt} : PSs X st (fun _ _ _ => False) := ⟨fun _ _ _ _ _ _ h => h.elim⟩
theorem pg_never {X : Cx} {tg : Expr} : PG X tg (fun _ _ _ _ => False) := ⟨fun _ _ _ _ _ _ _ _ _ h => h.elim⟩
abbrev sSize : Stmt := topS 27
theorem scSize : FnScope ["picture"] ["picture"] (defScope sSize) := ⟨rfl, rfl, rfl, by decide +kernel, rfl, by decide +kernel, by decide +kernel⟩
/-- size of a picture, or of what is none -/
def spSize (K : PySem.W.Frag) (C : Addr) : Sp := fun vs H Q E => ∃ x, vs = [x] ∧ ((Asked K H x false ∧ ∀ H', Same H H' → E (.ref C) none H') ∨
  ∃ a xs, x = .ref a ∧ SqT K H a xs ∧ (∀ y ∈ xs, Kn K H y) ∧ picOk xs = true ∧ ∀ p H', Same H H' → H p = none → H' p = some (.tup [.int (xs.length : Int), .int (lenV (xs.headD .non))]) → Q (.ref p) H')
theorem Asked.same {K : PySem.W.Frag} {H H' : Hp} {x : V} {b : Bool} (h : Asked K H x b) (s : Same H H') : Asked K H' x b := by
  rcases h with ⟨T, t, ok, ne, e⟩ | ⟨a, xs, e, h1, h2, e2⟩
  · refine .inl ⟨T, ?_, ok, ne, e⟩
    cases t with
    | non => exact .non
    | bl b => exact .bl b
    | int i => exact .int i
    | str x => exact .str x
    | byt b => exact .byt b
    | lst h => exact .lst (s.seq h)
    | tup h => exact .tup (sameT s h)
    | dK h => exact .dK (s _ _ h)
  · exact .inr ⟨a, xs, e, sameT s h1, fun l y hy => (h2 l y hy).same s, e2⟩
section
variable {P : Program} {w : World} {K : PySem.W.Frag} {mg : Str → Option Value} {base : Heap} {C : Addr}
/-- want_picture, and whoever calls it first -/
structure GW (P : Program) (w : World) (K : PySem.W.Frag) (mg : Str → Option Value) (base : Heap) (C : Addr) (k : Nat) : Prop where
  ex : ∃ f fd, FnOk P w K mg base (L2.CX P w) k f fd ["thing"] (spWant K C) ∧ mg "want_picture" = some (.ref f) ∧ PySem.W.keepIn K (.ref f) = true ∧ Binds K fd ["thing"] []
structure GS (P : Program) (w : World) (K : PySem.W.Frag) (mg : Str → Option Value) (base : Heap) (C : Addr) (k : Nat) : Prop where
  ex : ∃ f fd, FnOk P w K mg base (L2.CX P w) k f fd ["picture"] (spSize K C) ∧ mg "size" = some (.ref f) ∧ PySem.W.keepIn K (.ref f) = true ∧ Binds K fd ["picture"] []
theorem ok_size {f : Addr} {fd : FuncData} {k : Nat} (F : Fun K "size" "size" sSize f fd) (X : Tx mg) (G : GW P w K mg base C (k + 1)) : FnOk P w K mg base (L2.CX P w) (k + 2) f fd ["picture"] (spSize K C) := by
  obtain ⟨fW, fdW, GW, mW, kW, bW⟩ := G.ex
  refine F.okX scSize (fun vs H Q E h => ?_) (fun cdv A outer s H vs Q E hr h => ?_)
  · obtain ⟨x, rfl, _⟩ := h
    rfl
  · obtain ⟨x, rfl, h⟩ := h
    refine ⟨_, pss_cons (ps_expr (pe_callS GW hr (by rfl) mW kW bW (fun σ => passAt (takes_of rfl rfl rfl rfl) σ) (pa_cons (pv 0) pa_nil)))
      (pss_one (ps_ret (pe_tup (pa_cons (pe_callB call_len_seq (by rfl) X.len PySem.boot_len (pa_cons (pv 0) pa_nil)) (pa_cons (pe_callB call_len_str (by rfl) X.len PySem.boot_len (pa_cons (pe_ix (r := rIxT K) ix_tup (pv 0) pe_int (fun _ _ => rfl)) pa_nil)) pa_nil))))), ?_⟩
    rcases h with ⟨ask, q⟩ | ⟨a, xs, rfl, hx, kn, ok, q⟩
    · exact ⟨x, rfl, x, false, rfl, ask, (fun e => nomatch e), fun _ H' sm => q H' sm⟩
    · refine ⟨.ref a, rfl, .ref a, true, rfl, .inr ⟨a, xs, rfl, hx, fun _ => kn, ok.symm⟩, fun _ H' sm => ?_, fun e => nomatch e⟩
      have hx' := sameT sm hx
      unfold picOk at ok
      rw [Bool.and_eq_true, Bool.and_eq_true, Bool.and_eq_true] at ok
      obtain ⟨⟨⟨o1, o2⟩, o3⟩, o4⟩ := ok
      cases xs with
      | nil => exact absurd (of_decide_eq_true o1) (by decide)
      | cons x0 r =>
        have hk := List.all_eq_true.mp o3 x0 List.mem_cons_self
        cases x0 with
        | str z =>
          have hz := (kn _ List.mem_cons_self).2 z rfl
          refine ⟨.ref a, rfl, a, _, rfl, .inr hx', .ref a, rfl, a, _, 0, .str z, rfl, rfl, hx', atI_nat (j := 0) rfl, z, rfl, hz, by show 2 ≤ sizeLine; decide, fun p hp => ?_⟩
          exact q p _ (sm.trans (same_upd hp)) (sm.free hp) upd_same
        | _ => cases hk
end
theorem upd_at2 {H : Hp} {p : Addr} {o : HO} : (upd H p o) p = some o := upd_same
theorem kn_str2 {K : PySem.W.Frag} {H : Hp} {z : Str} (h : z.length ≤ sizeLine) : Kn K H (.str z) := ⟨⟨"str", .str z, rfl⟩, fun y e => by cases e; exact h⟩
theorem kn_rows {K : PySem.W.Frag} {H : Hp} {high wide : Nat} {rs : List (List Nat)} (h : PicR high wide rs) : ∀ y ∈ rs.map rv, Kn K H y := by
  intro y hy
  obtain ⟨x, hx, rfl⟩ := List.mem_map.mp hy
  refine kn_str2 ?_
  show x.length ≤ sizeLine
  have := (h.row x hx).len
  have := h.w1
  exact Nat.le_of_lt (small1000 (by omega))
theorem askPic {K : PySem.W.Frag} {H : Hp} {high wide : Nat} {rs : List (List Nat)} {a : Addr} (h : PicR high wide rs) (e : H a = some (.tup (rs.map rv))) : Asked K H (.ref a) true :=
  .inr ⟨a, _, rfl, SqT.of e, fun _ => kn_rows h, (picOk_pic h).symm⟩
theorem picSize {high wide : Nat} {rs : List (List Nat)} (h : PicR high wide rs) : (((rs.map rv).length : Nat) : Int) = (high : Int) ∧ lenV ((rs.map rv).headD .non) = (wide : Int) := by
  refine ⟨by rw [List.length_map, h.len], ?_⟩
  cases rs with
  | nil =>
    have h1 := h.len
    have h2 := h.h0
    simp at h1
    omega
  | cons l r =>
    have e := (h.row l List.mem_cons_self).len
    show lenV (rv l) = _
    unfold rv
    rw [lenV_S, e]
end Dt
namespace L2X
open PySem PySem.Spec PyProof.Rows L2
theorem eqAt_ty {A : Around} {s : Shared} {a b : String} (ha : tyOk a = true) (hb : tyOk b = true) : SeqAt.EqAt A s (.type a) (.type b) (decide (a = b)) := fun prog w E Q h => by
  unfold eqBool
  refine wpAny_holding ?_
  by_cases e : a = b
  · subst e
    rw [decide_eq_true rfl] at h
    refine wpAny_ite_split (fun _ => ?_) (fun n => absurd (beq_self_eq_true _) n)
    exact wpAny_pure (M := model prog w) (E := E) h
  · rw [decide_eq_false e] at h
    refine wpAny_ite_split (fun q => ?_) (fun _ => ?_)
    · rw [ty_ne e] at q
      cases q
    · have z : wpAny (model prog w) A (compareOp .Eq (.type a) (.type b)) (fun v s' => v = .bool false ∧ s' = s) E s := TypeEq.eq_type_other (tyOk_is ha) (tyOk_is hb) (ty_ne e) ⟨rfl, rfl⟩
      exact wpAny_bind (wpAny_mono z (fun v s' q => by
        obtain ⟨rfl, rfl⟩ := q
        exact wpAny_truthy_bool h) fun _ _ x => x)
def tyIs (a : String) : Value → Bool
  | .type T => decide (T = a)
  | _ => false
def rInTy (K : PySem.W.Frag) : R2 := fun x y H Q => ∃ (a : String) (p : Addr) (ts : List String), x = .ty a ∧ y = .ref p ∧ SqT K H p (ts.map V.ty) ∧ tyOk a = true ∧ ts.all tyOk = true ∧ Q (.bl (ts.any fun t => decide (t = a))) H
theorem vals_tys : ∀ {ts : List String} {us : List Value}, Vals (ts.map V.ty) us → us = ts.map Value.type
  | [], _, .nil => rfl
  | t :: ts, _, .cons r rr => by
    cases (show _ = Value.type t from r)
    rw [vals_tys rr]
    rfl
theorem op_in_ty {X : Cx} : OpR X (compareOp .In) (rInTy X.K) := by
  intro pins s σ H x y v u Q I rx ry h
  obtain ⟨a, p, ts, rfl, rfl, hq, ha, hts, q⟩ := h
  cases ry
  cases (show v = Value.type a from rx)
  obtain ⟨its, r, pl, hz⟩ := I.tuple hq
  have e := vals_tys r
  subst e
  refine SeqAt.in_tupleAt (tyIs a) pl (fun w hw => ?_) ⟨.bl _, H, I, rfl, ?_⟩
  · obtain ⟨t, ht, rfl⟩ : ∃ t, t ∈ ts ∧ w = Value.type t := by
      obtain ⟨t, ht, e⟩ := List.mem_map.mp (show w ∈ ts.map Value.type by simpa using hw)
      exact ⟨t, ht, e.symm⟩
    exact eqAt_ty (List.all_eq_true.mp hts t ht) ha
  · have e : (ts.map Value.type).toArray.any (tyIs a) = ts.any fun t => decide (t = a) := by
      simp [List.any_map]
      rfl
    rw [e]
    exact q
end L2X
namespace Dt
open PySem PySem.Spec PyProof.Rows L2 L2X
/-! ### kinds -/
def isInt : V → Bool
  | .int _ => true
  | _ => false
theorem isInt_ty {K : PySem.W.Frag} {H : Hp} {x : V} {T : String} (t : TyB K H x T) : decide (T = "int") = isInt x := by
  cases t <;> rfl
def betw : V → Int → Int → Bool
  | .int i, lo, hi => decide (lo ≤ i) && decide (i ≤ hi)
  | _, _, _ => false
theorem betw_int (i lo hi : Int) : betw (.int i) lo hi = (decide (lo ≤ i) && decide (i ≤ hi)) := rfl
theorem betw_no {x : V} {lo hi : Int} (h : isInt x = false) : betw x lo hi = false := by
  cases x with
  | int i => cases h
  | _ => rfl
/-- a thing of a known kind -/
def Kt (K : PySem.W.Frag) (H : Hp) (x : V) : Prop := ∃ T, TyB K H x T ∧ tyOk T = true
abbrev sIsNum : Stmt := topS 16
theorem scIsNum : FnScope ["thing"] ["thing"] (defScope sIsNum) := ⟨rfl, rfl, rfl, by decide +kernel, rfl, by decide +kernel, by decide +kernel⟩
def spIsNum (K : PySem.W.Frag) : Sp := fun vs H Q _ => ∃ x, vs = [x] ∧ Kt K H x ∧ Q (.bl (isInt x)) H
abbrev sBetw : Stmt := topS 17
theorem scBetw : FnScope ["thing", "least", "most"] ["thing", "least", "most"] (defScope sBetw) := ⟨rfl, rfl, rfl, by decide +kernel, rfl, by decide +kernel, by decide +kernel⟩
def spBetw (K : PySem.W.Frag) : Sp := fun vs H Q _ => ∃ x lo hi, vs = [x, .int lo, .int hi] ∧ Kt K H x ∧ Q (.bl (betw x lo hi)) H
abbrev sIsList : Stmt := topS 19
theorem scIsList : FnScope ["thing"] ["thing"] (defScope sIsList) := ⟨rfl, rfl, rfl, by decide +kernel, rfl, by decide +kernel, by decide +kernel⟩
def spIsList (K : PySem.W.Frag) : Sp := fun vs H Q _ => ∃ x T, vs = [x] ∧ TyB K H x T ∧ tyOk T = true ∧ ∀ H', Same H H' → Q (.bl (decide ("list" = T) || decide ("tuple" = T))) H'
section
variable {P : Program} {w : World} {K : PySem.W.Frag} {mg : Str → Option Value} {base : Heap}
theorem ok_isNum {f : Addr} {fd : FuncData} {k : Nat} (F : Fun K "is_number" "is_number" sIsNum f fd) (T : Tp mg) (X : Tx mg) : FnOk P w K mg base CX0 (k + 1) f fd ["thing"] (spIsNum K) := by
  refine F.ok scIsNum (fun vs H Q E h => ?_) (fun cdv A outer s H vs Q E hr h => ?_)
  · obtain ⟨x, rfl, _⟩ := h
    rfl
  · obtain ⟨x, rfl, ⟨Ty, ht, ok⟩, q⟩ := h
    refine ⟨_, pss_one (ps_ret (pe_cmpR op_eq_ty (pe_callTy call_type1 (by rfl) T.typ (by decide +kernel) (pa_cons (pv 0) pa_nil)) (pe_bltn (v := .ty "int") (u := .type "int") (by rfl) X.int (by decide +kernel) rfl) (nomark _))), ?_⟩
    refine ⟨x, rfl, x, Ty, rfl, ht, Ty, "int", rfl, rfl, ok, rfl, ?_⟩
    have e : id (decide (Ty = "int")) = isInt x := isInt_ty ht
    rw [e]
    exact q
theorem ok_betw {f fN : Addr} {fd fdN : FuncData} {k : Nat} (F : Fun K "is_between" "is_between" sBetw f fd) (GN : FnOk P w K mg base CX0 (k + 1) fN fdN ["thing"] (spIsNum K)) (mN : mg "is_number" = some (.ref fN)) (kN : PySem.W.keepIn K (.ref fN) = true) (bN : Binds K fdN ["thing"] []) : FnOk P w K mg base CX0 (k + 2) f fd ["thing", "least", "most"] (spBetw K) := by
  refine F.ok scBetw (fun vs H Q E h => ?_) (fun cdv A outer s H vs Q E hr h => ?_)
  · obtain ⟨x, lo, hi, rfl, _⟩ := h
    rfl
  · obtain ⟨x, lo, hi, rfl, kt, q⟩ := h
    refine ⟨_, pss_one (ps_ret (pe_and (pe_call GN hr (by rfl) mN kN bN .nil pass0 (pa_cons (pv 0) pa_nil)) (pe_one (pe_chain op_le op_le (pv 1) (pv 0) (pv 2))))), ?_⟩
    refine ⟨x, rfl, x, rfl, kt, _, rfl, ?_⟩
    cases x with
    | int i =>
      refine iteT ⟨.int lo, rfl, .int i, rfl, lo, i, rfl, rfl, _, rfl, ite2 (fun e => ?_) (fun e => ?_)⟩
      · refine ⟨.int hi, rfl, i, hi, rfl, rfl, ?_⟩
        rw [betw_int, e, Bool.true_and] at q
        exact q
      · rw [betw_int, Bool.eq_false_iff.mpr e, Bool.false_and] at q
        exact q
    | _ => exact iteF q
theorem ok_isList {f : Addr} {fd : FuncData} {k : Nat} (F : Fun K "is_list" "is_list" sIsList f fd) (T : Tp mg) (X : Tx mg) : FnOk P w K mg base CX0 (k + 1) f fd ["thing"] (spIsList K) := by
  refine F.ok scIsList (fun vs H Q E h => ?_) (fun cdv A outer s H vs Q E hr h => ?_)
  · obtain ⟨x, Ty, rfl, _⟩ := h
    rfl
  · obtain ⟨x, Ty, rfl, ht, ok, q⟩ := h
    refine ⟨_, pss_one (ps_ret (pe_cmpR op_in_ty (pe_callTy call_type1 (by rfl) T.typ (by decide +kernel) (pa_cons (pv 0) pa_nil)) (pe_tup (pa_cons (pe_bltn (v := .ty "list") (u := .type "list") (by rfl) X.list (by decide +kernel) rfl) (pa_cons (pe_bltn (v := .ty "tuple") (u := .type "tuple") (by rfl) X.tuple (by decide +kernel) rfl) pa_nil))) (by with_unfolding_all rfl))), ?_⟩
    refine ⟨x, rfl, x, Ty, rfl, ht, by show 2 ≤ sizeLine; decide, fun p hp => ⟨Ty, p, ["list", "tuple"], rfl, rfl, SqT.of upd_same, ok, rfl, ?_⟩⟩
    have e : (["list", "tuple"].any fun t => decide (t = Ty)) = (decide ("list" = Ty) || decide ("tuple" = Ty)) := by simp
    rw [e]
    exact q _ (same_upd hp)
end
/-! ### is_tuple -/
abbrev sIsTup : Stmt := topS 20
theorem scIsTup : FnScope ["thing", "many"] ["thing", "many"] (defScope sIsTup) := ⟨rfl, rfl, rfl, by decide +kernel, rfl, by decide +kernel, by decide +kernel⟩
def spIsTup (K : PySem.W.Frag) : Sp := fun vs H Q _ => ∃ x n, vs = [x, .int n] ∧ ((∃ T, TyB K H x T ∧ tyOk T = true ∧ T ≠ "tuple" ∧ Q (.bl false) H) ∨ ∃ a xs, x = .ref a ∧ SqT K H a xs ∧ Q (.bl (decide ((xs.length : Int) = n))) H)
section
variable {P : Program} {w : World} {K : PySem.W.Frag} {mg : Str → Option Value} {base : Heap}
theorem ok_isTup {f : Addr} {fd : FuncData} {k : Nat} (F : Fun K "is_tuple" "is_tuple" sIsTup f fd) (T : Tp mg) (X : Tx mg) : FnOk P w K mg base CX0 (k + 1) f fd ["thing", "many"] (spIsTup K) := by
  refine F.ok scIsTup (fun vs H Q E h => ?_) (fun cdv A outer s H vs Q E hr h => ?_)
  · obtain ⟨x, n, rfl, _⟩ := h
    rfl
  · obtain ⟨x, n, rfl, h⟩ := h
    refine ⟨_, pss_one (ps_ret (pe_and (pe_cmpR op_eq_ty (pe_callTy call_type1 (by rfl) T.typ (by decide +kernel) (pa_cons (pv 0) pa_nil)) (pe_bltn (v := .ty "tuple") (u := .type "tuple") (by rfl) X.tuple (by decide +kernel) rfl) (nomark _)) (pe_one (pe_cmpR op_eq (pe_callB call_len_seq (by rfl) X.len PySem.boot_len (pa_cons (pv 0) pa_nil)) (pv 1) (nomark _))))), ?_⟩
    rcases h with ⟨Ty, ht, ok, ne, q⟩ | ⟨a, xs, rfl, hx, q⟩
    · refine ⟨x, rfl, x, Ty, rfl, ht, Ty, "tuple", rfl, rfl, ok, rfl, _, rfl, iteE (decide_eq_false ne) q⟩
    · refine ⟨.ref a, rfl, .ref a, "tuple", rfl, .tup hx, "tuple", "tuple", rfl, rfl, rfl, rfl, _, rfl, iteY (by decide) ?_⟩
      refine ⟨.ref a, rfl, a, xs, rfl, .inr hx, .int n, rfl, rfl, ?_⟩
      have e : decide (V.int (xs.length : Int) = V.int n) = decide ((xs.length : Int) = n) := Bool.eq_iff_iff.mpr ⟨fun h => decide_eq_true (V.int.inj (of_decide_eq_true h)), fun h => decide_eq_true (congrArg V.int (of_decide_eq_true h))⟩
      rw [e]
      exact q
end
end Dt
/-! zip of two and enumerate, over any of a list, a tuple, a text -/
namespace L2X
open PySem PySem.Spec PyProof.Rows L2
inductive Src
  | lst (a : Addr)
  | tup (a : Addr)
  | txt (z : Str)
def chars (z : Str) : List V := z.cps.toList.map fun c => V.str ⟨#[c]⟩
/-- what stands in it -/
def Src.has (K : PySem.W.Frag) (H : Hp) : Src → List V → Prop
  | .lst a, xs => SqL K H a xs
  | .tup a, xs => SqT K H a xs
  | .txt z, xs => xs = chars z
def Src.val : Src → V
  | .lst a => .ref a
  | .tup a => .ref a
  | .txt z => .str z
/-- its iterator at its i-th item -/
def Src.it (it : Addr) (i : Nat) (h : Heap) : Src → Prop
  | .lst a => h.IsListIter it a i
  | .tup a => h.IsTupleIter it a i
  | .txt z => ∃ t, h.IsStrIter it (strIterType z) z t i
def Src.off (c : Addr) : Src → Prop
  | .lst a => a ≠ c
  | .tup a => a ≠ c
  | .txt _ => True
theorem Src.it_obj {S : Src} {it : Addr} {i : Nat} {h : Heap} (e : S.it it i h) : ∃ o, h.get? it = some o ∧ ∀ v, o.data ≠ .cell v := by
  cases S with
  | lst a =>
    obtain ⟨o, e1, _, d⟩ := e
    exact ⟨o, e1, fun v q => by rw [d] at q; cases q⟩
  | tup a =>
    obtain ⟨o, e1, _, d⟩ := e
    exact ⟨o, e1, fun v q => by rw [d] at q; cases q⟩
  | txt z =>
    obtain ⟨t, o, e1, _, d⟩ := e
    exact ⟨o, e1, fun v q => by rw [d] at q; cases q⟩
theorem Src.it_at {S : Src} {it : Addr} {i : Nat} {h h' : Heap} (e : S.it it i h) (k : ∀ o, h.get? it = some o → h'.get? it = some o) : S.it it i h' := by
  cases S with
  | lst a => exact Heap.IsListIter.at e k
  | tup a => exact Heap.IsTupleIter.at e k
  | txt z =>
    obtain ⟨t, o, e1, e2, d⟩ := e
    exact ⟨t, o, k _ e1, e2, d⟩
section
variable {X : Cx} {pins : List (Addr × Obj)} {σ : L2.St} {H : Hp} {s : Shared}
theorem Src.inj {S : Src} {xs ys : List V} (I : Inv X pins σ H s) (h : S.has X.K H xs) (h' : S.has X.K H ys) : xs = ys := by
  cases S with
  | lst a => exact I.list_inj h h'
  | tup a => exact I.tuple_inj h h'
  | txt z => exact Eq.trans h (Eq.symm h')
/-- what its iterator draws, now -/
theorem Src.draws {S : Src} {xs : List V} {it : Addr} {i : Nat} {A : Around} (I : Inv X pins σ H s) (hh : A.handled = none) (h : S.has X.K H xs) (st : S.it it i s.heap) (off : S.off it) :
    ∃ (fp : List Addr) (P : Nat → Value → Prop) (St : Nat → Heap → Prop), Draws X.prog X.w A it fp xs.length P St ∧ St i s.heap ∧ it ∈ fp ∧ (∀ c, c ≠ it → S.off c → c ∉ fp) ∧ (∀ j v, P j v → ∃ x, xs[j]? = some x ∧ RelV x v) ∧ (∀ j h, St j h → S.it it j h) := by
  cases S with
  | lst a =>
    obtain ⟨its, rv, p, _⟩ := I.list h
    have el : its.toArray.size = xs.length := by rw [rv.length]; simp
    rw [← el]
    refine ⟨[it, a], _, _, Draws.list hh it a off its.toArray, ⟨st, p.isList⟩, by simp, fun c hc ho hm => ?_, fun j v hv => ?_, fun j h e => e.1⟩
    · have e' : c = it ∨ c = a := by simpa using hm
      rcases e' with e' | e'
      · exact hc e'
      · exact ho e'.symm
    · have hv' : its[j]? = some v := by simpa using hv
      have hj : j < xs.length := by
        rw [← el]
        have := (List.getElem?_eq_some_iff.mp hv').1
        simpa using this
      obtain ⟨u, hu, ru⟩ := rv.get (List.getElem?_eq_getElem hj)
      rw [hv'] at hu
      cases hu
      exact ⟨_, List.getElem?_eq_getElem hj, ru⟩
  | tup a =>
    obtain ⟨its, rv, p, _⟩ := I.tuple h
    have el : its.toArray.size = xs.length := by rw [rv.length]; simp
    rw [← el]
    refine ⟨[it, a], _, _, Draws.tuple hh it a off its.toArray, ⟨st, p⟩, by simp, fun c hc ho hm => ?_, fun j v hv => ?_, fun j h e => e.1⟩
    · have e' : c = it ∨ c = a := by simpa using hm
      rcases e' with e' | e'
      · exact hc e'
      · exact ho e'.symm
    · have hv' : its[j]? = some v := by simpa using hv
      have hj : j < xs.length := by
        rw [← el]
        have := (List.getElem?_eq_some_iff.mp hv').1
        simpa using this
      obtain ⟨u, hu, ru⟩ := rv.get (List.getElem?_eq_getElem hj)
      rw [hv'] at hu
      cases hu
      exact ⟨_, List.getElem?_eq_getElem hj, ru⟩
  | txt z =>
    obtain ⟨t, st⟩ := st
    have hx : xs = chars z := h
    have el : z.cps.size = xs.length := by rw [hx]; simp [chars]
    rw [← el]
    refine ⟨[it], _, _, Draws.text hh it z t, st, by simp, fun c hc _ hm => hc (by simpa using hm), fun j v hv => ?_, fun j h e => ⟨t, e⟩⟩
    obtain ⟨c, u, e1, rfl⟩ := hv
    refine ⟨.str ⟨#[c]⟩, ?_, _, rfl⟩
    rw [hx]
    unfold chars
    rw [List.getElem?_map, Array.getElem?_toList, e1]
    rfl
/-- two things at each turn, in new pairs -/
def ItzG (K : PySem.W.Frag) (A B : Src) : It :=
  ⟨fun i H => ∃ (xs ys : List V) (x y : V), A.has K H xs ∧ B.has K H ys ∧ xs[i]? = some x ∧ ys[i]? = some y,
    fun i H v H' => ∃ T x y, v = .ref T ∧ H T = none ∧ H' = upd H T (.tup [x, y]) ∧ (∀ xs, A.has K H xs → xs[i]? = some x) ∧ ∀ ys, B.has K H ys → ys[i]? = some y,
    fun i H => ∃ xs ys : List V, A.has K H xs ∧ B.has K H ys ∧ (xs.length = i ∧ i ≤ ys.length ∨ ys.length = i ∧ i ≤ xs.length)⟩
structure Apart5 (A B : Src) (z TI TO i1 i2 : Addr) : Prop where
  TIz : TI ≠ z
  TOz : TO ≠ z
  i1z : i1 ≠ z
  i2z : i2 ≠ z
  TITO : TI ≠ TO
  TIi1 : TI ≠ i1
  TIi2 : TI ≠ i2
  TOi1 : TO ≠ i1
  TOi2 : TO ≠ i2
  i12 : i1 ≠ i2
  az : A.off z
  aT : A.off TO
  a1 : A.off i1
  a2 : A.off i2
  bz : B.off z
  bT : B.off TO
  b1 : B.off i1
  b2 : B.off i2
theorem turn_zipG {P : Program} {w : World} {K : PySem.W.Frag} {elts : List Expr} {kk : Nat} {tpos : Pos} {A B : Src} {z TI TO i1 i2 : Addr} (D : Apart5 A B z TI TO i1 i2) :
    Turn P w K (.Tuple elts kk tpos) (ItzG K A B) [z, TI, TO, i1, i2] z (fun i h => IsZip h z TI TO .none ∧ IsTupOf2 h TI (.ref i1) (.ref i2) ∧ (∃ x y, IsTupOf2 h TO x y) ∧ A.it i1 i h ∧ B.it i2 i h) where
  mem := by simp
  obj := fun i h st c hc => by
    obtain ⟨hz, hTI, ⟨x, y, hTO⟩, h1, h2⟩ := st
    have e' : c = z ∨ c = TI ∨ c = TO ∨ c = i1 ∨ c = i2 := by simpa using hc
    rcases e' with q | q | q | q | q
    · rw [q]; exact ⟨_, hz, fun v q => nomatch q⟩
    · rw [q]; exact ⟨_, hTI, fun v q => nomatch q⟩
    · rw [q]; exact ⟨_, hTO, fun v q => nomatch q⟩
    · rw [q]; exact Src.it_obj h1
    · rw [q]; exact Src.it_obj h2
  keep := fun i h h' st k => by
    obtain ⟨hz, hTI, ⟨x, y, hTO⟩, h1, h2⟩ := st
    exact ⟨k z (by simp) _ hz, k TI (by simp) _ hTI, ⟨x, y, k TO (by simp) _ hTO⟩, Src.it_at h1 fun o q => k i1 (by simp) o q, Src.it_at h2 fun o q => k i2 (by simp) o q⟩
  item := by
    intro X hP hw hK hc i pins s σ H E I hf st hg
    subst hP hw hK
    obtain ⟨hz, hTI, ⟨x0, y0, hTO⟩, h1, h2⟩ := st
    obtain ⟨xs, ys, x, y, hqx, hqy, hx, hy⟩ := hg
    obtain ⟨f1, P1, S1, D1, s1, m1, o1, p1, t1⟩ := Src.draws (A := X.A.in1) I (I.ok.hd hc) hqx h1 D.a1
    obtain ⟨f2, P2, S2, D2, s2, m2, o2, p2, t2⟩ := Src.draws (A := X.A.in1) I (I.ok.hd hc) hqy h2 D.b2
    have sep : ZipSep2 z TI TO i1 i2 f1 f2 := ⟨D.TIz, D.TOz, D.TITO, D.TIi1, m1, o1 _ D.i1z.symm D.az, o1 _ D.TOi1 D.aT, D.TIi2, m2, o2 _ D.i2z.symm D.bz, o2 _ D.TOi2 D.bT, o2 _ D.i12 D.b1, o1 _ D.i12.symm D.a2⟩
    have hzl : z < s.heap.objs.size := Heap.lt_size hz
    refine wpAny_pyNext_zipD2_item sep D1 D2 hz hTI hTO s1 s2 (List.getElem?_eq_some_iff.mp hx).1 (List.getElem?_eq_some_iff.mp hy).1 fun u u2 h' tk q1 q2 z' TO' h1' h2' hT hsz hk => ?_
    obtain ⟨x', ex, ru⟩ := p1 _ _ q1
    rw [hx] at ex
    cases ex
    obtain ⟨y', ey, ru2⟩ := p2 _ _ q2
    rw [hy] at ey
    cases ey
    refine ⟨_, rfl, wpAny_letOwnedTupleGo_zip (s := { s with heap := h', toks := tk }) z' fun h'' z'' sb => ?_⟩
    have hT2 : h''.get? s.heap.objs.size = some { cls := .type "tuple", data := .seq #[u, u2] } := (sb.2 _ (Nat.ne_of_gt hzl)).trans hT
    have new : ObjOk X.prog X.w (upd H s.heap.objs.size (.tup [x, y])) h'' s.heap.objs.size (.tup [x, y]) :=
      ⟨by show 2 ≤ sizeLine; decide, [u, u2], .cons ru (.cons ru2 .nil), ⟨_, hT2, rfl, _, rfl⟩⟩
    have I1 : Inv X pins σ (upd H s.heap.objs.size (.tup [x, y])) { s with heap := h'', toks := tk } :=
      I.turnedNew (t' := tk) (ch := [z, TI, TO, i1, i2]) (fun c o hb q => (sb.2 c (fun q' => hb (by simp [q']))).trans (hk c o (fun q' => hb (by simp [q'])) (fun q' => hb (by simp [q'])) (fun q' => hb (by simp [q'])) (fun q' => hb (by simp [q'])) q)) hf (Nat.le_refl _) new
    refine ⟨.ref s.heap.objs.size, _, I1, rfl, ⟨_, x, y, rfl, I.hok.fresh (Nat.le_refl _), rfl, fun l hl => by rw [Src.inj I hl hqx]; exact hx, fun l hl => by rw [Src.inj I hl hqy]; exact hy⟩, ⟨z'', ?_, ⟨u, u2, ?_⟩, ?_, ?_⟩, fun c hcm => ?_⟩
    · exact (sb.2 _ D.TIz).trans (hk _ _ D.TIz D.TITO D.TIi1 D.TIi2 hTI)
    · exact (sb.2 _ D.TOz).trans TO'
    · exact Src.it_at (t1 _ _ h1') fun o q => (sb.2 _ D.i1z).trans q
    · exact Src.it_at (t2 _ _ h2') fun o q => (sb.2 _ D.i2z).trans q
    · have hlt : c < s.heap.objs.size := by
        have e' : c = z ∨ c = TI ∨ c = TO ∨ c = i1 ∨ c = i2 := by simpa using hcm
        rcases e' with q | q | q | q | q
        · rw [q]; exact hzl
        · rw [q]; exact Heap.lt_size hTI
        · rw [q]; exact Heap.lt_size hTO
        · rw [q]; obtain ⟨_, e1, _⟩ := Src.it_obj h1; exact Heap.lt_size e1
        · rw [q]; obtain ⟨_, e2, _⟩ := Src.it_obj h2; exact Heap.lt_size e2
      rw [upd_ne (Nat.ne_of_lt hlt)]
      exact (hf c hcm).1
  done := by
    intro X hP hw hK hc i pins s σ H E I hf st hg
    subst hP hw hK
    obtain ⟨hz, hTI, ⟨x0, y0, hTO⟩, h1, h2⟩ := st
    obtain ⟨xs, ys, hqx, hqy, hend⟩ := hg
    obtain ⟨f1, P1, S1, D1, s1, m1, o1, p1, t1⟩ := Src.draws (A := X.A.in1) I (I.ok.hd hc) hqx h1 D.a1
    obtain ⟨f2, P2, S2, D2, s2, m2, o2, p2, t2⟩ := Src.draws (A := X.A.in1) I (I.ok.hd hc) hqy h2 D.b2
    have sep : ZipSep2 z TI TO i1 i2 f1 f2 := ⟨D.TIz, D.TOz, D.TITO, D.TIi1, m1, o1 _ D.i1z.symm D.az, o1 _ D.TOi1 D.aT, D.TIi2, m2, o2 _ D.i2z.symm D.bz, o2 _ D.TOi2 D.bT, o2 _ D.i12 D.b1, o1 _ D.i12.symm D.a2⟩
    exact wpAny_pyNext_zipD2_end sep D1 D2 hz hTI hTO s1 s2 (by omega) (by omega) (by omega) fun h' tk hk => ⟨rfl, I.turnedL (t' := tk) (ch := [z, TI, TO, i1, i2]) (fun c o hb q =>
      hk c o (fun q' => hb (by simp [q'])) (fun q' => hb (by simp [q'])) (fun q' => hb (by simp [q'])) (fun q' => hb (by simp [q'])) q) hf⟩
  self := fun A i s Q E st h => wpAny_pyIter_zip st.1 h
/-- how a source begins -/
theorem Src.begins {S : Src} {xs : List V} {u : Value} (I : Inv X pins σ H s) (h : S.has X.K H xs) (r : RelV S.val u) : ∃ (o : Obj) (Hh : Heap → Prop), Begins u o Hh ∧ Hh s.heap ∧ (∀ (h' : Heap) (it : Addr), h'.get? it = some o → S.it it 0 h') ∧ ∀ c, s.heap.objs.size ≤ c → S.off c := by
  cases S with
  | lst a =>
    cases r
    obtain ⟨its, rv, p, _⟩ := I.list h
    exact ⟨_, _, begins_list a its.toArray, p.isList, fun h' it e => ⟨_, e, rfl, rfl⟩, fun c hc => Nat.ne_of_lt (Nat.lt_of_lt_of_le p.lt hc)⟩
  | tup a =>
    cases r
    obtain ⟨its, rv, p, _⟩ := I.tuple h
    obtain ⟨o, e, _⟩ := id p
    exact ⟨_, _, begins_tuple a its.toArray, p, fun h' it e => ⟨_, e, rfl, rfl⟩, fun c hc => Nat.ne_of_lt (Nat.lt_of_lt_of_le (Heap.lt_size e) hc)⟩
  | txt z =>
    obtain ⟨t, rfl⟩ := r
    exact ⟨_, _, begins_text z t, trivial, fun h' it e => ⟨t, _, e, rfl, rfl⟩, fun _ _ => trivial⟩
theorem ap_ne (N a b : Nat) (h : a ≠ b) : N + a ≠ N + b := by omega
theorem apart5_new {A B : Src} {N : Nat} (f1 : ∀ c, N ≤ c → A.off c) (f2 : ∀ c, N ≤ c → B.off c) : Apart5 A B (N + 4) (N + 2) (N + 3) N (N + 1) :=
  ⟨ap_ne N 2 4 (by decide), ap_ne N 3 4 (by decide), ap_ne N 0 4 (by decide), ap_ne N 1 4 (by decide), ap_ne N 2 3 (by decide), ap_ne N 2 0 (by decide), ap_ne N 2 1 (by decide), ap_ne N 3 0 (by decide), ap_ne N 3 1 (by decide), ap_ne N 0 1 (by decide),
    f1 _ (Nat.le_add_right _ _), f1 _ (Nat.le_add_right _ _), f1 _ (Nat.le_refl _), f1 _ (Nat.le_add_right _ _), f2 _ (Nat.le_add_right _ _), f2 _ (Nat.le_add_right _ _), f2 _ (Nat.le_refl _), f2 _ (Nat.le_add_right _ _)⟩
def iZipG (K : PySem.W.Frag) (ta : TA) : TI := fun σ H R => ta σ H fun vs H1 => ∃ (A B : Src) (xs ys : List V), vs = [A.val, B.val] ∧ A.has K H1 xs ∧ B.has K H1 ys ∧ R (ItzG K A B) H1
theorem pi_zipG {X : Cx} {e e2 : Expr} {ta : TA} {p pos tpos : Pos} {elts : List Expr} {kk : Nat} (hg : Gl X "zip") (hm : X.mg "zip" = none) (ha : PA X [e, e2] ta)
    (hs : starEach [e, e2] X.env = (false, eval e X.env) :: starEach [e2] X.env := by rfl) (hpl : (backTo pos (starEach [e2] X.env)).any (·.1) = false := by rfl) :
    PI X (.Tuple elts kk tpos) (.Call (.Name "zip" p) [e, e2] [] pos) (iZipG X.K ta) := by
  refine ⟨fun pins s σ H R I h => ?_⟩
  refine Call_ (ld_blt I hg hm PyProof.Rows.boot_zip (PyProof.Rows.callWith_type1 (thn (ha.run pos pins s σ H _ I h) fun us s1 ⟨vs, H1, I1, r1, q1⟩ => ?_) hs hpl))
  obtain ⟨A, B, xs, ys, ex, ha1, hb1, q⟩ := q1
  subst ex
  cases r1 with
  | cons r rr =>
    cases rr with
    | cons r' rr =>
      cases rr
      obtain ⟨o1, G1, B1, g1, n1, f1⟩ := Src.begins I1 ha1 r
      obtain ⟨o2, G2, B2, g2, n2, f2⟩ := Src.begins I1 hb1 r'
      refine zip_begins2 B1 B2 g1 g2 fun h' hz hTI hTO e1 e2 hsz hk => wpAny_pyIter_zip hz ?_
      have I2 : Inv X pins σ H1 { s1 with heap := h' } := I1.kept (t' := s1.toks) hk
      have ap : Apart5 A B (s1.heap.objs.size + 4) (s1.heap.objs.size + 2) (s1.heap.objs.size + 3) s1.heap.objs.size (s1.heap.objs.size + 1) :=
        apart5_new f1 f2
      refine ⟨s1.heap.objs.size + 4, [s1.heap.objs.size + 4, s1.heap.objs.size + 2, s1.heap.objs.size + 3, s1.heap.objs.size, s1.heap.objs.size + 1], _, _, H1, rfl, I2, turn_zipG ap, ⟨hz, hTI, ⟨_, _, hTO⟩, n1 _ _ e1, n2 _ _ e2⟩, fun c hcm => ?_, q⟩
      have e' : c = s1.heap.objs.size + 4 ∨ c = s1.heap.objs.size + 2 ∨ c = s1.heap.objs.size + 3 ∨ c = s1.heap.objs.size ∨ c = s1.heap.objs.size + 1 := by simpa using hcm
      have hle : s1.heap.objs.size ≤ c := by
        rcases e' with z | z | z | z | z
        · rw [z]; exact Nat.le_add_right _ _
        · rw [z]; exact Nat.le_add_right _ _
        · rw [z]; exact Nat.le_add_right _ _
        · rw [z]; exact Nat.le_refl _
        · rw [z]; exact Nat.le_add_right _ _
      exact I1.fpOk hle (I1.hok.fresh hle)
/-! ### enumerate -/
def IteG (K : PySem.W.Frag) (A : Src) : It :=
  ⟨fun i H => ∃ (xs : List V) (x : V), A.has K H xs ∧ xs[i]? = some x, fun i H v H' => ∃ T x, v = .ref T ∧ H T = none ∧ H' = upd H T (.tup [.int (i : Nat), x]) ∧ ∀ xs, A.has K H xs → xs[i]? = some x, fun i H => ∃ xs : List V, A.has K H xs ∧ xs.length = i⟩
theorem turn_enumG {P : Program} {w : World} {K : PySem.W.Frag} {elts : List Expr} {kk : Nat} {tpos : Pos} {A : Src} {e it : Addr} (hne : e ≠ it) (oe : A.off e) (oi : A.off it) :
    Turn P w K (.Tuple elts kk tpos) (IteG K A) [e, it] e (fun i h => (∃ old, IsEnum h e it ((i : Nat) : Int) old) ∧ A.it it i h) where
  mem := by simp
  obj := fun i h st b hb => by
    obtain ⟨⟨old, he⟩, hi⟩ := st
    have e' : b = e ∨ b = it := by simpa using hb
    rcases e' with z | z
    · rw [z]; exact ⟨_, he, fun v q => nomatch q⟩
    · rw [z]; exact Src.it_obj hi
  keep := fun i h h' st k => let ⟨⟨old, he⟩, hi⟩ := st; ⟨⟨old, k e (by simp) _ he⟩, Src.it_at hi fun o q => k it (by simp) o q⟩
  item := by
    intro X hP hw hK hc i pins s σ H E I hf st hg
    subst hP hw hK
    obtain ⟨⟨old, he⟩, hit⟩ := st
    obtain ⟨xs, x, hq, hx⟩ := hg
    obtain ⟨f1, P1, S1, D1, s1, m1, o1, p1, t1⟩ := Src.draws (A := X.A.in1) I (I.ok.hd hc) hq hit oi
    have hel : e < s.heap.objs.size := Heap.lt_size he
    have hil : it < s.heap.objs.size := by obtain ⟨_, q, _⟩ := Src.it_obj hit; exact Heap.lt_size q
    refine wpAny_pyNext_enum_itemD D1 he s1 (List.getElem?_eq_some_iff.mp hx).1 hne (o1 _ hne oe) fun u h' tk q1 ho hit' hT hsz hk => ?_
    obtain ⟨x', ex, ru⟩ := p1 _ _ q1
    rw [hx] at ex
    cases ex
    refine ⟨_, rfl, wpAny_letOwnedTupleGo_enum (s := { s with heap := h', toks := tk + 1 }) ho fun h'' he' sb => ?_⟩
    have hT2 : h''.get? s.heap.objs.size = some { cls := .type "tuple", data := .seq #[.int i tk, u] } := (sb.2 _ (Nat.ne_of_gt hel)).trans hT
    have new : ObjOk X.prog X.w (upd H s.heap.objs.size (.tup [.int (i : Nat), x])) h'' s.heap.objs.size (.tup [.int (i : Nat), x]) :=
      ⟨by show 2 ≤ sizeLine; decide, [.int i tk, u], .cons ⟨_, rfl⟩ (.cons ru .nil), ⟨_, hT2, rfl, _, rfl⟩⟩
    have I1 : Inv X pins σ (upd H s.heap.objs.size (.tup [.int (i : Nat), x])) { s with heap := h'', toks := tk + 1 } :=
      I.turnedNew (t' := tk + 1) (ch := [e, it]) (fun b ob hb q => (sb.2 b (fun z => hb (by simp [z]))).trans (hk b ob (fun z => hb (by simp [z])) (fun z => hb (by simp [z])) q)) hf (Nat.le_refl _) new
    refine ⟨.ref s.heap.objs.size, _, I1, rfl, ⟨_, x, rfl, I.hok.fresh (Nat.le_refl _), rfl, fun ys hy => by rw [Src.inj I hy hq]; exact hx⟩, ⟨⟨u, ?_⟩, Src.it_at (t1 _ _ hit') fun o q => (sb.2 it (Ne.symm hne)).trans q⟩, fun b hb => ?_⟩
    · have e1 : ((i + 1 : Nat) : Int) = (i : Int) + 1 := by omega
      rw [e1]; exact he'
    · have hb' : b < s.heap.objs.size := by
        have e' : b = e ∨ b = it := by simpa using hb
        rcases e' with z | z
        · rw [z]; exact hel
        · rw [z]; exact hil
      rw [upd_ne (Nat.ne_of_lt hb')]
      exact (hf b hb).1
  done := by
    intro X hP hw hK hc i pins s σ H E I hf st hg
    subst hP hw hK
    obtain ⟨⟨old, he⟩, hit⟩ := st
    obtain ⟨xs, hq, hx⟩ := hg
    subst hx
    obtain ⟨f1, P1, S1, D1, s1, m1, o1, p1, t1⟩ := Src.draws (A := X.A.in1) I (I.ok.hd hc) hq hit oi
    obtain ⟨f0, f1', f2, f3, f4, f5⟩ := hf it (by simp)
    exact wpAny_pyNext_enum_endD D1 he s1 fun h' eb => ⟨rfl, I.turned (t' := s.toks) (fun b o hb q => eb b o hb q) f0 f1' f3 f4 f5⟩
  self := fun A i s Q E st h => let ⟨⟨_, he⟩, _⟩ := st; wpAny_pyIter_enum he h
theorem meets_enumerate_new1B {v : Value} {o : Obj} {H : Heap → Prop} (B : Begins v o H) :
    Meets (Builtin.«enumerate.__new__» ⟨[.type "enumerate", v], []⟩) (fun _ R s => H s.heap ∧
      R (.ok (.ret (.ref (s.heap.push o).objs.size))) { s with heap := (s.heap.push o).push { cls := .type "enumerate", data := .fields #[.none, .bool false, .ref s.heap.objs.size, rawInt 0, .none, .none] } }) :=
  .of_wp fun prog w A R s h => by
    obtain ⟨hp, g, d, tk, os⟩ := s; obtain ⟨h1, h⟩ := h
    have hsub := sub_enumerate
    have q1 : ∀ {A' : Around} {E : Value → Shared → Prop} {Q : Value → Shared → Prop}, Q (.ref hp.objs.size) ⟨hp.push o, g, d, tk, os⟩ → wpAny (model prog w) A' (pyIter v) Q E ⟨hp, g, d, tk, os⟩ :=
      fun q => B.iter prog w _ _ ⟨hp, g, d, tk, os⟩ _ h1 q
    wp_walk
    refine wpAny_stack_any fun st => wpAny_pure ?_
    split
    · rename_i c _ _ _ _ _
      cases (c == Value.type "enumerate")
      · wp_walk using q1
        exact ⟨_, rfl, h⟩
      · wp_walk using q1
        exact ⟨_, rfl, h⟩
    · wp_walk using q1
      exact ⟨_, rfl, h⟩
theorem enum_begins1 {prog : Program} {w : World} {A : Around} {E : Value → Shared → Prop} {s : Shared} {v : Value} {o : Obj} {H : Heap → Prop} {Q : Value → Shared → Prop} (B : Begins v o H) (h1 : H s.heap)
    (h : ∀ h', IsEnum h' (s.heap.objs.size + 1) s.heap.objs.size 0 .none → h'.get? s.heap.objs.size = some o → h'.objs.size = s.heap.objs.size + 2 →
      (∀ b o, s.heap.get? b = some o → h'.get? b = some o) → Q (.ref (s.heap.objs.size + 1)) { s with heap := h' }) :
    wpAny (model prog w) A (call (.type "enumerate") [v]) Q E s := by
  refine callType_new F.called_enumerate (by decide) (F.typeCall_enumerate_1 _) (F.newCall_enumerate_1 _) (fun obj => F.args_object_init_2 obj _) F.entry_enumerate_new
    (meets_enumerate_new1B B) ⟨h1, ?_⟩
  have hz : (s.heap.push o).objs.size = s.heap.objs.size + 1 := Heap.size_push ..
  show _ ∧ _
  rw [hz]
  have he : IsEnum ((s.heap.push o).push { cls := .type "enumerate", data := .fields #[.none, .bool false, .ref s.heap.objs.size, rawInt 0, .none, .none] }) (s.heap.objs.size + 1) s.heap.objs.size 0 .none := by
    have := Heap.get?_push_size (s.heap.push o) (o := { cls := .type "enumerate", data := .fields #[.none, .bool false, .ref s.heap.objs.size, rawInt 0, .none, .none] }) rfl
    rw [hz] at this
    exact this
  exact ⟨⟨_, he, rfl⟩, h _ he (Heap.get?_push_of_some _ (Heap.get?_push_size _ B.free)) (by rw [Heap.size_push, hz]) fun b o x => Heap.get?_push_of_some _ (Heap.get?_push_of_some _ x)⟩
def iEnumG (K : PySem.W.Frag) (ta : TA) : TI := fun σ H R => ta σ H fun vs H1 => ∃ (A : Src) (xs : List V), vs = [A.val] ∧ A.has K H1 xs ∧ R (IteG K A) H1
theorem pi_enumG {X : Cx} {e : Expr} {ta : TA} {p pos tpos : Pos} {elts : List Expr} {kk : Nat} (hg : Gl X "enumerate") (hm : X.mg "enumerate" = none) (ha : PA X [e] ta) (hs : starEach [e] X.env = [(false, eval e X.env)] := by rfl) :
    PI X (.Tuple elts kk tpos) (.Call (.Name "enumerate" p) [e] [] pos) (iEnumG X.K ta) := by
  refine ⟨fun pins s σ H R I h => ?_⟩
  refine Call_ (ld_blt I hg hm boot_enumerate (PyProof.Rows.callWith_type1 (thn (ha.run pos pins s σ H _ I h) fun us s1 ⟨vs, H1, I1, r1, q1⟩ => ?_) hs rfl))
  obtain ⟨A, xs, ex, hq, q⟩ := q1
  subst ex
  cases r1 with
  | cons r rr =>
    cases rr
    obtain ⟨o1, G1, B1, g1, n1, f1⟩ := Src.begins I1 hq r
    refine enum_begins1 B1 g1 fun h' he hit hsz hk => wpAny_pyIter_enum he ?_
    have I2 : Inv X pins σ H1 { s1 with heap := h' } := I1.kept (t' := s1.toks) hk
    refine ⟨s1.heap.objs.size + 1, [s1.heap.objs.size + 1, s1.heap.objs.size], _, _, H1, rfl, I2, turn_enumG (Nat.succ_ne_self _) (f1 _ (Nat.le_add_right _ _)) (f1 _ (Nat.le_refl _)), ⟨⟨.none, he⟩, n1 _ _ hit⟩, fun b hb => ?_, q⟩
    have e' : b = s1.heap.objs.size + 1 ∨ b = s1.heap.objs.size := by simpa using hb
    have hle : s1.heap.objs.size ≤ b := by
      rcases e' with z | z
      · rw [z]; exact Nat.le_add_right _ _
      · rw [z]; exact Nat.le_refl _
    exact I1.fpOk hle (I1.hok.fresh hle)
end
end L2X
/-! comprehensions and loops over zip and enumerate of anything -/
namespace L2X
open PySem PySem.Spec PyProof.Rows L2
theorem lc_zipG {K : PySem.W.Frag} {A B : Src} {xs ys : List V} {g : TG} {tt : TT} {te : TE} {vs : List Nat} {σ : L2.St} {H1 : Hp} {D : Addr} {Qd : Hp → Prop} (hn : xs.length = ys.length) (Pv : Nat → Hp → Prop) (h0 : Pv 0 (upd H1 D (.lst []))) (hl : ∀ i H, i ≤ xs.length → Pv i H → A.has K H xs ∧ B.has K H ys)
    (hs : ∀ i x y H T, xs[i]? = some x → ys[i]? = some y → Pv i H → H T = none → g (.ref T) (wipe σ vs) (upd H T (.tup [x, y])) fun σ2 H2 => wipe σ2 vs = wipe σ vs ∧ tt σ2 H2 fun b H3 =>
      if b = true then te σ2 H3 fun z H4 => ∃ acc, H4 D = some (.lst acc) ∧ acc.length < sizeLine ∧ Pv (i + 1) (upd H4 D (.lst (acc ++ [z]))) else Pv (i + 1) H3) (hd : ∀ H, Pv xs.length H → Qd H) :
    ∃ W : Nat → Nat → Hp → Prop, (∃ m, W 0 m (upd H1 D (.lst []))) ∧ ∀ i m H, W i m H →
      ((ItzG K A B).stop i H ∧ Qd H) ∨ ((ItzG K A B).go i H ∧ ∃ Nx : Hp → Prop, (∀ H', Nx H' → ∃ m', m' < m ∧ W (i + 1) m' H') ∧ ∀ x H', (ItzG K A B).yld i H x H' → g x (wipe σ vs) H' fun σ2 H2 => wipe σ2 vs = wipe σ vs ∧ tt σ2 H2 fun b H3 =>
        if b = true then te σ2 H3 fun y H4 => ∃ acc, H4 D = some (.lst acc) ∧ acc.length < sizeLine ∧ Nx (upd H4 D (.lst (acc ++ [y]))) else Nx H3) := by
  refine ⟨fun i m H => m = xs.length - i ∧ i ≤ xs.length ∧ Pv i H, ⟨xs.length, by simp, Nat.zero_le _, h0⟩, ?_⟩
  rintro i m H ⟨rfl, hi, p⟩
  obtain ⟨qx, qy⟩ := hl i H hi p
  by_cases hlt : i < xs.length
  · have hlt2 : i < ys.length := by omega
    have ex : xs[i]? = some xs[i] := List.getElem?_eq_getElem hlt
    have ey : ys[i]? = some ys[i] := List.getElem?_eq_getElem hlt2
    refine .inr ⟨⟨xs, ys, _, _, qx, qy, ex, ey⟩, Pv (i + 1), fun H' p' => ⟨xs.length - (i + 1), by omega, rfl, hlt, p'⟩, fun x H' y => ?_⟩
    obtain ⟨T, u, v, rfl, nT, rfl, z1, z2⟩ := y
    exact hs i u v H T (z1 xs qx) (z2 ys qy) p nT
  · have e : i = xs.length := by omega
    subst e
    exact .inl ⟨⟨xs, ys, qx, qy, .inl ⟨rfl, by omega⟩⟩, hd H p⟩
theorem lc_enumG {K : PySem.W.Frag} {A : Src} {xs : List V} {g : TG} {tt : TT} {te : TE} {vs : List Nat} {σ : L2.St} {H1 : Hp} {D : Addr} {Qd : Hp → Prop} (Pv : Nat → Hp → Prop) (h0 : Pv 0 (upd H1 D (.lst []))) (hl : ∀ i H, i ≤ xs.length → Pv i H → A.has K H xs)
    (hs : ∀ i x H T, xs[i]? = some x → Pv i H → H T = none → g (.ref T) (wipe σ vs) (upd H T (.tup [.int (i : Nat), x])) fun σ2 H2 => wipe σ2 vs = wipe σ vs ∧ tt σ2 H2 fun b H3 =>
      if b = true then te σ2 H3 fun z H4 => ∃ acc, H4 D = some (.lst acc) ∧ acc.length < sizeLine ∧ Pv (i + 1) (upd H4 D (.lst (acc ++ [z]))) else Pv (i + 1) H3) (hd : ∀ H, Pv xs.length H → Qd H) :
    ∃ W : Nat → Nat → Hp → Prop, (∃ m, W 0 m (upd H1 D (.lst []))) ∧ ∀ i m H, W i m H →
      ((IteG K A).stop i H ∧ Qd H) ∨ ((IteG K A).go i H ∧ ∃ Nx : Hp → Prop, (∀ H', Nx H' → ∃ m', m' < m ∧ W (i + 1) m' H') ∧ ∀ x H', (IteG K A).yld i H x H' → g x (wipe σ vs) H' fun σ2 H2 => wipe σ2 vs = wipe σ vs ∧ tt σ2 H2 fun b H3 =>
        if b = true then te σ2 H3 fun y H4 => ∃ acc, H4 D = some (.lst acc) ∧ acc.length < sizeLine ∧ Nx (upd H4 D (.lst (acc ++ [y]))) else Nx H3) := by
  refine ⟨fun i m H => m = xs.length - i ∧ i ≤ xs.length ∧ Pv i H, ⟨xs.length, by simp, Nat.zero_le _, h0⟩, ?_⟩
  rintro i m H ⟨rfl, hi, p⟩
  have qx := hl i H hi p
  by_cases hlt : i < xs.length
  · have ex : xs[i]? = some xs[i] := List.getElem?_eq_getElem hlt
    refine .inr ⟨⟨xs, _, qx, ex⟩, Pv (i + 1), fun H' p' => ⟨xs.length - (i + 1), by omega, rfl, hlt, p'⟩, fun x H' y => ?_⟩
    obtain ⟨T, u, rfl, nT, rfl, z1⟩ := y
    exact hs i u H T (z1 xs qx) p nT
  · have e : i = xs.length := by omega
    subst e
    exact .inl ⟨⟨xs, qx, rfl⟩, hd H p⟩
end L2X
/-! what many laws share -/
namespace L2X
open PySem PySem.Spec PyProof.Rows L2
theorem PI.or {X : Cx} {tg it : Expr} {w1 w2 : TI} (a : PI X tg it w1) (b : PI X tg it w2) : PI X tg it (fun σ H R => w1 σ H R ∨ w2 σ H R) :=
  ⟨fun pins s σ H R I h => h.elim (a.run pins s σ H R I) (b.run pins s σ H R I)⟩
def rJoinK (K : PySem.W.Frag) : V → List V → Hp → VK → Prop := fun x xs H Q => ∃ a p, ∃ ys : List Str, x = .str a ∧ xs = [.ref p] ∧ (SqL K H p (ys.map V.str) ∨ SqT K H p (ys.map V.str)) ∧ (ys.map (·.length)).sum + ys.length * a.length ≤ 16777216 ∧ Q (.str (Txt.join a ys)) H
theorem pe_joinK {X : Cx} {o e : Expr} {to te : TE} {pos apos : Pos} {K : PySem.W.Frag} (hK : X.K = K) (ho : PE X o to) (he : PE X e te) (hs : starEach [e] X.env = [(false, eval e X.env)] := by rfl) (hbase : attributeBase o "join" X.env (eval o X.env) = eval o X.env := by rfl) (hline : (apos.endLine == pos.line) = true := by rfl) :
    PE X (.Call (.Attribute o "join" apos) [e] [] pos) (tM1 (rJoinK K) to te) := by
  subst hK
  exact pe_join ho he hs hbase hline
end L2X
namespace Dt
open PySem PySem.Spec PyProof.Rows L2 L2X
open SX (S)
def ch (c : Nat) : V := .str ⟨#[c]⟩
structure RowsR (high wide : Nat) (rs : List (List Nat)) : Prop where
  len : rs.length = high
  row : ∀ l ∈ rs, RowR wide l
theorem PicR.rows {high wide : Nat} {rs : List (List Nat)} (h : PicR high wide rs) : RowsR high wide rs := ⟨h.len, h.row⟩
theorem set_getD {ls : List (List Nat)} {r : Nat} {l : List Nat} (h : ls[r]? = some l) : ls.getD r [] = l := by
  rw [List.getD_eq_getElem?_getD, h]
  rfl
theorem getD_at {l : List Nat} {c x : Nat} (h : l[c]? = some x) : l.getD c 0 = x := by
  rw [List.getD_eq_getElem?_getD, h]
  rfl
structure Plc (K : PySem.W.Frag) (H : Hp) (xs : List V) (ps : List (Nat × Nat)) : Prop where
  len : xs.length = ps.length
  at_ : ∀ (i : Nat) (x : V) (p : Nat × Nat), xs[i]? = some x → ps[i]? = some p → ∃ t, x = .ref t ∧ SqT K H t [.int p.1, .int p.2]
theorem Plc.same {K : PySem.W.Frag} {H H' : Hp} {xs : List V} {ps : List (Nat × Nat)} (h : Plc K H xs ps) (s : Same H H') : Plc K H' xs ps :=
  ⟨h.len, fun i x p a b => let ⟨t, e, z⟩ := h.at_ i x p a b; ⟨t, e, sameT s z⟩⟩
theorem chars_row (l : List Nat) : (S l).cps.toList.map (fun c => V.str ⟨#[c]⟩) = l.map ch := by
  unfold S
  rfl
theorem same_over {H0 H : Hp} {a : Addr} {o : HO} (s : Same H0 H) (n : H0 a = none) : Same H0 (upd H a o) := fun b u e => by
  rw [upd_ne (ne_of_none e n)]
  exact s _ _ e
theorem lens_rows (cs : List Nat) : ((cs.map fun c => (⟨#[c]⟩ : Str)).map (·.length)).sum = cs.length := lens_ones cs
theorem join_row (cs : List Nat) : Txt.join "" (cs.map fun c => (⟨#[c]⟩ : Str)) = S cs := join_ones cs
theorem ixN_at {n j : Nat} (hj : j < n) : ixN n (j : Int) = some j := by
  unfold ixN
  rw [if_pos (by omega), if_pos (by omega)]
  simp
theorem chars_S (l : List Nat) : chars (S l) = l.map fun c => V.str ⟨#[c]⟩ := by
  unfold chars S
  simp
theorem sum_ones : ∀ n : Nat, (List.replicate n (1 : Int)).sum = n
  | 0 => rfl
  | n + 1 => by
    rw [List.replicate_succ, List.sum_cons, sum_ones n]
    omega
theorem ch_dec (a b : Nat) : decide (V.str ⟨#[a]⟩ = V.str ⟨#[b]⟩) = decide (a = b) := by
  apply Bool.eq_iff_iff.mpr
  rw [decide_eq_true_iff, decide_eq_true_iff]
  constructor
  · intro h
    have e1 : (⟨#[a]⟩ : Str) = ⟨#[b]⟩ := V.str.inj h
    have e2 : (#[a] : Array Nat) = #[b] := congrArg Str.cps e1
    have e3 : [a] = [b] := congrArg Array.toList e2
    exact (List.cons.inj e3).1
  · intro h
    rw [h]
structure ExN (K : PySem.W.Frag) (mg : Str → Option Value) (nm : Str) (C : Addr) : Prop where
  g : mg nm = some (.ref C)
  x : PySem.W.excIn K C [.type "ValueError", .type "Exception", .type "BaseException", .type "object"] "ValueError.__new__" = true
  k : PySem.W.keepIn K (.ref C) = true
  b : PySem.W.subIn K (.ref C) (.type "BaseException") = some true
  t : PySem.W.typeIn K (.ref C) = some (.type "type")
structure Tz (mg : Str → Option Value) : Prop where
  sum : mg "sum" = none
  zip : mg "zip" = none
theorem tyB_same2 {K : PySem.W.Frag} {H H' : Hp} {x : V} {T : String} (t : TyB K H x T) (s : Same H H') : TyB K H' x T := by
  cases t with
  | non => exact .non
  | bl b => exact .bl b
  | int i => exact .int i
  | str x => exact .str x
  | byt b => exact .byt b
  | lst h => exact .lst (s.seq h)
  | tup h => exact .tup (sameT s h)
  | dK h => exact .dK (s _ _ h)
theorem Kt.same {K : PySem.W.Frag} {H H' : Hp} {x : V} (h : Kt K H x) (s : Same H H') : Kt K H' x := let ⟨T, t, ok⟩ := h; ⟨T, tyB_same2 t s, ok⟩
theorem all_true : ∀ n : Nat, (List.replicate n true).all id = true
  | 0 => rfl
  | n + 1 => by
    rw [List.replicate_succ, List.all_cons, all_true n]
    rfl
theorem kt_int {K : PySem.W.Frag} {H : Hp} (i : Int) : Kt K H (.int i) := ⟨"int", .int i, rfl⟩
theorem kt_bl {K : PySem.W.Frag} {H : Hp} (b : Bool) : Kt K H (.bl b) := ⟨"bool", .bl b, rfl⟩
def rD (l : List Nat) : PyData := .str (S l)
def pD (p : Nat × Nat) : PyData := .tuple [.int p.1, .int p.2]
theorem strOk_row {l : List Nat} (h : ∀ c ∈ l, c = 35 ∨ c = 46) : PyData.strOk (S l) = true := by
  unfold PyData.strOk S
  simp
  intro c hc
  rcases h c hc with z | z <;> (subst z; decide)
theorem lay_rows : ∀ ls : List (List Nat), (∀ l ∈ ls, ∀ c ∈ l, c = 35 ∨ c = 46) → PyData.canLayAll0 (ls.map rD) = true ∧ PyData.depthAll (ls.map rD) ≤ 1
  | [], _ => ⟨by simp [PyData.canLayAll0], by simp [PyData.depthAll]⟩
  | l :: r, h => by
    obtain ⟨h1, h2⟩ := lay_rows r fun m hm => h m (List.mem_cons_of_mem _ hm)
    refine ⟨?_, ?_⟩
    · rw [List.map_cons]
      simp [PyData.canLayAll0, PyData.canLay0, rD, h1, strOk_row (h l List.mem_cons_self)]
    · rw [List.map_cons]
      simp only [PyData.depthAll, PyData.depth, rD]
      omega
theorem lay_places : ∀ ps : List (Nat × Nat), PyData.canLayAll0 (ps.map pD) = true ∧ PyData.depthAll (ps.map pD) ≤ 3
  | [] => ⟨by simp [PyData.canLayAll0], by simp [PyData.depthAll]⟩
  | p :: r => by
    obtain ⟨h1, h2⟩ := lay_places r
    refine ⟨?_, ?_⟩
    · rw [List.map_cons]
      simp [PyData.canLayAll0, PyData.canLay0, pD, h1]
    · rw [List.map_cons]
      simp only [PyData.depthAll, PyData.depth, pD]
      omega
theorem shaped_rows {high wide : Nat} {ls : List (List Nat)} (R : RowsR high wide ls) : SeqAt.shaped (.tuple (ls.map rD)) = true := by
  obtain ⟨h1, h2⟩ := lay_rows ls fun l hl => (R.row l hl).sg
  unfold SeqAt.shaped
  rw [Bool.and_eq_true, decide_eq_true_iff]
  refine ⟨by simp [PyData.canLay0, h1], ?_⟩
  simp only [PyData.depth]
  omega
theorem shaped_places (ps : List (Nat × Nat)) : SeqAt.shaped (.list (ps.map pD)) = true := by
  obtain ⟨h1, h2⟩ := lay_places ps
  unfold SeqAt.shaped
  rw [Bool.and_eq_true, decide_eq_true_iff]
  refine ⟨by simp [PyData.canLay0, h1], ?_⟩
  simp only [PyData.depth]
  omega
theorem shaped_place (p : Nat × Nat) : SeqAt.shaped (pD p) = true := rfl
theorem eqv_rows : ∀ ls : List (List Nat), PyData.eqvAll (ls.map rD) (ls.map rD) = true
  | [] => by simp [PyData.eqvAll]
  | l :: r => by
    rw [List.map_cons, PyData.eqvAll, eqv_rows r]
    simp [PyData.eqv, rD]
theorem eqv_pD (p q : Nat × Nat) : PyData.eqv (pD p) (pD q) = decide (p = q) := by
  apply Bool.eq_iff_iff.mpr
  rw [decide_eq_true_iff]
  simp [PyData.eqv, PyData.eqvAll, pD, Prod.ext_iff]
  omega
theorem eqv_places : ∀ ps : List (Nat × Nat), PyData.eqvAll (ps.map pD) (ps.map pD) = true
  | [] => by simp [PyData.eqvAll]
  | p :: r => by
    rw [List.map_cons, PyData.eqvAll, eqv_places r, eqv_pD, decide_eq_true rfl]
    rfl
section
variable {K : PySem.W.Frag} {H : Hp}
theorem dp_rows : ∀ ls : List (List Nat), DpAll K H (ls.map rv) (ls.map rD)
  | [] => .nil
  | l :: r => .cons (.str _) (dp_rows r)
theorem dp_place {t : Addr} {p : Nat × Nat} (h : SqT K H t [.int p.1, .int p.2]) : Dp K H (.ref t) (pD p) := .tup h (.cons (.int _) (.cons (.int _) .nil))
theorem dp_places : ∀ {xs : List V} {ps : List (Nat × Nat)}, Plc K H xs ps → DpAll K H xs (ps.map pD)
  | [], [], _ => .nil
  | [], _ :: _, h => nomatch h.len
  | _ :: _, [], h => nomatch h.len
  | x :: xs, p :: ps, h => by
    obtain ⟨t, e, ht⟩ := h.at_ 0 x p rfl rfl
    subst e
    exact .cons (dp_place ht) (dp_places ⟨Nat.succ.inj h.len, fun i y q a b => h.at_ (i + 1) y q a b⟩)
theorem Plc.app {xs ys : List V} {ps qs : List (Nat × Nat)} (a : Plc K H xs ps) (b : Plc K H ys qs) : Plc K H (xs ++ ys) (ps ++ qs) := by
  refine ⟨by rw [List.length_append, List.length_append, a.len, b.len], fun i x p hx hp => ?_⟩
  by_cases hi : i < xs.length
  · rw [List.getElem?_append_left hi] at hx
    rw [List.getElem?_append_left (by rw [← a.len]; exact hi)] at hp
    exact a.at_ i x p hx hp
  · rw [List.getElem?_append_right (by omega)] at hx
    rw [List.getElem?_append_right (by rw [← a.len]; omega), ← a.len] at hp
    exact b.at_ _ x p hx hp
theorem plc_upd {xs ys zs : List V} {ps : List (Nat × Nat)} {l : Addr} (h : Plc K H xs ps) (hl : H l = some (.lst ys)) : Plc K (upd H l (.lst zs)) xs ps := by
  refine ⟨h.len, fun i x p a b => ?_⟩
  obtain ⟨t, e, ht⟩ := h.at_ i x p a b
  refine ⟨t, e, ?_⟩
  rcases ht with (ht | ⟨o, ht⟩) | ht
  · exact SqT.of (by rw [upd_ne (ne_of ht hl (by intro z; cases z))]; exact ht)
  · exact .inl (.inr ⟨o, by rw [upd_ne (ne_of ht hl (by intro z; cases z))]; exact ht⟩)
  · exact .inr ht
theorem Plc.take {xs : List V} {ps : List (Nat × Nat)} (a : Plc K H xs ps) (n : Nat) : Plc K H (xs.take n) (ps.take n) := by
  refine ⟨by rw [List.length_take, List.length_take, a.len], fun i x p hx hp => ?_⟩
  rw [List.getElem?_take] at hx hp
  split at hx
  · rename_i h
    rw [if_pos h] at hp
    exact a.at_ i x p hx hp
  · cases hx
end
theorem cutV_whole {xs : List V} {lo hi : Option Int} (h : HT.sIx xs.length 0 lo = 0 ∧ HT.sIx xs.length xs.length hi = xs.length) : cutV xs lo hi = xs := by
  unfold cutV
  rw [h.1, h.2, List.drop_zero, Nat.sub_zero, List.take_length]
theorem sl_any {K : PySem.W.Frag} {H : Hp} {a : Addr} {xs : List V} {lo hi : Option Int} {Q : VK} (h : H a = some (.tup xs)) (q : ∀ z H2, Same H H2 → H2 z = some (.tup (cutV xs lo hi)) → Q (.ref z) H2) : rSlA K (.ref a) lo hi H Q :=
  ⟨a, xs, rfl, SqT.of h, fun w => q a H (Same.refl H) (by rw [cutV_whole w]; exact h), fun _ p hp => q p _ (same_upd hp) upd_same⟩
theorem cat_any {K : PySem.W.Frag} {H : Hp} {a b : Addr} {xs ys : List V} {Q : VK} (h : H a = some (.tup xs)) (g : H b = some (.tup ys)) (hz : xs.length + ys.length ≤ sizeLine) (q : ∀ z H2, Same H H2 → H2 z = some (.tup (xs ++ ys)) → Q (.ref z) H2) :
    rCatA K (.ref a) (.ref b) H Q :=
  ⟨a, b, xs, ys, rfl, rfl, SqT.of h, SqT.of g, hz, fun e => q b H (Same.refl H) (by rw [e]; exact g), fun _ e => q a H (Same.refl H) (by rw [e, List.append_nil]; exact h), fun _ _ p hp => q p _ (same_upd hp) upd_same⟩
theorem rep_any {K : PySem.W.Frag} {H : Hp} {a : Addr} {x : V} {k : Nat} {Q : VK} (h : H a = some (.tup [x])) (h1 : 1 ≤ k) (h2 : k ≤ 1000) (q : ∀ z H2, Same H H2 → H2 z = some (.tup (List.replicate k x)) → Q (.ref z) H2) :
    rRepA K (.ref a) (.int k) H Q := by
  have flat : ∀ n : Nat, (List.replicate n [x]).flatten = List.replicate n x := by
    intro n
    induction n with
    | zero => rfl
    | succ n ih => rw [List.replicate_succ, List.flatten_cons, ih, List.replicate_succ]; rfl
  refine ⟨a, k, [x], rfl, rfl, SqT.of h, (by simp), by omega, by omega, by show 1 ≤ 1000; decide, fun e => q a H (Same.refl H) ?_, fun _ p hp => q p _ (same_upd hp) ?_⟩
  · have : k = 1 := by omega
    subst this
    exact h
  · rw [upd_same, Int.toNat_natCast, flat]
end Dt
namespace L2X
open PySem PySem.Spec PyProof.Rows L2
/-! ### comprehensions of two clauses, and of one, over anything -/
theorem lc2_by {J : It} {g : TG} {tt : TT} {wi1 : TI} {g1 : TG} {tt1 : TT} {te : TE} {vs vs1 : List Nat} {σ : L2.St} {H1 : Hp} {D : Addr} {Qd : Hp → Prop} (n : Nat) (Pv : Nat → Hp → Prop) (h0 : Pv 0 (upd H1 D (.lst [])))
    (hstop : ∀ H, Pv n H → J.stop n H) (hgo : ∀ i H, i < n → Pv i H → J.go i H)
    (hs : ∀ i x H H', i < n → Pv i H → J.yld i H x H' → g x (wipe σ vs) H' fun σ2 H2 => wipe σ2 vs = wipe σ vs ∧ tt σ2 H2 fun b H3 =>
      if b = true then wi1 σ2 H3 fun J1 H4 => ∃ W1 : Nat → Nat → Hp → Prop, (∃ m, W1 0 m H4) ∧ ∀ j k H, W1 j k H →
        (J1.stop j H ∧ Pv (i + 1) H) ∨ (J1.go j H ∧ ∃ Nx1 : Hp → Prop, (∀ H', Nx1 H' → ∃ k', k' < k ∧ W1 (j + 1) k' H') ∧ ∀ x H', J1.yld j H x H' → g1 x (wipe σ2 vs1) H' fun σ3 H5 => wipe σ3 vs1 = wipe σ2 vs1 ∧ tt1 σ3 H5 fun b H6 =>
          if b = true then te σ3 H6 fun y H7 => ∃ acc, H7 D = some (.lst acc) ∧ acc.length < sizeLine ∧ Nx1 (upd H7 D (.lst (acc ++ [y]))) else Nx1 H6)
      else Pv (i + 1) H3) (hd : ∀ H, Pv n H → Qd H) :
    ∃ W : Nat → Nat → Hp → Prop, (∃ m, W 0 m (upd H1 D (.lst []))) ∧ ∀ i m H, W i m H →
      (J.stop i H ∧ Qd H) ∨ (J.go i H ∧ ∃ Nx : Hp → Prop, (∀ H', Nx H' → ∃ m', m' < m ∧ W (i + 1) m' H') ∧ ∀ x H', J.yld i H x H' → g x (wipe σ vs) H' fun σ2 H2 => wipe σ2 vs = wipe σ vs ∧ tt σ2 H2 fun b H3 =>
        if b = true then wi1 σ2 H3 fun J1 H4 => ∃ W1 : Nat → Nat → Hp → Prop, (∃ m, W1 0 m H4) ∧ ∀ j k H, W1 j k H →
          (J1.stop j H ∧ Nx H) ∨ (J1.go j H ∧ ∃ Nx1 : Hp → Prop, (∀ H', Nx1 H' → ∃ k', k' < k ∧ W1 (j + 1) k' H') ∧ ∀ x H', J1.yld j H x H' → g1 x (wipe σ2 vs1) H' fun σ3 H5 => wipe σ3 vs1 = wipe σ2 vs1 ∧ tt1 σ3 H5 fun b H6 =>
            if b = true then te σ3 H6 fun y H7 => ∃ acc, H7 D = some (.lst acc) ∧ acc.length < sizeLine ∧ Nx1 (upd H7 D (.lst (acc ++ [y]))) else Nx1 H6)
        else Nx H3) := by
  refine ⟨fun i m H => m = n - i ∧ i ≤ n ∧ Pv i H, ⟨n, by simp, Nat.zero_le _, h0⟩, ?_⟩
  rintro i m H ⟨rfl, hi, p⟩
  by_cases hlt : i < n
  · exact .inr ⟨hgo i H hlt p, Pv (i + 1), fun H' p' => ⟨n - (i + 1), by omega, rfl, hlt, p'⟩, fun x H' y => hs i x H H' hlt p y⟩
  · have e : i = n := by omega
    subst e
    exact .inl ⟨hstop H p, hd H p⟩
theorem lc2_in {J1 : It} {g1 : TG} {tt1 : TT} {te : TE} {vs1 : List Nat} {σ2 : L2.St} {H4 : Hp} {D : Addr} {Nx : Hp → Prop} (n : Nat) (Pv : Nat → Hp → Prop) (h0 : Pv 0 H4) (hstop : ∀ H, Pv n H → J1.stop n H) (hgo : ∀ i H, i < n → Pv i H → J1.go i H)
    (hs : ∀ i x H H', i < n → Pv i H → J1.yld i H x H' → g1 x (wipe σ2 vs1) H' fun σ3 H5 => wipe σ3 vs1 = wipe σ2 vs1 ∧ tt1 σ3 H5 fun b H6 =>
      if b = true then te σ3 H6 fun y H7 => ∃ acc, H7 D = some (.lst acc) ∧ acc.length < sizeLine ∧ Pv (i + 1) (upd H7 D (.lst (acc ++ [y]))) else Pv (i + 1) H6) (hd : ∀ H, Pv n H → Nx H) :
    ∃ W1 : Nat → Nat → Hp → Prop, (∃ m, W1 0 m H4) ∧ ∀ j k H, W1 j k H →
      (J1.stop j H ∧ Nx H) ∨ (J1.go j H ∧ ∃ Nx1 : Hp → Prop, (∀ H', Nx1 H' → ∃ k', k' < k ∧ W1 (j + 1) k' H') ∧ ∀ x H', J1.yld j H x H' → g1 x (wipe σ2 vs1) H' fun σ3 H5 => wipe σ3 vs1 = wipe σ2 vs1 ∧ tt1 σ3 H5 fun b H6 =>
        if b = true then te σ3 H6 fun y H7 => ∃ acc, H7 D = some (.lst acc) ∧ acc.length < sizeLine ∧ Nx1 (upd H7 D (.lst (acc ++ [y]))) else Nx1 H6) := by
  refine ⟨fun i m H => m = n - i ∧ i ≤ n ∧ Pv i H, ⟨n, by simp, Nat.zero_le _, h0⟩, ?_⟩
  rintro i m H ⟨rfl, hi, p⟩
  by_cases hlt : i < n
  · exact .inr ⟨hgo i H hlt p, Pv (i + 1), fun H' p' => ⟨n - (i + 1), by omega, rfl, hlt, p'⟩, fun x H' y => hs i x H H' hlt p y⟩
  · have e : i = n := by omega
    subst e
    exact .inl ⟨hstop H p, hd H p⟩
end L2X
namespace Dt
open PySem PySem.Spec PyProof.Rows L2 L2X
open SX (S)
/-! ### dots -/
theorem smallT {n : Nat} (h : n < 100000) : n < sizeLine := Nat.lt_of_lt_of_le h (by decide)
def rowDots (r : Nat) (l : List Nat) : List (Nat × Nat) := (l.zipIdx.filter fun p => decide (p.1 = 35)).map fun p => (r, p.2)
def dotsP (rs : List (List Nat)) : List (Nat × Nat) := (rs.zipIdx.map fun p => rowDots p.2 p.1).flatten
theorem map_at {α β : Type} {f : α → β} {l : List α} {i : Nat} {y : β} (h : (l.map f)[i]? = some y) : ∃ x, l[i]? = some x ∧ y = f x := by
  rw [List.getElem?_map] at h
  cases e : l[i]? with
  | none =>
    rw [e] at h
    cases h
  | some z =>
    rw [e] at h
    exact ⟨z, rfl, (Option.some.inj h).symm⟩
theorem dotsP_snoc {rs : List (List Nat)} {i : Nat} {l : List Nat} (h : rs[i]? = some l) : dotsP (rs.take (i + 1)) = dotsP (rs.take i) ++ rowDots i l := by
  have hi : i < rs.length := (List.getElem?_eq_some_iff.mp h).1
  unfold dotsP
  rw [take_snoc h, List.zipIdx_append, List.map_append, List.flatten_append]
  have : (rs.take i).length = i := by
    rw [List.length_take]
    omega
  simp [this]
theorem rowDots_snoc {r : Nat} {l : List Nat} {j c : Nat} (h : l[j]? = some c) : rowDots r (l.take (j + 1)) = rowDots r (l.take j) ++ if c = 35 then [(r, j)] else [] := by
  have hj : j < l.length := (List.getElem?_eq_some_iff.mp h).1
  unfold rowDots
  rw [take_snoc h, List.zipIdx_append, List.filter_append, List.map_append]
  have : (l.take j).length = j := by
    rw [List.length_take]
    omega
  by_cases e : c = 35
  · simp [this, e]
  · simp [this, e]
theorem plc_one {K : PySem.W.Frag} {H : Hp} {xs : List V} {ps : List (Nat × Nat)} {D t : Addr} {r c : Nat} (h : Plc K H xs ps) (hD : H D = some (.lst xs)) (ht : H t = none) :
    Plc K (upd (upd H t (.tup [.int r, .int c])) D (.lst (xs ++ [.ref t]))) (xs ++ [.ref t]) (ps ++ [(r, c)]) := by
  have s := same_upd (o := .tup [V.int r, V.int c]) ht
  have one : Plc K (upd H t (.tup [V.int r, V.int c])) [V.ref t] [(r, c)] := ⟨rfl, fun i x pp hx hpp => by
    cases i with
    | zero =>
      cases hx
      cases hpp
      exact ⟨t, rfl, SqT.of upd_same⟩
    | succ i => exact nomatch hx⟩
  exact plc_upd ((h.same s).app one) (s _ _ hD)
abbrev sDots : Stmt := topS 28
theorem scDots : FnScope ["picture", "at", "row", "column", "sign"] ["picture"] (defScope sDots) := ⟨rfl, rfl, rfl, by decide +kernel, rfl, by decide +kernel, by decide +kernel⟩
def spDots (K : PySem.W.Frag) : Sp := fun vs H Q _ => ∃ (a : Addr) (high wide : Nat) (rs : List (List Nat)), vs = [.ref a] ∧ H a = some (.tup (rs.map rv)) ∧ PicR high wide rs ∧
  ∀ D xs H', Same H H' → H D = none → H' D = some (.lst xs) → Plc K H' xs (dotsP rs) → xs.length ≤ 7200 → Q (.ref D) H'
section
variable {P : Program} {w : World} {K : PySem.W.Frag} {mg : Str → Option Value} {base : Heap} {C CP : Addr}
theorem ok_dots {f : Addr} {fd : FuncData} {k : Nat} (F : Fun K "dots" "dots" sDots f fd) (en : mg "enumerate" = none) (G : GW P w K mg base C (k + 1)) : FnOk P w K mg base (L2.CX P w) (k + 2) f fd ["picture"] (spDots K) := by
  obtain ⟨fW, fdW, GW, mW, kW, bW⟩ := G.ex
  refine F.okX scDots (fun vs H Q E h => ?_) (fun cdv A outer s H vs Q E hr h => ?_)
  · obtain ⟨a, _, _, _, rfl, _⟩ := h
    rfl
  · obtain ⟨a, high, wide, rs, rfl, ha, pr, q⟩ := h
    have nd := scDots.nd
    refine ⟨_, pss_cons (ps_expr (pe_callS GW hr (by rfl) mW kW bW (fun σ => passAt (takes_of rfl rfl rfl rfl) σ) (pa_cons (pv 0) pa_nil)))
      (pss_one (ps_ret (pe_lc2 (own := [("at", 1), ("row", 2), ("column", 3), ("sign", 4)]) (vs1 := [3, 4]) (g := gTup K 2 (gCons (gName 1) (gCons (gName 2) gNil))) (tt := tYes) (wi1 := iEnumG K (tCons (tVar 2) tNil)) (g1 := gTup K 2 (gCons (gName 3) (gCons (gName 4) gNil))) rfl nd
        (pi_enumG (by rfl) en (pa_cons (pv 0) pa_nil)) (blkOk_by (N := ["picture", "at", "row", "column", "sign"]) (sc := defScope sDots) (by decide +kernel)) (by decide)
        (fun _ _ _ _ _ => pg_tup rfl (pgs_cons (pg_name (i := 1) nd rfl (Or.inl rfl)) (pgs_cons (pg_name (i := 2) nd rfl (Or.inl rfl)) pgs_nil))) (fun _ _ _ _ _ => pts_nil)
        (fun _ _ _ _ _ => pi_enumG (by rfl) en (pa_cons (pv 2) pa_nil))
        (fun _ _ _ _ _ => pg_tup rfl (pgs_cons (pg_name (i := 3) nd rfl (Or.inl rfl)) (pgs_cons (pg_name (i := 4) nd rfl (Or.inl rfl)) pgs_nil)))
        (fun _ _ _ _ _ => pts_one (pt_cmpR op_eq (pv 4) pe_str (nomark _))) (fun _ _ _ _ _ => pe_tup (pa_cons (pv 1) (pa_cons (pv 3) pa_nil)))))), ?_⟩
    refine ⟨.ref a, rfl, .ref a, true, rfl, askPic pr ha, fun _ H1 s1 => ?_, fun e => nomatch e⟩
    have ha1 := s1 _ _ ha
    have w1 := pr.w1
    have h1' := pr.h1
    have hlen := pr.len
    refine ⟨.ref a, rfl, .tup a, rs.map rv, rfl, SqT.of ha1, fun D hD => lc2_by rs.length (fun i H2 => Same H1 H2 ∧ ∃ xs, H2 D = some (.lst xs) ∧ Plc K H2 xs (dotsP (rs.take i)) ∧ xs.length ≤ i * 120) ?_ ?_ ?_ ?_ ?_⟩
    · exact ⟨same_upd hD, [], upd_same, ⟨rfl, fun i x p h => nomatch h⟩, Nat.zero_le _⟩
    · rintro H2 ⟨sm, _⟩
      exact ⟨_, SqT.of (sm _ _ ha1), List.length_map _⟩
    · rintro i H2 hi ⟨sm, _⟩
      exact ⟨_, _, SqT.of (sm _ _ ha1), List.getElem?_eq_getElem (by rw [List.length_map]; exact hi)⟩
    · rintro i x H2 H3 hi ⟨sm, xs, hx, pl, lx⟩ ⟨T, y, rfl, nT, rfl, hy⟩
      obtain ⟨l, hl, rfl⟩ := map_at (hy _ (SqT.of (sm _ _ ha1)))
      have l1 := (pr.row l (List.mem_of_getElem? hl)).len
      have sT := same_upd (o := .tup [V.int (i : Nat), rv l]) nT
      refine ⟨T, _, rfl, SqT.of upd_same, rfl, _, _, rfl, _, _, rfl, rfl, rfl, ?_⟩
      refine ⟨rv l, rfl, .txt (S l), chars (S l), rfl, rfl, lc2_in wide (fun j H4 => Same H1 H4 ∧ ∃ xs, H4 D = some (.lst xs) ∧ Plc K H4 xs (dotsP (rs.take i) ++ rowDots i (l.take j)) ∧ xs.length ≤ i * 120 + j) ?_ ?_ ?_ ?_ ?_⟩
      · exact ⟨sm.trans sT, xs, sT _ _ hx, by rw [List.take_zero]; show Plc K _ xs (dotsP (rs.take i) ++ []); rw [List.append_nil]; exact pl.same sT, lx⟩
      · rintro H4 _
        exact ⟨_, rfl, by rw [chars_S, List.length_map, l1]⟩
      · rintro j H4 hj _
        exact ⟨_, _, rfl, List.getElem?_eq_getElem (by rw [chars_S, List.length_map, l1]; exact hj)⟩
      · rintro j x H4 H5 hj ⟨sm4, ys, hys, pl4, ly⟩ ⟨T2, z, rfl, nT2, rfl, hz⟩
        have hz' := hz _ rfl
        rw [chars_S] at hz'
        obtain ⟨c, hc, rfl⟩ := map_at hz'
        have sT2 := same_upd (o := .tup [V.int (j : Nat), V.str ⟨#[c]⟩]) nT2
        refine ⟨T2, _, rfl, SqT.of upd_same, rfl, _, _, rfl, _, _, rfl, rfl, rfl, .str ⟨#[c]⟩, rfl, rfl, _, rfl, ?_⟩
        have e1 : decide (V.str ⟨#[c]⟩ = V.str "#") = decide (c = 35) := by
          rw [s_hash]
          exact ch_dec c 35
        rw [e1, rowDots_snoc hc]
        have hys5 := sT2 _ _ hys
        have nD : D ≠ T2 := fun e => by
          rw [e, nT2] at hys
          cases hys
        by_cases ec : c = 35
        · rw [decide_eq_true ec, if_pos ec]
          refine iteT ⟨.int i, rfl, .int j, rfl, by show 2 ≤ sizeLine; decide, fun t ht => ⟨ys, ?_, smallT (by omega), ?_, ys ++ [.ref t], upd_same, ?_, ?_⟩⟩
          · rw [upd_ne (ne_of_none hys5 ht)]
            exact hys5
          · exact same_over ((sm4.trans sT2).trans (same_upd ht)) hD
          · rw [← List.append_assoc]
            exact plc_one (pl4.same sT2) hys5 ht
          · rw [List.length_append, List.length_singleton]
            omega
        · rw [decide_eq_false ec, if_neg ec, List.append_nil]
          exact iteF ⟨sm4.trans sT2, ys, hys5, pl4.same sT2, by omega⟩
      · rintro H4 ⟨sm4, ys, hys, pl4, ly⟩
        have e : l.take wide = l := List.take_of_length_le (by omega)
        rw [e, ← dotsP_snoc hl] at pl4
        exact ⟨sm4, ys, hys, pl4, by omega⟩
    · rintro H2 ⟨sm, xs, hx, pl, lx⟩
      rw [List.take_length] at pl
      exact q D xs H2 (s1.trans sm) (s1.free hD) hx pl (by omega)
end
end Dt
namespace Dt
open PySem PySem.Spec PyProof.Rows L2 L2X
open SX (S)
theorem map_at2 {α : Type} {f : α → V} {l : List α} {i : Nat} {x : V} (h : (l.map f)[i]? = some x) : ∃ a, l[i]? = some a ∧ x = f a := by
  rw [List.getElem?_map] at h
  cases e : l[i]? with
  | none =>
    rw [e] at h
    cases h
  | some z =>
    rw [e] at h
    exact ⟨z, rfl, (Option.some.inj h).symm⟩
/-! ### shapes as data -/
structure Sh where
  sg : Nat
  w : Nat
  rs : List (List Nat)
def ShAt (H : Hp) (x : V) (s : Sh) : Prop := ∃ t p, x = .ref t ∧ H t = some (.tup [ch s.sg, .ref p]) ∧ H p = some (.tup (s.rs.map rv))
structure Good (high wide : Nat) (s : Sh) : Prop where
  pic : PicR high s.w s.rs
  w8 : s.w ≤ wide
  s0 : 33 ≤ s.sg
  s1 : s.sg ≤ 126
  dot : ∃ l ∈ s.rs, 35 ∈ l
structure Shs (H : Hp) (xs : List V) (ss : List Sh) : Prop where
  len : xs.length = ss.length
  at_ : ∀ (i : Nat) (x : V) (s : Sh), xs[i]? = some x → ss[i]? = some s → ShAt H x s
structure Goods (high wide : Nat) (ss : List Sh) : Prop where
  all : ∀ s ∈ ss, Good high wide s
  nd : (ss.map (·.rs)).Nodup
theorem ShAt.same {H H' : Hp} {x : V} {s : Sh} (h : ShAt H x s) (sm : Same H H') : ShAt H' x s :=
  let ⟨t, p, e, h1, h2⟩ := h; ⟨t, p, e, sm _ _ h1, sm _ _ h2⟩
theorem ShAt.dn {H H' : Hp} {d g c : Addr} {x : V} {s : Sh} (h : ShAt H x s) (D : Dr H d g c) (sm : Dn d g H H') : ShAt H' x s := by
  obtain ⟨t, p, e, h1, h2⟩ := h
  obtain ⟨⟨_, _, hd⟩, ⟨gs, hg, _⟩, _, _⟩ := D
  exact ⟨t, p, e, sm _ _ h1 (ne_of h1 hd (by intro z; cases z)) (ne_of h1 hg (by intro z; cases z)), sm _ _ h2 (ne_of h2 hd (by intro z; cases z)) (ne_of h2 hg (by intro z; cases z))⟩
theorem ShAt.updl {H : Hp} {l : Addr} {ys zs : List V} {x : V} {s : Sh} (h : ShAt H x s) (hl : H l = some (.lst ys)) : ShAt (upd H l (.lst zs)) x s := by
  obtain ⟨t, p, e, h1, h2⟩ := h
  exact ⟨t, p, e, by rw [upd_ne (ne_of h1 hl (by intro z; cases z))]; exact h1, by rw [upd_ne (ne_of h2 hl (by intro z; cases z))]; exact h2⟩
section
variable {H H' : Hp} {xs : List V} {ss : List Sh}
theorem Shs.same (h : Shs H xs ss) (sm : Same H H') : Shs H' xs ss := ⟨h.len, fun i x s a b => (h.at_ i x s a b).same sm⟩
theorem Shs.dn {d g c : Addr} (h : Shs H xs ss) (D : Dr H d g c) (sm : Dn d g H H') : Shs H' xs ss := ⟨h.len, fun i x s a b => (h.at_ i x s a b).dn D sm⟩
theorem Shs.updl {l : Addr} {ys zs : List V} (h : Shs H xs ss) (hl : H l = some (.lst ys)) : Shs (upd H l (.lst zs)) xs ss := ⟨h.len, fun i x s a b => (h.at_ i x s a b).updl hl⟩
theorem Shs.nil : Shs H [] [] := ⟨rfl, fun i x s h => nomatch h⟩
theorem Shs.add {x : V} {s : Sh} (h : Shs H xs ss) (a : ShAt H x s) : Shs H (xs ++ [x]) (ss ++ [s]) := by
  refine ⟨by rw [List.length_append, List.length_append, h.len]; rfl, fun i y s' hy hs => ?_⟩
  by_cases hi : i < xs.length
  · rw [List.getElem?_append_left hi] at hy
    rw [List.getElem?_append_left (by rw [← h.len]; exact hi)] at hs
    exact h.at_ i y s' hy hs
  · rw [List.getElem?_append_right (by omega)] at hy
    rw [List.getElem?_append_right (by rw [← h.len]; omega), ← h.len] at hs
    rcases hk : i - xs.length with _ | k
    · rw [hk] at hy hs
      cases hy
      cases hs
      exact a
    · rw [hk] at hy
      cases hy
end
theorem Goods.nil {high wide : Nat} : Goods high wide [] := ⟨(fun s h => nomatch h), List.nodup_nil⟩
theorem Goods.add {high wide : Nat} {ss : List Sh} {s : Sh} (h : Goods high wide ss) (g : Good high wide s) (nw : s.rs ∉ ss.map (·.rs)) : Goods high wide (ss ++ [s]) := by
  refine ⟨fun y hy => ?_, ?_⟩
  · rcases List.mem_append.mp hy with z | z
    · exact h.all y z
    · rw [List.mem_singleton.mp z]
      exact g
  · rw [List.map_append, List.nodup_append]
    refine ⟨h.nd, by simp, fun x hx y hy e => ?_⟩
    have : y = s.rs := by simpa using hy
    rw [← this, ← e] at nw
    exact nw hx
def sD (s : Sh) : PyData := .tuple [.str ⟨#[s.sg]⟩, .tuple (s.rs.map rD)]
def pDs (s : Sh) : PyData := .tuple (s.rs.map rD)
theorem dp_sh {K : PySem.W.Frag} {H : Hp} {x : V} {s : Sh} (h : ShAt H x s) : Dp K H x (sD s) := by
  obtain ⟨t, p, rfl, h1, h2⟩ := h
  exact .tup (SqT.of h1) (.cons (.str _) (.cons (.tup (SqT.of h2) (dp_rows _)) .nil))
theorem dp_shs {K : PySem.W.Frag} {H : Hp} : ∀ {xs : List V} {ss : List Sh}, Shs H xs ss → DpAll K H xs (ss.map sD)
  | [], [], _ => .nil
  | [], _ :: _, h => nomatch h.len
  | _ :: _, [], h => nomatch h.len
  | x :: xs, s :: ss, h => .cons (dp_sh (h.at_ 0 x s rfl rfl)) (dp_shs ⟨Nat.succ.inj h.len, fun i y q a b => h.at_ (i + 1) y q a b⟩)
theorem lay_sh {high wide : Nat} : ∀ ss : List Sh, (∀ s ∈ ss, Good high wide s) → PyData.canLayAll0 (ss.map sD) = true ∧ PyData.depthAll (ss.map sD) ≤ 3 ∧ PyData.canLayAll0 (ss.map pDs) = true ∧ PyData.depthAll (ss.map pDs) ≤ 3
  | [], _ => ⟨by simp [PyData.canLayAll0], by simp [PyData.depthAll], by simp [PyData.canLayAll0], by simp [PyData.depthAll]⟩
  | s :: r, h => by
    obtain ⟨h1, h2, h3, h4⟩ := lay_sh r fun m hm => h m (List.mem_cons_of_mem _ hm)
    have g := h s List.mem_cons_self
    obtain ⟨r1, r2⟩ := lay_rows s.rs fun l hl => (g.pic.row l hl).sg
    have so : PyData.strOk ⟨#[s.sg]⟩ = true := by
      unfold PyData.strOk
      have := g.s1
      simp
      omega
    refine ⟨?_, ?_, ?_, ?_⟩
    · rw [List.map_cons]
      simp [PyData.canLayAll0, PyData.canLay0, sD, h1, r1, so]
    · rw [List.map_cons]
      simp only [PyData.depthAll, PyData.depth, sD]
      omega
    · rw [List.map_cons]
      simp [PyData.canLayAll0, PyData.canLay0, pDs, h3, r1]
    · rw [List.map_cons]
      simp only [PyData.depthAll, PyData.depth, pDs]
      omega
theorem shaped_shs {high wide : Nat} {ss : List Sh} (h : ∀ s ∈ ss, Good high wide s) : SeqAt.shaped (.list (ss.map sD)) = true := by
  obtain ⟨h1, h2, _⟩ := lay_sh ss h
  unfold SeqAt.shaped
  rw [Bool.and_eq_true, decide_eq_true_iff]
  refine ⟨by simp [PyData.canLay0, h1], ?_⟩
  simp only [PyData.depth]
  omega
theorem shaped_pics {high wide : Nat} {ss : List Sh} (h : ∀ s ∈ ss, Good high wide s) : SeqAt.shaped (.list (ss.map pDs)) = true := by
  obtain ⟨_, _, h1, h2⟩ := lay_sh ss h
  unfold SeqAt.shaped
  rw [Bool.and_eq_true, decide_eq_true_iff]
  refine ⟨by simp [PyData.canLay0, h1], ?_⟩
  simp only [PyData.depth]
  omega
theorem eqv_rowsD : ∀ ls ms : List (List Nat), PyData.eqvAll (ls.map rD) (ms.map rD) = decide (ls = ms)
  | [], [] => by simp [PyData.eqvAll]
  | [], _ :: _ => by simp [PyData.eqvAll]
  | _ :: _, [] => by simp [PyData.eqvAll]
  | l :: r, m :: t => by
    rw [List.map_cons, List.map_cons, PyData.eqvAll, eqv_rowsD r t]
    have e : PyData.eqv (rD l) (rD m) = decide (l = m) := by
      show (S l == S m) = _
      exact SX.S_beq_eq
    rw [e]
    apply Bool.eq_iff_iff.mpr
    simp
theorem eqv_pics (ls ms : List (List Nat)) : PyData.eqv (.tuple (ls.map rD)) (.tuple (ms.map rD)) = decide (ls = ms) := by
  rw [← eqv_rowsD ls ms]
  simp [PyData.eqv]
theorem any_pics (ss : List Sh) (ls : List (List Nat)) : ((ss.map pDs).any fun z => PyData.eqv z (.tuple (ls.map rD))) = decide (ls ∈ ss.map (·.rs)) := by
  apply Bool.eq_iff_iff.mpr
  rw [List.any_eq_true, decide_eq_true_iff]
  constructor
  · rintro ⟨z, hz, e⟩
    obtain ⟨s, hs, rfl⟩ := List.mem_map.mp hz
    have e2 : PyData.eqv (.tuple (s.rs.map rD)) (.tuple (ls.map rD)) = true := e
    rw [eqv_pics, decide_eq_true_iff] at e2
    rw [← e2]
    exact List.mem_map.mpr ⟨s, hs, rfl⟩
  · intro h
    obtain ⟨s, hs, e⟩ := List.mem_map.mp h
    refine ⟨pDs s, List.mem_map.mpr ⟨s, hs, rfl⟩, ?_⟩
    show PyData.eqv (.tuple (s.rs.map rD)) (.tuple (ls.map rD)) = true
    rw [eqv_pics, e, decide_eq_true rfl]
/-! ### texts -/
theorem joinL_nil : ∀ ls : List (List Nat), TL.joinL [] ls = ls.flatten
  | [] => rfl
  | [c] => by
    show c = c ++ []
    rw [List.append_nil]
  | c :: d :: r => by
    show c ++ ([] ++ TL.joinL [] (d :: r)) = _
    rw [joinL_nil (d :: r)]
    rfl
theorem join_flat (ls : List (List Nat)) : Txt.join "" (ls.map S) = S ls.flatten := by
  rw [s_empty, SX.join_S, joinL_nil]
theorem lens_flat : ∀ {ls : List (List Nat)} {w : Nat}, (∀ l ∈ ls, l.length = w) → ((ls.map S).map (·.length)).sum = ls.length * w
  | [], w, _ => by simp
  | l :: r, w, h => by
    rw [List.map_cons, List.map_cons, List.sum_cons, lens_flat fun m hm => h m (List.mem_cons_of_mem _ hm), SX.S_len, h l List.mem_cons_self, List.length_cons, Nat.add_mul, Nat.one_mul, Nat.add_comm]
theorem cutS_to (l : List Nat) (n : Nat) : cutS (S l) none (some (n : Int)) = S (l.take n) := by
  unfold cutS
  rw [SX.S_len, HT.sIx_nat]
  have e0 : HT.sIx l.length 0 none = 0 := rfl
  rw [e0, Nat.sub_zero]
  show S (((S l).cps.toList.drop 0).take (min n l.length)) = _
  have e1 : (S l).cps.toList = l := by simp [S]
  rw [e1, List.drop_zero]
  congr 1
  by_cases h : n ≤ l.length
  · rw [Nat.min_eq_left h]
  · rw [Nat.min_eq_right (by omega), List.take_length, List.take_of_length_le (by omega)]
theorem gap_ok {g : Nat} (h : g ≤ 120) : MulOk "." (g : Int) ∧ Txt.mul "." (g : Int) = S (List.replicate g 46) := by
  rw [s_dot]
  rcases Nat.eq_zero_or_pos g with e | e
  · subst e
    refine ⟨⟨by decide, fun n => absurd (by decide) n, fun n => absurd (by decide) n⟩, ?_⟩
    unfold Txt.mul
    rw [if_pos (by decide)]
    rfl
  · exact ⟨mul_ok 46 g e h, mul_sign 46 g e⟩
theorem has_dot {rs : List (List Nat)} (h : 35 ∈ rs.flatten) : ∃ l ∈ rs, 35 ∈ l := by
  obtain ⟨l, hl, hm⟩ := List.mem_flatten.mp h
  exact ⟨l, hl, hm⟩
theorem neD_nil {ss : List Sh} (h : ss = []) : (!PyData.eqv (.list (ss.map sD)) (.list [])) = false := by
  rw [h]
  simp [PyData.eqv, PyData.eqvAll]
theorem neD_ne {ss : List Sh} (h : ss ≠ []) : (!PyData.eqv (.list (ss.map sD)) (.list [])) = true := by
  cases ss with
  | nil => exact absurd rfl h
  | cons s r => simp [PyData.eqv, PyData.eqvAll]
/-- the pictures alone -/
structure Pcs (H : Hp) (zs : List V) (ss : List Sh) : Prop where
  len : zs.length = ss.length
  at_ : ∀ (i : Nat) (z : V) (s : Sh), zs[i]? = some z → ss[i]? = some s → ∃ p, z = .ref p ∧ H p = some (.tup (s.rs.map rv))
theorem Pcs.same {H H' : Hp} {zs : List V} {ss : List Sh} (h : Pcs H zs ss) (sm : Same H H') : Pcs H' zs ss := ⟨h.len, fun i z s a b => let ⟨p, e, hp⟩ := h.at_ i z s a b; ⟨p, e, sm _ _ hp⟩⟩
theorem Pcs.updl {H : Hp} {zs : List V} {ss : List Sh} {l : Addr} {ys us : List V} (h : Pcs H zs ss) (hl : H l = some (.lst ys)) : Pcs (upd H l (.lst us)) zs ss := ⟨h.len, fun i z s a b => let ⟨p, e, hp⟩ := h.at_ i z s a b; ⟨p, e, by rw [upd_ne (ne_of hp hl (by intro z; cases z))]; exact hp⟩⟩
theorem Pcs.add {H : Hp} {zs : List V} {ss : List Sh} {p : Addr} {s : Sh} (h : Pcs H zs ss) (hp : H p = some (.tup (s.rs.map rv))) : Pcs H (zs ++ [.ref p]) (ss ++ [s]) := by
  refine ⟨by rw [List.length_append, List.length_append, h.len]; rfl, fun i y s' hy hs => ?_⟩
  by_cases hi : i < zs.length
  · rw [List.getElem?_append_left hi] at hy
    rw [List.getElem?_append_left (by rw [← h.len]; exact hi)] at hs
    exact h.at_ i y s' hy hs
  · rw [List.getElem?_append_right (by omega)] at hy
    rw [List.getElem?_append_right (by rw [← h.len]; omega), ← h.len] at hs
    rcases hk : i - zs.length with _ | k
    · rw [hk] at hy hs
      cases hy
      cases hs
      exact ⟨p, rfl, hp⟩
    · rw [hk] at hy
      cases hy
theorem dp_pcs {K : PySem.W.Frag} {H : Hp} : ∀ {zs : List V} {ss : List Sh}, Pcs H zs ss → DpAll K H zs (ss.map pDs)
  | [], [], _ => .nil
  | [], _ :: _, h => nomatch h.len
  | _ :: _, [], h => nomatch h.len
  | x :: xs, s :: ss, h => by
    obtain ⟨p, e, hp⟩ := h.at_ 0 x s rfl rfl
    subst e
    exact .cons (.tup (SqT.of hp) (dp_rows _)) (dp_pcs ⟨Nat.succ.inj h.len, fun i y q a b => h.at_ (i + 1) y q a b⟩)
end Dt
namespace Dt
open PySem PySem.Spec PyProof.Rows L2 L2X
open SX (S)
/-! ### parts of texts and of tuples -/
theorem cutV_to (xs : List V) (n : Nat) : cutV xs none (some (n : Int)) = xs.take n := by
  unfold cutV
  rw [HT.sIx_nat]
  show (xs.drop 0).take (min n xs.length - 0) = _
  rw [List.drop_zero, Nat.sub_zero]
  by_cases h : n ≤ xs.length
  · rw [Nat.min_eq_left h]
  · rw [Nat.min_eq_right (by omega), List.take_length, List.take_of_length_le (by omega)]
theorem cutV_from (xs : List V) (n : Nat) : cutV xs (some (n : Int)) none = xs.drop n := by
  unfold cutV
  rw [HT.sIx_nat]
  show (xs.drop (min n xs.length)).take (xs.length - min n xs.length) = _
  by_cases h : n ≤ xs.length
  · rw [Nat.min_eq_left h]
    exact List.take_of_length_le (by rw [List.length_drop]; omega)
  · rw [Nat.min_eq_right (by omega), List.drop_of_length_le (Nat.le_refl _), List.drop_of_length_le (by omega), List.take_nil]
theorem cutS_from (l : List Nat) (n : Nat) : cutS (S l) (some (n : Int)) none = S (l.drop n) := by
  unfold cutS
  rw [SX.S_len, HT.sIx_nat]
  show S (((S l).cps.toList.drop (min n l.length)).take (l.length - min n l.length)) = _
  have e1 : (S l).cps.toList = l := by simp [S]
  rw [e1]
  congr 1
  by_cases h : n ≤ l.length
  · rw [Nat.min_eq_left h]
    exact List.take_of_length_le (by rw [List.length_drop]; omega)
  · rw [Nat.min_eq_right (by omega), List.drop_of_length_le (Nat.le_refl _), List.drop_of_length_le (by omega), List.take_nil]
theorem map_rv (rs : List (List Nat)) : (rs.map S).map V.str = rs.map rv := by
  rw [List.map_map]
  rfl
def Dot (rs : List (List Nat)) : Prop := ∃ l ∈ rs, 35 ∈ l
theorem dot_mem {rs : List (List Nat)} (e : decide (35 ∈ (S rs.flatten).cps.toList) = true) : Dot rs := by
  refine has_dot ?_
  have := of_decide_eq_true e
  simpa [S] using this
theorem join_len {high wide : Nat} {rs : List (List Nat)} (R : RowsR high wide rs) (h1 : high ≤ 60) (w1 : wide ≤ 120) : ((rs.map S).map (·.length)).sum + (rs.map S).length * ("" : Str).length ≤ 16777216 := by
  rw [lens_flat (w := wide) fun r hr' => (R.row r hr').len, R.len]
  have := Nat.mul_le_mul h1 w1
  show high * wide + _ * 0 ≤ 16777216
  omega
abbrev sSh1 : Stmt := topS 42
theorem scSh1 : FnScope ["draw", "high", "wide", "rows"] ["draw", "high", "wide"] (defScope sSh1) := ⟨rfl, rfl, rfl, by decide +kernel, rfl, by decide +kernel, by decide +kernel⟩
def spSh1 : Sp := fun vs H Q _ => ∃ (d g c : Addr) (high wide : Nat), vs = [.ref d, .int high, .int wide] ∧ Dr H d g c ∧ 1 ≤ high ∧ high ≤ 60 ∧ 1 ≤ wide ∧ wide ≤ 120 ∧
  ∀ (p : Addr) (rs : List (List Nat)) (H' : Hp), PicR high wide rs → Dot rs → H' p = some (.tup (rs.map rv)) → Dr H' d g c → Dn d g H H' → Q (.ref p) H'
abbrev sNe1 : Stmt := topS 43
theorem scNe1 : FnScope ["draw", "rows", "r", "c", "row", "found"] ["draw", "rows"] (defScope sNe1) := ⟨rfl, rfl, rfl, by decide +kernel, rfl, by decide +kernel, by decide +kernel⟩
def spNe1 : Sp := fun vs H Q _ => ∃ (d g c a : Addr) (high wide : Nat) (rs : List (List Nat)), vs = [.ref d, .ref a] ∧ Dr H d g c ∧ H a = some (.tup (rs.map rv)) ∧ PicR high wide rs ∧ Dot rs ∧
  ∀ (p : Addr) (rs' : List (List Nat)) (H' : Hp), PicR high wide rs' → Dot rs' → H' p = some (.tup (rs'.map rv)) → Dr H' d g c → Dn d g H H' → Q (.ref p) H'
abbrev sSs1 : Stmt := topS 44
abbrev nSs1 : List Str := ["draw", "high", "most", "widest", "found", "k", "rows", "sign", "past", "other"]
theorem scSs1 : FnScope nSs1 ["draw", "high", "most", "widest"] (defScope sSs1) := ⟨rfl, rfl, rfl, by decide +kernel, rfl, by decide +kernel, by decide +kernel⟩
def spSs1 : Sp := fun vs H Q _ => ∃ (d g c : Addr) (high most wide : Nat), vs = [.ref d, .int high, .int most, .int wide] ∧ Dr H d g c ∧ 1 ≤ high ∧ high ≤ 60 ∧ 1 ≤ most ∧ most ≤ 20 ∧ 1 ≤ wide ∧ wide ≤ 60 ∧
  ∀ (l : Addr) (xs : List V) (ss : List Sh) (H' : Hp), H l = none → H' l = some (.lst xs) → Shs H' xs ss → Goods high wide ss → 0 < ss.length → ss.length ≤ most → Dr H' d g c → Dn d g H H' → Q (.ref l) H'
theorem Dn.tup {d g c p : Addr} {H H' : Hp} {xs : List V} (s : Dn d g H H') (D : Dr H d g c) (h : H p = some (.tup xs)) : H' p = some (.tup xs) := by
  obtain ⟨⟨_, _, hd⟩, ⟨gs, hg, _⟩, _, _⟩ := D
  exact s _ _ h (ne_of h hd (by intro z; cases z)) (ne_of h hg (by intro z; cases z))
/-- a row of a picture put in another's place -/
theorem PicR.put {high wide r : Nat} {rs : List (List Nat)} {m : List Nat} (pr : PicR high wide rs) (hr : r < high) (hm : RowR wide m) : PicR high wide ((rs.take r ++ [m]) ++ rs.drop (r + 1)) := by
  refine ⟨?_, fun l hl => ?_, pr.h0, pr.h1, pr.w0, pr.w1⟩
  · rw [List.length_append, List.length_append, List.length_take, List.length_drop, pr.len, List.length_singleton]
    omega
  · rcases List.mem_append.mp hl with z | z
    · rcases List.mem_append.mp z with z | z
      · exact pr.row l (List.mem_of_mem_take z)
      · rw [List.mem_singleton.mp z]
        exact hm
    · exact pr.row l (List.mem_of_mem_drop z)
theorem RowR.put {wide c x : Nat} {l : List Nat} (h : RowR wide l) (hc : c < wide) (hx : x = 35 ∨ x = 46) : RowR wide ((l.take c ++ [x]) ++ l.drop (c + 1)) := by
  refine ⟨?_, fun y hy => ?_⟩
  · rw [List.length_append, List.length_append, List.length_take, List.length_drop, h.len, List.length_singleton]
    omega
  · rcases List.mem_append.mp hy with z | z
    · rcases List.mem_append.mp z with z | z
      · exact h.sg y (List.mem_of_mem_take z)
      · rw [List.mem_singleton.mp z]
        exact hx
    · exact h.sg y (List.mem_of_mem_drop z)
section
variable {P : Program} {w : World} {K : PySem.W.Frag} {mg : Str → Option Value} {base : Heap}
theorem ok_sh1 {f fP : Addr} {fd fdP : FuncData} {k : Nat} (F : Fun K "_law_shape" "_law_shape" sSh1 f fd) (GP : FnOk P w K mg base CX0 (k + 1) fP fdP ["draw", "high", "wide"] spPic) (mP : mg "_law_picture" = some (.ref fP)) (kP : PySem.W.keepIn K (.ref fP) = true) (bP : Binds K fdP ["draw", "high", "wide"] []) : FnOk P w K mg base CX0 (k + 2) f fd ["draw", "high", "wide"] spSh1 := by
  refine F.ok scSh1 (fun vs H Q E h => ?_) (fun cdv A outer s H vs Q E hr h => ?_)
  · obtain ⟨d, g, c, high, wide, rfl, _⟩ := h
    rfl
  · obtain ⟨d, g, c, high, wide, rfl, D, h0, h1, w0, w1, q⟩ := h
    have nd := scSh1.nd
    refine ⟨_, pss_cons (ps_set (i := 3) nd rfl (.inl rfl) (pe_call GP hr (by rfl) mP kP bP .nil pass0 (pa_cons (pv 0) (pa_cons (pv 1) (pa_cons (pv 2) pa_nil)))))
      (pss_cons (ps_if (pt_cmpR op_notIn_sign pe_str (pe_joinK (K := K) rfl pe_str (pv 3)) (by with_unfolding_all rfl))
        (pss_one (ps_set (i := 3) nd rfl (.inl rfl) (pe_op op_catA (pe_tup (pa_cons (pe_op op_add_str pe_str (pe_slice sl_str (pe_ix (r := rIxT K) ix_tup (pv 3) pe_int (fun _ _ => rfl)) (po_some pe_int) po_none)) pa_nil)) (pe_slice sl_tupA (pv 3) (po_some pe_int) po_none)))) pss_nil)
      (pss_one (ps_ret (pv 3)))), ?_⟩
    refine ⟨.ref d, rfl, .int high, rfl, .int wide, rfl, d, g, c, high, wide, rfl, D, h0, h1, w0, w1, fun p rs H1 pr np hp D1 dn1 => ?_⟩
    refine ⟨⟨"", rfl⟩, .ref p, rfl, "", p, rs.map S, rfl, rfl, .inr (SqT.of (by rw [map_rv]; exact hp)), join_len pr.rows h1 w1, ?_⟩
    rw [join_flat]
    refine ⟨35, S rs.flatten, congrArg V.str s_hash, rfl, _, rfl, ?_⟩
    cases e : decide (35 ∈ (S rs.flatten).cps.toList) with
    | true => exact iteF ⟨.ref p, rfl, q p rs H1 pr (dot_mem e) hp D1 dn1⟩
    | false =>
      have hl := pr.len
      obtain ⟨r0, rest, rfl⟩ : ∃ r0 rest, rs = r0 :: rest := by
        cases rs with
        | nil => exact absurd hl (by intro z; simp at z; omega)
        | cons a b => exact ⟨a, b, rfl⟩
      have rr := pr.row r0 List.mem_cons_self
      have lr := rr.len
      refine iteT ⟨.ref p, rfl, p, _, 0, rv r0, rfl, rfl, SqT.of hp, atI_nat (j := 0) rfl, 1, rfl, S r0, rfl, (by rw [SX.S_len]; exact Nat.le_of_lt (small1000 (by omega))), ?_⟩
      have ec : cutS (S r0) (some 1) none = S (r0.drop 1) := cutS_from r0 1
      rw [ec]
      refine ⟨"#", S (r0.drop 1), rfl, rfl, ?_, by show 1 ≤ sizeLine; decide, fun t ht => ?_⟩
      · rw [s_hash, SX.S_len, SX.S_len, List.length_drop]
        exact Nat.le_of_lt (small1000 (by simp; omega))
      rw [s_hash, SX.S_cat] at *
      have st := same_upd (o := .tup [V.str (S ([35] ++ r0.drop 1))]) ht
      refine ⟨.ref p, rfl, 1, rfl, ?_⟩
      dsimp only [tNoPart]
      refine sl_any (st _ _ hp) fun z H2 s2 hz => cat_any (s2 _ _ upd_same) hz ?_ fun z2 H3 s3 hz2 => ⟨.ref z2, rfl, ?_⟩
      · have e1 : cutV (rv r0 :: rest.map rv) (some 1) none = rest.map rv := cutV_from (rv r0 :: rest.map rv) 1
        show [V.str (S ([35] ++ r0.drop 1))].length + (cutV (rv r0 :: rest.map rv) (some 1) none).length ≤ sizeLine
        rw [e1, List.length_map]
        simp at hl
        exact Nat.le_of_lt (small1000 (by simp; omega))
      have e1 : cutV (rv r0 :: rest.map rv) (some 1) none = rest.map rv := cutV_from (rv r0 :: rest.map rv) 1
      have hz3 : H3 z2 = some (.tup (([35] ++ r0.drop 1) :: rest |>.map rv)) := by
        rw [hz2]
        show some (HO.tup ([V.str (S ([35] ++ r0.drop 1))] ++ cutV (rv r0 :: rest.map rv) (some 1) none)) = _
        rw [e1]
        rfl
      have sAll := (st.trans s2).trans s3
      refine q z2 (([35] ++ r0.drop 1) :: rest) H3 ⟨hl, fun l hl' => ?_, h0, h1, w0, w1⟩ ⟨_, List.mem_cons_self, by simp⟩ hz3 (D1.same sAll) (dn1.trans (Dn.same sAll))
      rcases List.mem_cons.mp hl' with z' | z'
      · rw [z']
        refine ⟨by simp; omega, fun y hy => ?_⟩
        rcases List.mem_append.mp hy with u | u
        · exact .inl (List.mem_singleton.mp u)
        · exact rr.sg y (List.mem_of_mem_drop u)
      · exact pr.row l (List.mem_cons_of_mem _ z')
theorem ok_ne1 {f fN : Addr} {fd fdN : FuncData} {k : Nat} (F : Fun K "_law_near" "_law_near" sNe1 f fd) (T : Tx mg) (GN : FnOk P w K mg base CX0 (k + 1) fN fdN ["draw", "below"] spNext) (mN : mg "_law_next" = some (.ref fN)) (kN : PySem.W.keepIn K (.ref fN) = true) (bN : Binds K fdN ["draw", "below"] []) : FnOk P w K mg base CX0 (k + 2) f fd ["draw", "rows"] spNe1 := by
  refine F.ok scNe1 (fun vs H Q E h => ?_) (fun cdv A outer s H vs Q E hr h => ?_)
  · obtain ⟨d, g, c, a, high, wide, rs, rfl, _⟩ := h
    rfl
  · obtain ⟨d, g, c, a, high, wide, rs, rfl, D, ha, pr, dot, q⟩ := h
    have nd := scNe1.nd
    refine ⟨_, pss_cons (ps_par (i := 2) (j := 3) (by rfl) nd rfl rfl (by decide) rfl rfl (pa_cons (pe_call GN hr (by rfl) mN kN bN .nil pass0 (pa_cons (pv 0) (pa_cons (pe_callB call_len_seq (by rfl) T.len PySem.boot_len (pa_cons (pv 1) pa_nil)) pa_nil))) (pa_cons (pe_call GN hr (by rfl) mN kN bN .nil pass0 (pa_cons (pv 0) (pa_cons (pe_callB call_len_str (by rfl) T.len PySem.boot_len (pa_cons (pe_ix (r := rIxT K) ix_tup (pv 1) pe_int (fun _ _ => rfl)) pa_nil)) pa_nil))) pa_nil)) (by rfl))
      (pss_cons (ps_set (i := 4) nd rfl (.inl rfl) (pe_op op_add_str (pe_op op_add_str (pe_slice sl_str (pe_ix (r := rIxT K) ix_tup (pv 1) (pv 2) (fun _ _ => rfl)) po_none (po_some (pv 3)))
          (pe_ix ix_list (pe_lst (pa_cons pe_str (pa_cons pe_str pa_nil))) (pe_callTy call_int1 (by rfl) T.int (by decide +kernel) (pa_cons (pe_cmpR op_eq (pe_ix ix_str (pe_ix (r := rIxT K) ix_tup (pv 1) (pv 2) (fun _ _ => rfl)) (pv 3) (fun _ _ => rfl)) pe_str (nomark _)) pa_nil)) (fun _ _ => rfl)))
          (pe_slice sl_str (pe_ix (r := rIxT K) ix_tup (pv 1) (pv 2) (fun _ _ => rfl)) (po_some (pe_op op_add (pv 3) pe_int)) po_none)))
      (pss_cons (ps_set (i := 5) nd rfl (.inl rfl) (pe_op op_catA (pe_op op_catA (pe_slice sl_tupA (pv 1) po_none (po_some (pv 2))) (pe_tup (pa_cons (pv 4) pa_nil))) (pe_slice sl_tupA (pv 1) (po_some (pe_op op_add (pv 2) pe_int)) po_none)))
      (pss_one (ps_ret (pe_ifExp (pt_cmpR op_in_sign pe_str (pe_joinK (K := K) rfl pe_str (pv 5)) (by with_unfolding_all rfl)) (pv 5) (pv 1)))))), ?_⟩
    have h0 := pr.h0
    have h1 := pr.h1
    have w0 := pr.w0
    have w1 := pr.w1
    have hl := pr.len
    have e0 : rs[0]? = some (rs[0]'(by omega)) := List.getElem?_eq_getElem (by omega)
    have len0 := (pr.row _ (List.mem_of_getElem? e0)).len
    refine ⟨.ref d, rfl, .ref a, rfl, a, _, rfl, .inr (SqT.of ha), d, g, c, _, rfl, D, ?_, ?_, fun r H1 r0 r1 D1 dn1 => ?_⟩
    · rw [List.length_map, hl]
      omega
    · rw [List.length_map, hl]
      omega
    rw [List.length_map, hl] at r1
    obtain ⟨r, rfl⟩ := Int.eq_ofNat_of_zero_le r0
    have ha1 := dn1.tup D ha
    refine ⟨.ref d, rfl, .ref a, rfl, a, _, 0, rv (rs[0]'(by omega)), rfl, rfl, SqT.of ha1, atI_nat (j := 0) (by rw [List.getElem?_map, e0]; rfl), S (rs[0]'(by omega)), rfl, ?_, d, g, c, _, rfl, D1, ?_, ?_, fun cc H2 c0 c1 D2 dn2 => ?_⟩
    · rw [SX.S_len, len0]
      exact Nat.le_of_lt (small1000 (by omega))
    · rw [SX.S_len, len0]
      omega
    · rw [SX.S_len, len0]
      omega
    rw [SX.S_len, len0] at c1
    obtain ⟨cc, rfl⟩ := Int.eq_ofNat_of_zero_le c0
    have hr1 : r < rs.length := by omega
    have e1 : rs[r]? = some rs[r] := List.getElem?_eq_getElem hr1
    generalize rs[r] = l at e1
    have rl := pr.row l (List.mem_of_getElem? e1)
    have hc1 : cc < l.length := by rw [rl.len]; omega
    have e2 : l[cc]? = some l[cc] := List.getElem?_eq_getElem hc1
    generalize l[cc] = x at e2
    have ha2 := dn2.tup D1 ha1
    have i1 : atI (rs.map rv) (r : Int) = some (rv l) := atI_nat (by rw [List.getElem?_map, e1]; rfl)
    have lsz : (S l).length ≤ sizeLine := by
      rw [SX.S_len, rl.len]
      exact Nat.le_of_lt (small1000 (by omega))
    refine ⟨_, _, rfl, .ref a, rfl, .int r, rfl, a, _, r, rv l, rfl, rfl, SqT.of ha2, i1, .int cc, rfl, cc, rfl, S l, rfl, lsz, ?_⟩
    rw [cutS_to]
    refine ⟨by show 2 ≤ sizeLine; decide, fun p0 hp0 => ?_⟩
    have sp0 := same_upd (o := .lst [V.str "#", V.str "."]) hp0
    have i2 : atI (S l).cps.toList (cc : Int) = some x := by
      have e : (S l).cps.toList = l := by simp [S]
      rw [e]
      exact atI_nat e2
    refine ⟨.ref a, rfl, .int r, rfl, a, _, r, rv l, rfl, rfl, SqT.of (sp0 _ _ ha2), i1, .int cc, rfl, S l, cc, x, rfl, rfl, lsz, i2, rfl, .inr ⟨_, rfl, ?_⟩⟩
    obtain ⟨y, hy, hat⟩ : ∃ y : Nat, (y = 35 ∨ y = 46) ∧ atI [V.str "#", V.str "."] (if decide (V.str ⟨#[x]⟩ = V.str "#") = true then 1 else 0) = some (V.str (S [y])) := by
      cases decide (V.str ⟨#[x]⟩ = V.str "#") with
      | true => exact ⟨46, .inr rfl, by rw [← s_dot]; rfl⟩
      | false => exact ⟨35, .inl rfl, by rw [← s_hash]; rfl⟩
    refine ⟨p0, _, _, V.str (S [y]), rfl, rfl, SqL.of upd_same, hat, S (l.take cc), S [y], rfl, rfl, ?_, ?_⟩
    · rw [SX.S_len, SX.S_len, List.length_take]
      exact Nat.le_of_lt (small1000 (by simp; omega))
    rw [SX.S_cat]
    refine ⟨.ref a, rfl, .int r, rfl, a, _, r, rv l, rfl, rfl, SqT.of (sp0 _ _ ha2), i1, .int cc, rfl, cc, 1, rfl, rfl, _, rfl, S l, rfl, lsz, ?_⟩
    have ec : (cc : Int) + 1 = ((cc + 1 : Nat) : Int) := by omega
    rw [ec, cutS_from]
    have rrow := rl.put (c := cc) (x := y) (by omega) hy
    refine ⟨S (l.take cc ++ [y]), S (l.drop (cc + 1)), rfl, rfl, ?_, ?_⟩
    · have := rrow.len
      rw [List.length_append] at this
      rw [SX.S_len, SX.S_len, this]
      exact Nat.le_of_lt (small1000 (by omega))
    rw [SX.S_cat]
    generalize (l.take cc ++ [y]) ++ l.drop (cc + 1) = m at rrow
    refine ⟨.ref a, rfl, .int r, rfl, r, rfl, sl_any (sp0 _ _ ha2) fun z1 H3 s3 hz1 => ⟨.str (S m), rfl, by show 1 ≤ sizeLine; decide, fun t1 ht1 => ?_⟩⟩
    rw [cutV_to, ← List.map_take] at hz1
    have s4 := same_upd (o := .tup [V.str (S m)]) ht1
    refine cat_any (s4 _ _ hz1) upd_same ?_ fun z2 H4 s5 hz2 => ?_
    · rw [List.length_map, List.length_take]
      exact Nat.le_of_lt (small1000 (by simp; omega))
    have s35 := (s3.trans s4).trans s5
    have er : (r : Int) + 1 = ((r + 1 : Nat) : Int) := by omega
    refine ⟨.ref a, rfl, .int r, rfl, r, 1, rfl, rfl, _, rfl, ?_⟩
    rw [er]
    dsimp only [tNoPart]
    refine sl_any (s35 _ _ (sp0 _ _ ha2)) fun z3 H5 s6 hz3 => ?_
    rw [cutV_from, ← List.map_drop] at hz3
    refine cat_any (s6 _ _ hz2) hz3 ?_ fun z4 H6 s7 hz4 => ?_
    · rw [List.length_append, List.length_map, List.length_map, List.length_take, List.length_drop]
      exact Nat.le_of_lt (small1000 (by simp; omega))
    have prm := pr.put (r := r) (m := m) (by omega) rrow
    have hz4' : H6 z4 = some (.tup (((rs.take r ++ [m]) ++ rs.drop (r + 1)).map rv)) := by
      rw [hz4, List.map_append, List.map_append]
      rfl
    generalize (rs.take r ++ [m]) ++ rs.drop (r + 1) = rs' at prm hz4'
    have sAll := (s35.trans s6).trans s7
    have D6 := (D2.same sp0).same sAll
    have dn6 : Dn d g H H6 := (dn1.trans dn2).trans (Dn.same (sp0.trans sAll))
    refine ⟨⟨"", rfl⟩, .ref z4, rfl, "", z4, rs'.map S, rfl, rfl, .inr (SqT.of (by rw [map_rv]; exact hz4')), join_len prm.rows h1 w1, ?_⟩
    rw [join_flat]
    refine ⟨35, S rs'.flatten, congrArg V.str s_hash, rfl, _, rfl, ?_⟩
    cases e : decide (35 ∈ (S rs'.flatten).cps.toList) with
    | true => exact iteT ⟨.ref z4, rfl, q z4 rs' H6 prm (dot_mem e) hz4' D6 dn6⟩
    | false => exact iteF ⟨.ref a, rfl, q a rs H6 pr dot (sAll _ _ (sp0 _ _ ha2)) D6 dn6⟩
end
end Dt
namespace Dt
open PySem PySem.Spec PyProof.Rows L2 L2X
open SX (S)
/-! ### what a def promises, in one -/
/-- a def of the text as it stands behind the top -/
structure Df (K : PySem.W.Frag) (mg : Str → Option Value) (nm : Str) (st : Stmt) (ps : List Str) : Prop where
  ex : ∃ f fd, Fun K nm nm st f fd ∧ mg nm = some (.ref f) ∧ Binds K fd ps []
/-- .. with its promise -/
structure Pm (P : Program) (w : World) (K : PySem.W.Frag) (mg : Str → Option Value) (base : Heap) (CX : CXT) (k : Nat) (nm : Str) (ps : List Str) (sp : Sp) : Prop where
  ex : ∃ f fd, FnOk P w K mg base CX k f fd ps sp ∧ mg nm = some (.ref f) ∧ PySem.W.keepIn K (.ref f) = true ∧ Binds K fd ps []
theorem Pm.of {P : Program} {w : World} {K : PySem.W.Frag} {mg : Str → Option Value} {base : Heap} {CX : CXT} {k : Nat} {nm : Str} {st : Stmt} {ps : List Str} {sp : Sp} (d : Df K mg nm st ps) (h : ∀ f fd, Fun K nm nm st f fd → FnOk P w K mg base CX k f fd ps sp) : Pm P w K mg base CX k nm ps sp := by
  obtain ⟨f, fd, F, m, b⟩ := d.ex
  exact ⟨f, fd, h f fd F, m, F.kp, b⟩
/-- and no sign is q -/
structure GoodsQ (high wide : Nat) (ss : List Sh) : Prop extends Goods high wide ss where
  nq : ∀ s ∈ ss, s.sg ≠ 113
theorem GoodsQ.add {high wide : Nat} {ss : List Sh} {s : Sh} (h : GoodsQ high wide ss) (g : Good high wide s) (nw : s.rs ∉ ss.map (·.rs)) (n : s.sg ≠ 113) : GoodsQ high wide (ss ++ [s]) := ⟨h.toGoods.add g nw, fun x hx => by
  rcases List.mem_append.mp hx with z | z
  · exact h.nq x z
  · rw [List.mem_singleton.mp z]
    exact n⟩
def spSs1Q : Sp := fun vs H Q _ => ∃ (d g c : Addr) (high most wide : Nat), vs = [.ref d, .int high, .int most, .int wide] ∧ Dr H d g c ∧ 1 ≤ high ∧ high ≤ 60 ∧ 1 ≤ most ∧ most ≤ 20 ∧ 1 ≤ wide ∧ wide ≤ 60 ∧
  ∀ (l : Addr) (xs : List V) (ss : List Sh) (H' : Hp), H l = none → H' l = some (.lst xs) → Shs H' xs ss → GoodsQ high wide ss → 0 < ss.length → ss.length ≤ most → Dr H' d g c → Dn d g H H' → Q (.ref l) H'
def FdI (l : Addr) (high wide : Nat) (H : Hp) (ss : List Sh) : Prop := ∃ xs, H l = some (.lst xs) ∧ Shs H xs ss ∧ GoodsQ high wide ss
theorem FdI.dn {d g c l : Addr} {high wide : Nat} {H H' : Hp} {ss : List Sh} (h : FdI l high wide H ss) (D : Dr H d g c) (nl : l ≠ d) (ng : l ≠ g) (s : Dn d g H H') : FdI l high wide H' ss :=
  let ⟨xs, h1, h2, h3⟩ := h; ⟨xs, s _ _ h1 nl ng, h2.dn D s, h3⟩
theorem FdI.same {l : Addr} {high wide : Nat} {H H' : Hp} {ss : List Sh} (h : FdI l high wide H ss) (s : Same H H') : FdI l high wide H' ss :=
  let ⟨xs, h1, h2, h3⟩ := h; ⟨xs, s _ _ h1, h2.same s, h3⟩
theorem signs_ok : ("abcdefgh!?~.#-0A" : Str).length = 16 ∧ ∀ c ∈ ("abcdefgh!?~.#-0A" : Str).cps.toList, 33 ≤ c ∧ c ≤ 126 ∧ c ≠ 113 := by decide +kernel
theorem Dr.upd {d g c p : Addr} {H : Hp} {o : HO} (D : Dr H d g c) (nd : p ≠ d) (ng : p ≠ g) (nc : p ≠ c) : Dr (upd H p o) d g c := by
  obtain ⟨⟨r, t', e1⟩, ⟨gs, e2, e3⟩, ⟨ks, e4, e5⟩, e6⟩ := D
  exact ⟨⟨r, t', by rw [upd_ne nd.symm]; exact e1⟩, ⟨gs, by rw [upd_ne ng.symm]; exact e2, e3⟩, ⟨ks, by rw [upd_ne nc.symm]; exact e4, e5⟩, e6⟩
theorem Dr.newc {d g c p : Addr} {H : Hp} (D : Dr H d g c) (hn : H p = none) : p ≠ c := by
  obtain ⟨_, _, ⟨ks, e4, _⟩, _⟩ := D
  exact fun z => by (rw [z, e4] at hn; cases hn)
theorem Dn.updn {d g p : Addr} {H H' : Hp} {o : HO} (a : Dn d g H H') (h : H p = none) : Dn d g H (upd H' p o) := fun b u e n m => by
  rw [upd_ne (ne_of_none e h)]
  exact a _ _ e n m
section
variable {P : Program} {w : World} {K : PySem.W.Frag} {mg : Str → Option Value} {base : Heap}
theorem ok_ss1 {f : Addr} {fd : FuncData} {k : Nat} (F : Fun K "_law_shapes" "_law_shapes" sSs1 f fd) (T : Tx mg) (GN : Pm P w K mg base CX0 (k + 3) "_law_next" ["draw", "below"] spNext) (GK : Pm P w K mg base CX0 (k + 3) "_law_pick" ["draw", "some"] (spPick K))
    (GP : Pm P w K mg base CX0 (k + 3) "_law_shape" ["draw", "high", "wide"] spSh1) (GR : Pm P w K mg base CX0 (k + 3) "_law_near" ["draw", "rows"] spNe1) : FnOk P w K mg base CX0 (k + 4) f fd ["draw", "high", "most", "widest"] spSs1Q := by
  obtain ⟨fN, fdN, GN, mN, kN, bN⟩ := GN.ex
  obtain ⟨fK, fdK, GK, mK, kK, bK⟩ := GK.ex
  obtain ⟨fP, fdP, GP, mP, kP, bP⟩ := GP.ex
  obtain ⟨fR, fdR, GR, mR, kR, bR⟩ := GR.ex
  refine F.ok scSs1 (fun vs H Q E h => ?_) (fun cdv A outer s H vs Q E hr h => ?_)
  · obtain ⟨d, g, c, high, most, wide, rfl, _⟩ := h
    rfl
  · obtain ⟨d, g, c, high, most, wide, rfl, D, h0, h1, m0, m1, w0, w1, q⟩ := h
    have nd := scSs1.nd
    have hu64 := hr.units
    have hu65 : (A.deeper (envOfC "_law_shapes" (defScope sSs1) s.heap.objs.size f cdv)).units + 65 < cLine := by
      have := hr.un
      omega
    refine ⟨_, pss_cons (ps_set (i := 4) nd rfl (.inl rfl) (pe_lst pa_nil))
      (pss_cons (ps_for PassesOwn.never rfl (pi_range1 rfl T.range (pa_cons (pe_op op_add pe_int (pe_call GN hr (by rfl) mN kN bN .nil pass0 (pa_cons (pv 0) (pa_cons (pv 2) pa_nil)))) pa_nil)) (pg_name (i := 5) nd rfl (.inl rfl))
        (C8.pss_cut (ps_set (i := 6) nd rfl (.inl rfl) (pe_call GP hr (by rfl) mP kP bP .nil pass0 (pa_cons (pv 0) (pa_cons (pv 1) (pa_cons (pe_op op_add pe_int (pe_call GN hr (by rfl) mN kN bN .nil pass0 (pa_cons (pv 0) (pa_cons (pv 3) pa_nil)))) pa_nil)))))
        (C8.pss_cut (ps_if (PW.pt (pw_and (pt_cmpR (op_neD hu64) (pv 4) (pe_lst pa_nil) (nomark _)) (pw_and1 (pt_cmpR op_eq (pe_call GN hr (by rfl) mN kN bN .nil pass0 (pa_cons (pv 0) (pa_cons pe_int pa_nil))) pe_int (nomark _)))))
            (pss_one (ps_set (i := 6) nd rfl (.inl rfl) (pe_call GR hr (by rfl) mR kR bR .nil pass0 (pa_cons (pv 0) (pa_cons (pe_ix (r := rIxT K) ix_tup (pe_call GK hr (by rfl) mK kK bK .nil pass0 (pa_cons (pv 0) (pa_cons (pv 4) pa_nil))) pe_int (fun _ _ => rfl)) pa_nil))))) pss_nil)
        (C8.pss_cut (ps_set (i := 7) nd rfl (.inl rfl) (pe_ix ix_str pe_str (pe_call GN hr (by rfl) mN kN bN .nil pass0 (pa_cons (pv 0) (pa_cons pe_int pa_nil))) (fun _ _ => rfl)))
        (pss_one (ps_if (pt_cmpR (op_notInD hu65) (pv 6) (pe_lc (own := [("past", 8), ("other", 9)]) (g := gTup K 2 (gCons (gName 8) (gCons (gName 9) gNil))) (tt := tYes) rfl nd (pi_list (pv 4)) (blkOk_by (N := nSs1) (sc := defScope sSs1) (by decide +kernel))
              (fun _ _ _ _ _ => pg_tup rfl (pgs_cons (pg_name (i := 8) nd rfl (Or.inl rfl)) (pgs_cons (pg_name (i := 9) nd rfl (Or.inl rfl)) pgs_nil))) (fun _ _ _ _ _ => pts_nil) (fun _ _ _ _ _ => pv 9)) (by with_unfolding_all rfl))
            (pss_one (ps_expr (pe_bm PySem.F.plainAttrs_list PySem.F.slot_list_append PySem.F.type_list_append mt_append (pv 4) (pa_cons (pe_tup (pa_cons (pv 7) (pa_cons (pv 6) pa_nil))) pa_nil)))) pss_nil))))))
      (pss_one (ps_ret (pv 4)))), ?_⟩
    refine ⟨by show 0 ≤ sizeLine; decide, fun l hl => ?_⟩
    have sl := same_upd (o := .lst []) hl
    obtain ⟨nld, nlg⟩ := D.new hl
    have nlc := D.newc hl
    have Dl := D.same sl
    have F1 : FdI l high wide (upd H l (.lst [])) [] := ⟨[], upd_same, Shs.nil, ⟨Goods.nil, fun s h => nomatch h⟩⟩
    refine ⟨.ref d, rfl, .int most, rfl, d, g, c, most, rfl, Dl, by omega, by omega, fun m H4 mm0 mm1 D4 dn4 => ⟨1, m, rfl, rfl, _, rfl, by omega, by omega, ?_⟩⟩
    obtain ⟨t, rfl⟩ := Int.eq_ofNat_of_zero_le mm0
    have et : (1 + (t : Int)) = ((1 + t : Nat) : Int) := by omega
    rw [et]
    refine for_range (lo := 0) (n := 1 + t) (fun i σ H5 => ∃ (y5 y6 y7 : Option V) (ss : List Sh), σ = [some (.ref d), some (.int high), some (.int most), some (.int wide), some (.ref l), y5, y6, y7, none, none] ∧ FdI l high wide H5 ss ∧ ss.length ≤ i ∧ (0 < i → 0 < ss.length) ∧ Dr H5 d g c ∧ Dn d g H H5)
      ⟨none, none, none, [], rfl, F1.dn Dl nld nlg dn4, Nat.le_refl _, fun z => absurd z (Nat.lt_irrefl _), D4, (Dn.same sl).trans dn4⟩ ?_ ?_
    · rintro i σ H5 hi ⟨y5, y6, y7, ss, rfl, F5, sl5, sp5, D5, dn5⟩
      generalize (V.int (0 + (i : Int))) = tv
      refine ⟨fun σ' H' => ∃ (p : Addr) (w1 : Nat) (rs : List (List Nat)), σ' = [some (.ref d), some (.int high), some (.int most), some (.int wide), some (.ref l), some tv, some (.ref p), y7, none, none] ∧ PicR high w1 rs ∧ w1 ≤ wide ∧ Dot rs ∧ H' p = some (.tup (rs.map rv)) ∧ FdI l high wide H' ss ∧ Dr H' d g c ∧ Dn d g H H', ?_, ?_⟩
      · refine ⟨.ref d, rfl, .int high, rfl, .ref d, rfl, .int wide, rfl, d, g, c, wide, rfl, D5, by omega, by omega, fun a H6 a0 a1 D6 dn6 => ⟨1, a, rfl, rfl, ?_⟩⟩
        obtain ⟨a, rfl⟩ := Int.eq_ofNat_of_zero_le a0
        have ea : (1 + (a : Int)) = ((1 + a : Nat) : Int) := by omega
        refine ⟨d, g, c, high, 1 + a, congrArg (fun z => [V.ref d, V.int high, V.int z]) ea, D6, h0, h1, by omega, by omega, fun p rs H7 pr dot hp D7 dn7 => ?_⟩
        exact ⟨p, 1 + a, rs, rfl, pr, by omega, dot, hp, F5.dn D5 nld nlg (dn6.trans dn7), D7, dn5.trans (dn6.trans dn7)⟩
      rintro _ H6 ⟨p, w1', rs, rfl, pr, hw, dot, hp, F6, D6, dn6⟩
      refine ⟨fun σ' H' => ∃ (p : Addr) (w1 : Nat) (rs : List (List Nat)), σ' = [some (.ref d), some (.int high), some (.int most), some (.int wide), some (.ref l), some tv, some (.ref p), y7, none, none] ∧ PicR high w1 rs ∧ w1 ≤ wide ∧ Dot rs ∧ H' p = some (.tup (rs.map rv)) ∧ FdI l high wide H' ss ∧ Dr H' d g c ∧ Dn d g H H', ?_, ?_⟩
      · obtain ⟨xs, hxs, S6, G6⟩ := id F6
        refine ⟨.ref l, rfl, by show 0 ≤ sizeLine; decide, fun e0 he0 => ⟨.list (ss.map sD), .list [], .lst (SqL.of (same_upd he0 _ _ hxs)) (dp_shs (S6.same (same_upd he0))), .lst (SqL.of upd_same) .nil, shaped_shs G6.all, by decide +kernel, _, rfl, ?_⟩⟩
        have sE := same_upd (o := .lst []) he0
        by_cases e : ss = []
        · exact iteE (neD_nil e) (iteF ⟨p, w1', rs, rfl, pr, hw, dot, sE _ _ hp, F6.same sE, D6.same sE, dn6.trans (Dn.same sE)⟩)
        · have hpos : 0 < xs.length := by
            rw [S6.len]
            exact List.length_pos_iff.mpr e
          have lx : xs.length ≤ 1000 := by
            rw [S6.len]
            omega
          have DE := D6.same sE
          refine iteY (neD_ne e) ⟨.ref d, rfl, d, g, c, 3, rfl, DE, by decide, by decide, fun way H7 wa0 wa1 D7 dn7 => ⟨rfl, _, rfl, ?_⟩⟩
          have F7 := (F6.same sE).dn DE nld nlg dn7
          have hp7 := dn7.tup DE (sE _ _ hp)
          have dn67 := (dn6.trans (Dn.same sE)).trans dn7
          cases decide (V.int way = V.int 0) with
          | false => exact iteF ⟨p, w1', rs, rfl, pr, hw, dot, hp7, F7, D7, dn67⟩
          | true =>
            obtain ⟨xs7, hx7, S7, G7⟩ := id F7
            refine iteT ⟨.ref d, rfl, .ref d, rfl, .ref l, rfl, d, g, c, l, xs7, rfl, D7, hx7, nlg, by rw [S7.len, ← S6.len]; exact hpos, by rw [S7.len, ← S6.len]; exact lx, fun j y H8 hy D8 dn8 => ?_⟩
            have hj : j < ss.length := by
              rw [← S7.len]
              exact (List.getElem?_eq_some_iff.mp hy).1
            have S8 := S7.dn D7 dn8
            obtain ⟨t2, p2, rfl, ht2, hp2⟩ := S8.at_ j y ss[j] hy (List.getElem?_eq_getElem hj)
            have g2 := G7.all ss[j] (List.getElem_mem hj)
            refine ⟨t2, _, 1, .ref p2, rfl, rfl, SqT.of ht2, rfl, d, g, c, p2, high, ss[j].w, ss[j].rs, rfl, D8, hp2, g2.pic, g2.dot, fun p3 rs3 H9 pr3 dot3 hp3 D9 dn9 => ?_⟩
            exact ⟨p3, ss[j].w, rs3, rfl, pr3, g2.w8, dot3, hp3, F7.dn D7 nld nlg (dn8.trans dn9), D9, dn67.trans (dn8.trans dn9)⟩
      rintro _ H7 ⟨p, w1, rs, rfl, pr, hw, dot, hp, F7, D7, dn7⟩
      refine ⟨fun σ' H' => ∃ sg : Nat, σ' = [some (.ref d), some (.int high), some (.int most), some (.int wide), some (.ref l), some tv, some (.ref p), some (ch sg), none, none] ∧ 33 ≤ sg ∧ sg ≤ 126 ∧ sg ≠ 113 ∧ H' p = some (.tup (rs.map rv)) ∧ FdI l high wide H' ss ∧ Dr H' d g c ∧ Dn d g H H', ?_, ?_⟩
      · refine ⟨.ref d, rfl, d, g, c, 16, rfl, D7, by decide, by decide, fun m H8 mm0 mm1 D8 dn8 => ?_⟩
        obtain ⟨m, rfl⟩ := Int.eq_ofNat_of_zero_le mm0
        obtain ⟨z1, z2⟩ := signs_ok
        have hj : m < ("abcdefgh!?~.#-0A" : Str).cps.toList.length := by
          have : ("abcdefgh!?~.#-0A" : Str).cps.toList.length = 16 := z1
          omega
        have hx : ("abcdefgh!?~.#-0A" : Str).cps.toList[m]? = some ("abcdefgh!?~.#-0A" : Str).cps.toList[m] := List.getElem?_eq_getElem hj
        have hcc := z2 _ (List.mem_of_getElem? hx)
        exact ⟨_, _, _, rfl, rfl, (by rw [z1]; decide), atI_nat hx, _, rfl, hcc.1, hcc.2.1, hcc.2.2, dn8.tup D7 hp, F7.dn D7 nld nlg dn8, D8, dn7.trans dn8⟩
      rintro _ H8 ⟨sg, rfl, sg0, sg1, sgq, hp8, F8, D8, dn8⟩
      obtain ⟨xs, hxs, S8, G8⟩ := id F8
      refine ⟨.ref p, rfl, .ref l, rfl, l, rfl, ⟨_, SqL.of hxs⟩, fun Dd hDd => lc_list (K := K) (a := l) (xs := xs) (fun j H9 => Same H8 H9 ∧ ∃ zs, H9 Dd = some (.lst zs) ∧ Pcs H9 zs (ss.take j)) ⟨same_upd hDd, [], upd_same, ⟨rfl, fun i z s h => nomatch h⟩⟩ (fun j H9 _ z => SqL.of (z.1 _ _ hxs)) ?_ ?_⟩
      · rintro j x H9 hj ⟨sm, zs, hz, pc⟩
        have hj' : j < ss.length := by
          rw [← S8.len]
          exact (List.getElem?_eq_some_iff.mp hj).1
        have es : ss[j]? = some ss[j] := List.getElem?_eq_getElem hj'
        generalize ss[j] = s2' at es
        obtain ⟨t2, p2, rfl, ht2, hp2⟩ := S8.at_ j x s2' hj es
        have nD : p2 ≠ Dd := ne_of (sm _ _ hp2) hz (by intro z; cases z)
        refine ⟨t2, _, rfl, SqT.of (sm _ _ ht2), rfl, _, _, rfl, _, _, rfl, rfl, rfl, .ref p2, rfl, zs, hz, ?_, same_over sm hDd, _, upd_same, ?_⟩
        · rw [pc.len, List.length_take]
          exact small1000 (by omega)
        · rw [take_snoc es]
          exact (pc.updl hz).add (by rw [upd_ne nD]; exact sm _ _ hp2)
      · rintro H9 ⟨sm, zs, hz, pc⟩
        rw [S8.len, List.take_length] at pc
        refine ⟨.tuple (rs.map rD), ss.map pDs, .tup (SqT.of (sm _ _ hp8)) (dp_rows _), .lst (SqL.of hz) (dp_pcs pc), shaped_rows pr.rows, shaped_pics G8.all, _, rfl, ?_⟩
        rw [any_pics]
        by_cases e2 : rs ∈ ss.map (·.rs)
        · rw [decide_eq_true e2]
          refine iteF ⟨_, _, _, ss, rfl, F8.same sm, by omega, fun _ => ?_, D8.same sm, dn8.trans (Dn.same sm)⟩
          cases ss with
          | nil => exact absurd e2 (by simp)
          | cons _ _ => exact Nat.zero_lt_succ _
        · rw [decide_eq_false e2]
          have D9 := D8.same sm
          refine iteT ⟨.ref l, rfl, .inl ⟨rfl, _, SqL.of (sm _ _ hxs)⟩, ch sg, rfl, .ref p, rfl, by show 2 ≤ sizeLine; decide, fun T' hT => ?_⟩
          have sT := same_upd (o := .tup [ch sg, V.ref p]) hT
          have hx9 := sm _ _ hxs
          have hp9 := sm _ _ hp8
          have nlT : T' ≠ l := (ne_of_none hx9 hT).symm
          have npl : p ≠ l := ne_of hp9 hx9 (by intro z; cases z)
          refine ⟨l, xs, .ref T', rfl, rfl, sT _ _ hx9, ?_, _, _, _, ss ++ [⟨sg, w1, rs⟩], rfl, ⟨_, upd_same, (((S8.same sm).same sT).updl (sT _ _ hx9)).add ⟨T', p, rfl, ?_, ?_⟩, G8.add (s := ⟨sg, w1, rs⟩) ⟨pr, hw, sg0, sg1, dot⟩ e2 sgq⟩, ?_, ?_, ?_, ?_⟩
          · rw [S8.len]
            exact small1000 (by omega)
          · rw [upd_ne nlT]
            exact upd_same
          · rw [upd_ne npl]
            exact sT _ _ hp9
          · rw [List.length_append, List.length_singleton]
            omega
          · intro _
            rw [List.length_append, List.length_singleton]
            omega
          · exact (D9.same sT).upd nld nlg nlc
          · exact ((dn8.trans (Dn.same sm)).trans (Dn.same sT)).updn hl
    · rintro σ H5 ⟨y5, y6, y7, ss, rfl, F5, sl5, sp5, D5, dn5⟩
      obtain ⟨xs, hxs, S5, G5⟩ := id F5
      exact ⟨.ref l, rfl, q l xs ss _ hl hxs S5 G5 (sp5 (by omega)) (by omega) D5 dn5⟩
end
end Dt
namespace L2X
open PySem PySem.Spec PyProof.Rows L2
theorem op_eqDK {X : Cx} {K : PySem.W.Frag} (hK : X.K = K) (hu : X.A.units + 64 < cLine) : OpR X (compareOp .Eq) (rEqD K) := by
  subst hK
  exact op_eqD hu
end L2X
namespace Dt
open PySem PySem.Spec PyProof.Rows L2 L2X
open SX (S)
theorem passX0 {X : Cx} : Passes (L2.CX X.prog X.w) X E0 := fun _ _ _ _ _ _ _ h => by
  obtain ⟨_, _, _, _, _, _, _, _, _, _, _, _, z⟩ := h
  exact z.elim
/-! ### an alphabet as it stands, made of what is right -/
theorem ahs : ¬ (("_high" : Str) = "_shapes") := by decide +kernel
def aF (h : Int) (t : Addr) : List (Str × V) := putF "_shapes" (.ref t) (putF "_high" (.int h) [])
theorem aF_eq (h : Int) (t : Addr) : aF h t = ([("_high", V.int h), ("_shapes", V.ref t)] : List (Str × V)) := by
  show (if ("_high" : Str) = "_shapes" then [(("_high" : Str), V.ref t)] else (("_high" : Str), V.int h) :: putF "_shapes" (V.ref t) []) = ([("_high", V.int h), ("_shapes", V.ref t)] : List (Str × V))
  rw [if_neg ahs]
  all_goals rfl
theorem aF_high (h : Int) (t : Addr) : (aF h t).lookup ("_high" : Str) = some (.int h) := by
  unfold aF
  rw [lookup_putF, if_neg ahs, lookup_putF, if_pos rfl]
theorem aF_shapes (h : Int) (t : Addr) : (aF h t).lookup ("_shapes" : Str) = some (.ref t) := by
  unfold aF
  rw [lookup_putF, if_pos rfl]
theorem aF_no (h : Int) (t : Addr) {m : Str} (h1 : ¬ m = "_shapes") (h2 : ¬ m = "_high") : (aF h t).lookup m = none := by
  unfold aF
  rw [lookup_putF, if_neg h1, lookup_putF, if_neg h2]
  rfl
def AlpAt (C : Addr) (H : Hp) (o : Addr) (high : Nat) (ss : List Sh) : Prop := ∃ dx t xs, H o = some (.ins C dx (aF high t)) ∧ H t = some (.tup xs) ∧ Shs H xs ss
theorem AlpAt.same {C : Addr} {H H' : Hp} {o : Addr} {high : Nat} {ss : List Sh} (h : AlpAt C H o high ss) (s : Same H H') : AlpAt C H' o high ss :=
  let ⟨dx, t, xs, h1, h2, h3⟩ := h; ⟨dx, t, xs, s _ _ h1, s _ _ h2, h3.same s⟩
/-- what is asked of the class -/
structure Tal (K : PySem.W.Frag) (mg : Str → Option Value) (C : Addr) : Prop where
  cl : Cls K C
  nH : NoAttr K C "_high"
  nS : NoAttr K C "_shapes"
  mC : mg "Alphabet" = some (.ref C)
/-- a method with its promise -/
structure Mm (P : Program) (w : World) (K : PySem.W.Frag) (mg : Str → Option Value) (base : Heap) (k : Nat) (C : Addr) (m : Str) (ps : List Str) (sp : Sp) : Prop where
  ex : ∃ f fd, FnOk P w K mg base CX0 k f fd ps sp ∧ Meth K C m f ∧ Binds K fd ps []
abbrev cAl : Stmt := topS 33
abbrev sSg : Stmt := topS 34
theorem scSg : FnScope ["thing"] ["thing"] (defScope sSg) := ⟨rfl, rfl, rfl, by decide +kernel, rfl, by decide +kernel, by decide +kernel⟩
def spSg : Sp := fun vs H Q _ => ∃ c, vs = [ch c] ∧ 33 ≤ c ∧ c ≤ 126 ∧ Q (.bl true) H
abbrev sIS : Stmt := topS 35
theorem scIS : FnScope ["thing", "high", "rows", "columns"] ["thing", "high"] (defScope sIS) := ⟨rfl, rfl, rfl, by decide +kernel, rfl, by decide +kernel, by decide +kernel⟩
def spIS : Sp := fun vs H Q _ => ∃ (x : V) (high : Nat) (s : Sh), vs = [x, .int high] ∧ ShAt H x s ∧ Good high 8 s ∧ ∀ H', Same H H' → Q (.bl true) H'
abbrev sIPO : Stmt := topS 36
theorem scIPO : FnScope ["picture", "shapes", "shape"] ["picture", "shapes"] (defScope sIPO) := ⟨rfl, rfl, rfl, by decide +kernel, rfl, by decide +kernel, by decide +kernel⟩
def spIPO : Sp := fun vs H Q _ => ∃ (a l : Addr) (high wide w2 : Nat) (rs : List (List Nat)) (xs : List V) (ss : List Sh), vs = [.ref a, .ref l] ∧ H a = some (.tup (rs.map rv)) ∧ RowsR high wide rs ∧ H l = some (.lst xs) ∧ Shs H xs ss ∧ (∀ s ∈ ss, Good high w2 s) ∧ ss.length ≤ 100 ∧ ∀ H', Same H H' → Q (.bl (decide (rs ∈ ss.map (·.rs)))) H'
theorem lt1 (a b : Nat) : decide ([a] < [b]) = decide (a < b) := by
  apply Bool.eq_iff_iff.mpr
  rw [decide_eq_true_iff, decide_eq_true_iff]
  exact List.cons_lt_cons_iff.trans (by simp)
theorem rowDots_ne {r : Nat} {l : List Nat} (h : 35 ∈ l) : rowDots r l ≠ [] := by
  obtain ⟨j, hj⟩ := List.mem_iff_getElem?.mp h
  intro e
  have hm : (35, j) ∈ l.zipIdx := List.mk_mem_zipIdx_iff_getElem?.mpr hj
  have : (r, j) ∈ rowDots r l := List.mem_map.mpr ⟨(35, j), List.mem_filter.mpr ⟨hm, by simp⟩, rfl⟩
  rw [e] at this
  cases this
theorem dotsP_pos {rs : List (List Nat)} (h : ∃ l ∈ rs, 35 ∈ l) : 0 < (dotsP rs).length := by
  obtain ⟨l, hl, hd⟩ := h
  obtain ⟨i, hi⟩ := List.mem_iff_getElem?.mp hl
  refine List.length_pos_iff.mpr fun e => ?_
  have hm : (l, i) ∈ rs.zipIdx := List.mk_mem_zipIdx_iff_getElem?.mpr hi
  unfold dotsP at e
  have := List.flatten_eq_nil_iff.mp e (rowDots i l) (List.mem_map.mpr ⟨(l, i), hm, rfl⟩)
  exact rowDots_ne hd this
section
variable {P : Program} {w : World} {K : PySem.W.Frag} {mg : Str → Option Value} {base : Heap} {C CA : Addr}
theorem ok_sg {f : Addr} {fd : FuncData} {k : Nat} (F : Fun K "is_sign" "is_sign" sSg f fd) (T : Tx mg) (GT : Pm P w K mg base CX0 (k + 1) "is_text" ["thing"] (spIsText K)) : FnOk P w K mg base CX0 (k + 2) f fd ["thing"] spSg := by
  obtain ⟨fT, fdT, GT, mT, kT, bT⟩ := GT.ex
  refine F.ok scSg (fun vs H Q E h => ?_) (fun cdv A outer s H vs Q E hr h => ?_)
  · obtain ⟨c, rfl, _⟩ := h
    rfl
  · obtain ⟨c, rfl, c0, c1, q⟩ := h
    refine ⟨_, pss_one (ps_ret (pe_and (pe_call GT hr (by rfl) mT kT bT .nil pass0 (pa_cons (pv 0) pa_nil)) (pe_and (pe_cmpR op_eq (pe_callB call_len_str (by rfl) T.len PySem.boot_len (pa_cons (pv 0) pa_nil)) pe_int (nomark _)) (pe_one (pe_chain op_le_str op_le_str pe_str (pv 0) pe_str))))), ?_⟩
    refine ⟨ch c, rfl, ch c, rfl, kn_str2 (by show 1 ≤ sizeLine; decide), _, rfl, iteT ⟨ch c, rfl, ⟨#[c]⟩, rfl, (by show 1 ≤ sizeLine; decide), rfl, _, rfl, iteT ?_⟩⟩
    have e1 : ("!" : Str) = S [33] := by decide +kernel
    have e2 : ("~" : Str) = S [126] := by decide +kernel
    refine ⟨ch c, rfl, "!", ⟨#[c]⟩, rfl, rfl, _, rfl, ?_⟩
    have t1 : (!decide ((⟨#[c]⟩ : Str).cps.toList < ("!" : Str).cps.toList)) = true := by
      rw [e1]
      show (!decide ([c] < [33])) = true
      rw [lt1, decide_eq_false (by omega)]
      rfl
    have t2 : (!decide (("~" : Str).cps.toList < (⟨#[c]⟩ : Str).cps.toList)) = true := by
      rw [e2]
      show (!decide ([126] < [c])) = true
      rw [lt1, decide_eq_false (by omega)]
      rfl
    refine iteY t1 ⟨⟨#[c]⟩, "~", rfl, rfl, ?_⟩
    rw [t2]
    exact q
theorem ok_is {f : Addr} {fd : FuncData} {k : Nat} (F : Fun K "_is_shape" "_is_shape" sIS f fd) (T : Tx mg) (mw : ∃ t, mg "MOST_WIDE" = some (.int 8 t)) (GU : Pm P w K mg base CX0 (k + 1) "is_tuple" ["thing", "many"] (spIsTup K)) (GG : Pm P w K mg base CX0 (k + 1) "is_sign" ["thing"] spSg)
    (GI : Pm P w K mg base CX0 (k + 1) "is_picture" ["thing"] (spIsPic K)) (GZ : GS P w K mg base C (k + 1)) (GD : Pm P w K mg base (L2.CX P w) (k + 1) "dots" ["picture"] (spDots K)) : FnOk P w K mg base CX0 (k + 2) f fd ["thing", "high"] spIS := by
  obtain ⟨fU, fdU, GU, mU, kU, bU⟩ := GU.ex
  obtain ⟨fG, fdG, GG, mG, kG, bG⟩ := GG.ex
  obtain ⟨fI, fdI, GI, mI, kI, bI⟩ := GI.ex
  obtain ⟨fZ, fdZ, GZ, mZ, kZ, bZ⟩ := GZ.ex
  obtain ⟨fD, fdD, GD, mD, kD, bD⟩ := GD.ex
  obtain ⟨tw, hmw⟩ := mw
  refine F.ok scIS (fun vs H Q E h => ?_) (fun cdv A outer s H vs Q E hr h => ?_)
  · obtain ⟨x, high, s, rfl, _⟩ := h
    rfl
  · obtain ⟨x, high, sh, rfl, ha, g, q⟩ := h
    have nd := scIS.nd
    refine ⟨_, pss_cons (ps_if (PW.pt (pw_or (pt_not (pt_val (pe_call GU hr (by rfl) mU kU bU .nil pass0 (pa_cons (pv 0) (pa_cons pe_int pa_nil))))) (pw_or (pt_not (pt_val (pe_call GG hr (by rfl) mG kG bG .nil pass0 (pa_cons (pe_ix (r := rIxT K) ix_tup (pv 0) pe_int (fun _ _ => rfl)) pa_nil)))) (pw_or1 (pt_not (pt_val (pe_call GI hr (by rfl) mI kI bI .nil pass0 (pa_cons (pe_ix (r := rIxT K) ix_tup (pv 0) pe_int (fun _ _ => rfl)) pa_nil))))))))
        (pss_one (ps_ret pe_bl)) pss_nil)
      (pss_cons (ps_asg (pe_call GZ hr (by rfl) mZ kZ bZ .nil passX0 (pa_cons (pe_ix (r := rIxT K) ix_tup (pv 0) pe_int (fun _ _ => rfl)) pa_nil)) (pg_tup rfl (pgs_cons (pg_name (i := 2) nd rfl (Or.inl rfl)) (pgs_cons (pg_name (i := 3) nd rfl (Or.inl rfl)) pgs_nil))))
      (pss_one (ps_ret (pe_and (pe_cmpR op_eq (pv 2) (pv 1) (nomark _)) (pe_and (pe_cmpR op_le (pv 3) (pe_glob (v := .int 8) (by rfl) hmw ⟨_, rfl⟩) (nomark _)) (pe_one (pe_cmpR op_gt (pe_callB call_len_seq (by rfl) T.len PySem.boot_len (pa_cons (pe_call GD hr (by rfl) mD kD bD .nil passX0 (pa_cons (pe_ix (r := rIxT K) ix_tup (pv 0) pe_int (fun _ _ => rfl)) pa_nil)) pa_nil)) pe_int (nomark _)))))))), ?_⟩
    obtain ⟨t, p, rfl, ht, hp⟩ := id ha
    refine ⟨.ref t, rfl, .ref t, 2, rfl, .inr ⟨t, _, rfl, SqT.of ht, _, rfl, iteF ?_⟩⟩
    refine ⟨.ref t, rfl, t, _, 0, ch sh.sg, rfl, rfl, SqT.of ht, rfl, sh.sg, rfl, g.s0, g.s1, _, rfl, iteF ?_⟩
    refine ⟨.ref t, rfl, t, _, 1, .ref p, rfl, rfl, SqT.of ht, rfl, .ref p, true, rfl, askPic g.pic hp, fun H1 s1 => ⟨_, rfl, iteF ?_⟩⟩
    have pz := picSize g.pic
    refine ⟨.ref t, rfl, t, _, 1, .ref p, rfl, rfl, SqT.of (s1 _ _ ht), rfl, .ref p, rfl, .inr ⟨p, _, rfl, SqT.of (s1 _ _ hp), kn_rows g.pic, picOk_pic g.pic, fun p3 H3 s3 n3 h3 => ?_⟩⟩
    rw [pz.1, pz.2] at h3
    have s13 := s1.trans s3
    refine ⟨p3, _, rfl, SqT.of h3, rfl, _, _, rfl, _, _, rfl, rfl, .int high, rfl, .int high, rfl, rfl, _, rfl, ?_⟩
    rw [decide_eq_true rfl]
    refine iteT ⟨.int sh.w, rfl, sh.w, 8, rfl, rfl, _, rfl, iteY (decide_eq_true (by have := g.w8; omega)) ?_⟩
    refine ⟨.ref t, rfl, t, _, 1, .ref p, rfl, rfl, SqT.of (s13 _ _ ht), rfl, p, high, sh.w, sh.rs, rfl, s13 _ _ hp, g.pic, fun D xs H4 s4 nD hD pl lx => ?_⟩
    have l0 : 0 < xs.length := by
      rw [pl.len]
      exact dotsP_pos g.dot
    refine ⟨D, xs, rfl, .inl (SqL.of hD), (xs.length : Int), 0, rfl, rfl, ?_⟩
    have e : (decide ((0 : Int) < (xs.length : Int))) = true := decide_eq_true (by omega)
    show Q (.bl (decide ((0 : Int) < (xs.length : Int)))) H4
    rw [e]
    exact q H4 (s13.trans s4)
theorem ok_ipo {f : Addr} {fd : FuncData} {k : Nat} (F : Fun K "_is_picture_of" "_is_picture_of" sIPO f fd) (an : mg "any" = none) : FnOk P w K mg base CX0 (k + 1) f fd ["picture", "shapes"] spIPO := by
  refine F.ok scIPO (fun vs H Q E h => ?_) (fun cdv A outer s H vs Q E hr h => ?_)
  · obtain ⟨a, l, _, _, _, _, _, _, rfl, _⟩ := h
    rfl
  · obtain ⟨a, l, high, wide, w2, rs, xs, ss, rfl, ha, R, hl, Ss, Gs, ls, q⟩ := h
    have nd := scIPO.nd
    refine ⟨_, pss_one (ps_ret (pe_callB (cr_any rfl) (by rfl) an (by decide +kernel) (pa_cons (pe_lc (own := [("shape", 2)]) (g := gName 2) (tt := tYes) rfl nd (pi_list (pv 1)) (blkOk_by (N := ["picture", "shapes", "shape"]) (sc := defScope sIPO) (by decide +kernel)) (fun _ _ _ _ _ => pg_name (i := 2) nd rfl (Or.inl rfl)) (fun _ _ _ _ _ => pts_nil)
        (fun _ _ _ _ _ => pe_cmpR (op_eqDK (K := K) rfl hr.units) (pv 0) (pe_ix (r := rIxT K) ix_tup (pv 2) pe_int (fun _ _ => rfl)) (nomark _))) pa_nil))), ?_⟩
    refine ⟨.ref l, rfl, l, rfl, ⟨_, SqL.of hl⟩, fun D hD => lc_list (K := K) (a := l) (xs := xs) (fun j H2 => Same H H2 ∧ H2 D = some (.lst (((ss.take j).map fun s => decide (rs = s.rs)).map V.bl))) ⟨same_upd hD, upd_same⟩ (fun j H2 _ z => SqL.of (z.1 _ _ hl)) ?_ ?_⟩
    · rintro j x H2 hj ⟨sm, h2⟩
      have hj' : j < ss.length := by
        rw [← Ss.len]
        exact (List.getElem?_eq_some_iff.mp hj).1
      have es : ss[j]? = some ss[j] := List.getElem?_eq_getElem hj'
      generalize ss[j] = s2 at es
      obtain ⟨t2, p2, rfl, ht2, hp2⟩ := Ss.at_ j x s2 hj es
      have g2 := Gs s2 (List.mem_of_getElem? es)
      refine ⟨rfl, .ref a, rfl, .ref t2, rfl, t2, _, 1, .ref p2, rfl, rfl, SqT.of (sm _ _ ht2), rfl, .tuple (rs.map rD), .tuple (s2.rs.map rD), .tup (SqT.of (sm _ _ ha)) (dp_rows _), .tup (SqT.of (sm _ _ hp2)) (dp_rows _), shaped_rows R, shaped_rows g2.pic.rows, ?_⟩
      rw [eqv_pics]
      refine ⟨_, h2, ?_, same_over sm hD, ?_⟩
      · rw [List.length_map, List.length_map, List.length_take]
        exact small1000 (by omega)
      · rw [upd_same, take_snoc es, List.map_append, List.map_append]
        rfl
    · rintro H2 ⟨sm, h2⟩
      rw [Ss.len, List.take_length] at h2
      refine ⟨D, _, rfl, SqL.of h2, ?_⟩
      have e : ((ss.map fun s => decide (rs = s.rs)).any id) = decide (rs ∈ ss.map (·.rs)) := by
        apply Bool.eq_iff_iff.mpr
        rw [decide_eq_true_iff, List.any_eq_true]
        constructor
        · rintro ⟨b, hb, e⟩
          obtain ⟨s, hs, rfl⟩ := List.mem_map.mp hb
          have : rs = s.rs := of_decide_eq_true e
          exact List.mem_map.mpr ⟨s, hs, this.symm⟩
        · intro h
          obtain ⟨s, hs, e⟩ := List.mem_map.mp h
          exact ⟨_, List.mem_map.mpr ⟨s, hs, rfl⟩, decide_eq_true e.symm⟩
      rw [e]
      exact q H2 sm
end
end Dt
namespace L2X
open PySem PySem.Spec PyProof.Rows L2
theorem for_enumG {K : PySem.W.Frag} {A : Src} {xs : List V} {g : TG} {tb : TS} {D : Ends} {σ : L2.St} {H : Hp} (Pv : Nat → L2.St → Hp → Prop) (h0 : Pv 0 σ H) (hl : ∀ i σ H, i ≤ xs.length → Pv i σ H → A.has K H xs)
    (hs : ∀ i x σ H T, xs[i]? = some x → Pv i σ H → H T = none → g (.ref T) σ (upd H T (.tup [.int (i : Nat), x])) fun σ2 H2 => tb { D with nx := Pv (i + 1), ct := Pv (i + 1), bk := D.nx } σ2 H2) (hd : ∀ σ H, Pv xs.length σ H → D.nx σ H) :
    ∃ W : Nat → Nat → L2.St → Hp → Prop, (∃ m, W 0 m σ H) ∧ ∀ i m σ H, W i m σ H →
      ((IteG K A).stop i H ∧ D.nx σ H) ∨ ((IteG K A).go i H ∧ ∃ N : L2.St → Hp → Prop, (∀ σ' H', N σ' H' → ∃ m', m' < m ∧ W (i + 1) m' σ' H') ∧ ∀ x H', (IteG K A).yld i H x H' → g x σ H' fun σ2 H2 => tb { D with nx := N, ct := N, bk := D.nx } σ2 H2) := by
  refine ⟨fun i m σ H => m = xs.length - i ∧ i ≤ xs.length ∧ Pv i σ H, ⟨xs.length, by simp, Nat.zero_le _, h0⟩, ?_⟩
  rintro i m σ H ⟨rfl, hi, p⟩
  have qx := hl i σ H hi p
  by_cases hlt : i < xs.length
  · have ex : xs[i]? = some xs[i] := List.getElem?_eq_getElem hlt
    refine .inr ⟨⟨xs, _, qx, ex⟩, Pv (i + 1), fun σ' H' p' => ⟨xs.length - (i + 1), by omega, rfl, hlt, p'⟩, fun x H' y => ?_⟩
    obtain ⟨T, u, rfl, nT, rfl, z1⟩ := y
    exact hs i u σ H T (z1 xs qx) p nT
  · have e : i = xs.length := by omega
    subst e
    exact .inl ⟨⟨xs, qx, rfl⟩, hd σ H p⟩
theorem for_zipG {K : PySem.W.Frag} {A B : Src} {xs ys : List V} {g : TG} {tb : TS} {D : Ends} {σ : L2.St} {H : Hp} (hn : xs.length = ys.length) (Pv : Nat → L2.St → Hp → Prop) (h0 : Pv 0 σ H) (hl : ∀ i σ H, i ≤ xs.length → Pv i σ H → A.has K H xs ∧ B.has K H ys)
    (hs : ∀ i x y σ H T, xs[i]? = some x → ys[i]? = some y → Pv i σ H → H T = none → g (.ref T) σ (upd H T (.tup [x, y])) fun σ2 H2 => tb { D with nx := Pv (i + 1), ct := Pv (i + 1), bk := D.nx } σ2 H2) (hd : ∀ σ H, Pv xs.length σ H → D.nx σ H) :
    ∃ W : Nat → Nat → L2.St → Hp → Prop, (∃ m, W 0 m σ H) ∧ ∀ i m σ H, W i m σ H →
      ((ItzG K A B).stop i H ∧ D.nx σ H) ∨ ((ItzG K A B).go i H ∧ ∃ N : L2.St → Hp → Prop, (∀ σ' H', N σ' H' → ∃ m', m' < m ∧ W (i + 1) m' σ' H') ∧ ∀ x H', (ItzG K A B).yld i H x H' → g x σ H' fun σ2 H2 => tb { D with nx := N, ct := N, bk := D.nx } σ2 H2) := by
  refine ⟨fun i m σ H => m = xs.length - i ∧ i ≤ xs.length ∧ Pv i σ H, ⟨xs.length, by simp, Nat.zero_le _, h0⟩, ?_⟩
  rintro i m σ H ⟨rfl, hi, p⟩
  obtain ⟨qx, qy⟩ := hl i σ H hi p
  by_cases hlt : i < xs.length
  · have hlt2 : i < ys.length := by omega
    have ex : xs[i]? = some xs[i] := List.getElem?_eq_getElem hlt
    have ey : ys[i]? = some ys[i] := List.getElem?_eq_getElem hlt2
    refine .inr ⟨⟨xs, ys, _, _, qx, qy, ex, ey⟩, Pv (i + 1), fun σ' H' p' => ⟨xs.length - (i + 1), by omega, rfl, hlt, p'⟩, fun x H' y => ?_⟩
    obtain ⟨T, u, v, rfl, nT, rfl, z1, z2⟩ := y
    exact hs i u v σ H T (z1 xs qx) (z2 ys qy) p nT
  · have e : i = xs.length := by omega
    subst e
    exact .inl ⟨⟨xs, ys, qx, qy, .inl ⟨rfl, by omega⟩⟩, hd σ H p⟩
end L2X
namespace Dt
open PySem PySem.Spec PyProof.Rows L2 L2X
open SX (S)
abbrev sAI : Stmt := inClass cAl 0
abbrev sAH : Stmt := inClass cAl 1
abbrev sAS : Stmt := inClass cAl 2
abbrev sAW : Stmt := inClass cAl 4
abbrev sAN : Stmt := inClass cAl 7
theorem scAI : FnScope ["self", "high", "shapes", "at", "shape"] ["self", "high", "shapes"] (defScope sAI) := ⟨rfl, rfl, rfl, by decide +kernel, rfl, by decide +kernel, by decide +kernel⟩
theorem scAH : FnScope ["self"] ["self"] (defScope sAH) := ⟨rfl, rfl, rfl, by decide +kernel, rfl, by decide +kernel, by decide +kernel⟩
theorem scAS : FnScope ["self"] ["self"] (defScope sAS) := ⟨rfl, rfl, rfl, by decide +kernel, rfl, by decide +kernel, by decide +kernel⟩
theorem scAW : FnScope ["self", "number"] ["self", "number"] (defScope sAW) := ⟨rfl, rfl, rfl, by decide +kernel, rfl, by decide +kernel, by decide +kernel⟩
theorem scAN : FnScope ["self", "number"] ["self", "number"] (defScope sAN) := ⟨rfl, rfl, rfl, by decide +kernel, rfl, by decide +kernel, by decide +kernel⟩
def spAI (C : Addr) : Sp := fun vs H Q _ => ∃ (p dx l : Addr) (high : Nat) (xs : List V) (ss : List Sh), vs = [.ref p, .int high, .ref l] ∧ H p = some (.ins C dx []) ∧ 1 ≤ high ∧ high ≤ 9 ∧ H l = some (.lst xs) ∧ Shs H xs ss ∧ Goods high 8 ss ∧ 0 < ss.length ∧ ss.length ≤ 16 ∧
  ∀ H', AlpAt C H' p high ss → (∀ b o, H b = some o → b ≠ p → H' b = some o) → Q .non H'
def spAH (C : Addr) : Sp := fun vs H Q _ => ∃ (o : Addr) (high : Nat) (ss : List Sh), vs = [.ref o] ∧ AlpAt C H o high ss ∧ Q (.int high) H
def spAS (C : Addr) : Sp := fun vs H Q _ => ∃ (o : Addr) (high : Nat) (ss : List Sh), vs = [.ref o] ∧ AlpAt C H o high ss ∧ ∀ (l : Addr) (xs : List V) (H' : Hp), Same H H' → H l = none → H' l = some (.lst xs) → Shs H' xs ss → Q (.ref l) H'
def spAN (C : Addr) : Sp := fun vs H Q _ => ∃ (o : Addr) (high i : Nat) (ss : List Sh), vs = [.ref o, .int i] ∧ AlpAt C H o high ss ∧ i < ss.length ∧ ∀ H', Same H H' → Q .non H'
def spAW (C : Addr) : Sp := fun vs H Q _ => ∃ (o : Addr) (high i : Nat) (ss : List Sh) (s : Sh), vs = [.ref o, .int i] ∧ AlpAt C H o high ss ∧ ss[i]? = some s ∧ PicR high s.w s.rs ∧ ∀ H', Same H H' → Q (.int s.w) H'
section
variable {P : Program} {w : World} {K : PySem.W.Frag} {mg : Str → Option Value} {base : Heap} {C CA : Addr}
theorem ok_ai {f : Addr} {fd : FuncData} {k : Nat} (F : Fun K "__init__" "Alphabet.__init__" sAI f fd) (T : Tx mg) (TA : Tal K mg CA) (en : mg "enumerate" = none) (mh : ∃ t, mg "MOST_HIGH" = some (.int 9 t)) (ms : ∃ t, mg "MOST_SHAPES" = some (.int 16 t))
    (GB : Pm P w K mg base CX0 (k + 1) "is_between" ["thing", "least", "most"] (spBetw K)) (GL : Pm P w K mg base CX0 (k + 1) "is_list" ["thing"] (spIsList K)) (GS : Pm P w K mg base CX0 (k + 1) "_is_shape" ["thing", "high"] spIS) (GO : Pm P w K mg base CX0 (k + 1) "_is_picture_of" ["picture", "shapes"] spIPO) :
    FnOk P w K mg base CX0 (k + 2) f fd ["self", "high", "shapes"] (spAI CA) := by
  obtain ⟨fB, fdB, GB, mB, kB, bB⟩ := GB.ex
  obtain ⟨fL, fdL, GL, mL, kL, bL⟩ := GL.ex
  obtain ⟨fS, fdS, GS, mS, kS, bS⟩ := GS.ex
  obtain ⟨fO, fdO, GO, mO, kO, bO⟩ := GO.ex
  obtain ⟨th, hmh⟩ := mh
  obtain ⟨ts, hms⟩ := ms
  refine F.ok scAI (fun vs H Q E h => ?_) (fun cdv A outer s H vs Q E hr h => ?_)
  · obtain ⟨p, dx, l, high, xs, ss, rfl, _⟩ := h
    rfl
  · obtain ⟨p, dx, l, high, xs, ss, rfl, hp, h0, h1, hl, Ss, Gs, l0, l1, q⟩ := h
    have nd := scAI.nd
    refine ⟨_, pss_cons (ps_if (pt_not (pt_val (pe_call GB hr (by rfl) mB kB bB .nil pass0 (pa_cons (pv 1) (pa_cons pe_int (pa_cons (pe_glob (v := .int 9) (by rfl) hmh ⟨_, rfl⟩) pa_nil)))))) pss_never pss_nil)
      (pss_cons (ps_if (PW.pt (pw_or (pt_not (pt_val (pe_call GL hr (by rfl) mL kL bL .nil pass0 (pa_cons (pv 2) pa_nil)))) (pw_or1 (pt_cmpR op_eq (pe_callB call_len_seq (by rfl) T.len PySem.boot_len (pa_cons (pv 2) pa_nil)) pe_int (nomark _))))) pss_never pss_nil)
      (pss_cons (ps_for PassesOwn.never rfl (pi_enumG (by rfl) en (pa_cons (pv 2) pa_nil)) (pg_tup rfl (pgs_cons (pg_name (i := 3) nd rfl (Or.inl rfl)) (pgs_cons (pg_name (i := 4) nd rfl (Or.inl rfl)) pgs_nil)))
        (pss_one (ps_if (PW.pt (pw_or (pt_cmpR op_eq (pv 3) (pe_glob (v := .int 16) (by rfl) hms ⟨_, rfl⟩) (nomark _)) (pw_or (pt_not (pt_val (pe_call GS hr (by rfl) mS kS bS .nil pass0 (pa_cons (pv 4) (pa_cons (pv 1) pa_nil))))) (pw_or1 (pt_val (pe_call GO hr (by rfl) mO kO bO .nil pass0 (pa_cons (pe_ix (r := rIxT K) ix_tup (pv 4) pe_int (fun _ _ => rfl)) (pa_cons (pe_slice sl_list (pv 2) po_none (po_some (pv 3))) pa_nil)))))))) pss_never pss_nil)))
      (pss_cons (ps_fld (pv 0) (pv 1) rfl)
      (pss_one (ps_fld (pv 0) (pe_callTy call_tuple_of (by rfl) T.tuple (by decide +kernel) (pa_cons (pv 2) pa_nil)) rfl))))), ?_⟩
    refine ⟨.int high, rfl, .int high, 1, 9, rfl, kt_int _, _, rfl, ?_⟩
    have eb : betw (.int high) 1 9 = true := by
      rw [betw_int, decide_eq_true (by omega), decide_eq_true (by omega)]
      rfl
    rw [eb]
    refine iteF ⟨.ref l, rfl, .ref l, "list", rfl, .lst (SqL.of hl), rfl, fun H1 s1 => ⟨_, rfl, iteF ?_⟩⟩
    have lx : xs.length = ss.length := Ss.len
    refine ⟨.ref l, rfl, l, xs, rfl, .inl (SqL.of (s1 _ _ hl)), rfl, _, rfl, ?_⟩
    have e0 : decide (V.int (xs.length : Int) = V.int 0) = false := decide_eq_false fun e => by
      have := V.int.inj e
      omega
    rw [e0]
    refine iteF ⟨.ref l, rfl, .lst l, xs, rfl, SqL.of (s1 _ _ hl), for_enumG (K := K) (A := .lst l) (xs := xs) (fun i σ H2 => ∃ y3 y4, σ = [some (.ref p), some (.int high), some (.ref l), y3, y4] ∧ Same H H2) ⟨none, none, rfl, s1⟩ (fun i σ H2 _ z => by
      obtain ⟨_, _, _, sm⟩ := z
      exact SqL.of (sm _ _ hl)) ?_ ?_⟩
    · rintro i x σ H2 T' hx ⟨y3, y4, rfl, sm⟩ hT
      have hi : i < ss.length := by
        rw [← lx]
        exact (List.getElem?_eq_some_iff.mp hx).1
      have es : ss[i]? = some ss[i] := List.getElem?_eq_getElem hi
      have gi := Gs.all ss[i] (List.getElem_mem hi)
      have sT := same_upd (o := .tup [V.int (i : Nat), x]) hT
      have s2 := sm.trans sT
      have shi := (Ss.same s2).at_ i x _ hx es
      refine ⟨T', _, rfl, SqT.of upd_same, rfl, _, _, rfl, _, _, rfl, rfl, ?_⟩
      refine ⟨.int i, rfl, rfl, _, rfl, ?_⟩
      have e16 : decide (V.int (i : Int) = V.int 16) = false := decide_eq_false fun e => by
        have := V.int.inj e
        omega
      rw [e16]
      refine iteF ⟨x, rfl, .int high, rfl, x, high, ss[i], rfl, shi, gi, fun H3 s3 => ⟨_, rfl, iteF ?_⟩⟩
      obtain ⟨t, p2, rfl, ht, hp2⟩ := shi
      have s23 := s2.trans s3
      refine ⟨.ref t, rfl, t, _, 1, .ref p2, rfl, rfl, SqT.of (s3 _ _ ht), rfl, .ref l, rfl, .int i, rfl, i, rfl, l, xs, rfl, SqL.of (s23 _ _ hl), fun l2 hl2 => ?_⟩
      have s4 := same_upd (o := .lst (cutV xs none (some (i : Int)))) hl2
      have ecut : cutV xs none (some (i : Int)) = xs.take i := by
        unfold cutV
        rw [HT.sIx_nat]
        show (xs.drop 0).take (min i xs.length - 0) = _
        rw [List.drop_zero, Nat.sub_zero, Nat.min_eq_left (by omega)]
      have s234 := s23.trans s4
      have hsub : Shs (upd H3 l2 (.lst (cutV xs none (some (i : Int))))) (xs.take i) (ss.take i) := by
        have S4 := Ss.same s234
        refine ⟨by rw [List.length_take, List.length_take, S4.len], fun j y s' hy hs => ?_⟩
        rw [List.getElem?_take] at hy hs
        split at hy
        · rename_i hlt
          rw [if_pos hlt] at hs
          exact S4.at_ j y s' hy hs
        · cases hy
      refine ⟨p2, l2, high, ss[i].w, 8, ss[i].rs, xs.take i, ss.take i, rfl, s4 _ _ (s3 _ _ hp2), gi.pic.rows, by rw [upd_same, ecut], hsub, fun s' hs => Gs.all s' (List.mem_of_mem_take hs), ?_, fun H5 s5 => ⟨_, rfl, ?_⟩⟩
      · rw [List.length_take]
        omega
      have e5 : decide (ss[i].rs ∈ (ss.take i).map (·.rs)) = false := by
        refine decide_eq_false fun hm => ?_
        have hnd := Gs.nd
        rw [List.map_take] at hm
        obtain ⟨j, hj⟩ := List.mem_iff_getElem?.mp hm
        rw [List.getElem?_take] at hj
        split at hj
        · rename_i hlt
          have hi2 : (ss.map (·.rs))[i]? = some ss[i].rs := by rw [List.getElem?_map, es]; rfl
          obtain ⟨q1, q2⟩ := List.getElem?_eq_some_iff.mp hj
          obtain ⟨q3, q4⟩ := List.getElem?_eq_some_iff.mp hi2
          have := (List.getElem_inj hnd).mp (q2.trans q4.symm)
          omega
        · cases hj
      rw [e5]
      exact iteF ⟨_, _, rfl, s234.trans s5⟩
    · rintro σ H2 ⟨y3, y4, rfl, sm⟩
      have hp2 := sm _ _ hp
      refine ⟨.int high, rfl, .ref p, rfl, p, CA, dx, [], rfl, hp2, TA.cl, TA.nH, (by show 0 < 1000; decide), ?_⟩
      have npl : l ≠ p := ne_of hl hp (by intro z; cases z)
      have hl2 : (upd H2 p (.ins CA dx (putF "_high" (.int high) []))) l = some (.lst xs) := by
        rw [upd_ne npl]
        exact sm _ _ hl
      refine ⟨.ref l, rfl, l, xs, rfl, .inl ⟨SqL.of hl2, fun z hz => ⟨.ref p, rfl, p, CA, dx, putF "_high" (.int high) [], rfl, ?_, TA.cl, TA.nS, (by show 1 < 1000; decide), ?_⟩⟩⟩
      · rw [upd_ne (ne_of_none upd_same hz)]
        exact upd_same
      have nzp : z ≠ p := (ne_of_none upd_same hz).symm
      refine q _ ⟨dx, z, xs, upd_same, by rw [upd_ne nzp]; exact upd_same, Ss.len, fun i x s' hx hs => ?_⟩ fun b o e hb => ?_
      · obtain ⟨t, p2, rfl, ht, hp2'⟩ := Ss.at_ i x s' hx hs
        have put : ∀ (b : Addr) (ys : List V), H b = some (.tup ys) → (upd (upd (upd H2 p (.ins CA dx (putF "_high" (.int high) []))) z (.tup xs)) p (.ins CA dx (aF high z))) b = some (.tup ys) := fun b ys hb => by
          have n1 : b ≠ p := ne_of hb hp (by intro z; cases z)
          have n2 : (upd H2 p (.ins CA dx (putF "_high" (.int high) []))) b = some (.tup ys) := by
            rw [upd_ne n1]
            exact sm _ _ hb
          rw [upd_ne n1, upd_ne (ne_of_none n2 hz)]
          exact n2
        exact ⟨t, p2, rfl, put _ _ ht, put _ _ hp2'⟩
      · have n2 : (upd H2 p (.ins CA dx (putF "_high" (.int high) []))) b = some o := by
          rw [upd_ne hb]
          exact sm _ _ e
        rw [upd_ne hb, upd_ne (ne_of_none n2 hz)]
        exact n2
theorem ok_ah {f : Addr} {fd : FuncData} {k : Nat} (F : Fun K "high" "Alphabet.high" sAH f fd) (TA : Tal K mg CA) : FnOk P w K mg base CX0 (k + 1) f fd ["self"] (spAH CA) := by
  refine F.ok scAH (fun vs H Q E h => ?_) (fun cdv A outer s H vs Q E hr h => ?_)
  · obtain ⟨o, high, ss, rfl, _⟩ := h
    rfl
  · obtain ⟨o, high, ss, rfl, ⟨dx, t, xs, ho, ht, Ss⟩, q⟩ := h
    refine ⟨_, pss_one (ps_ret (pe_fld (pv 0) rfl)), ?_⟩
    exact ⟨.ref o, rfl, o, CA, dx, _, .int high, rfl, ho, TA.cl, TA.nH, aF_high _ _, q⟩
theorem ok_as {f : Addr} {fd : FuncData} {k : Nat} (F : Fun K "shapes" "Alphabet.shapes" sAS f fd) (T : Tx mg) (TA : Tal K mg CA) : FnOk P w K mg base CX0 (k + 1) f fd ["self"] (spAS CA) := by
  refine F.ok scAS (fun vs H Q E h => ?_) (fun cdv A outer s H vs Q E hr h => ?_)
  · obtain ⟨o, high, ss, rfl, _⟩ := h
    rfl
  · obtain ⟨o, high, ss, rfl, ⟨dx, t, xs, ho, ht, Ss⟩, q⟩ := h
    refine ⟨_, pss_one (ps_ret (pe_callTy call_list_of (by rfl) T.list (by decide +kernel) (pa_cons (pe_fld (pv 0) rfl) pa_nil))), ?_⟩
    refine ⟨.ref o, rfl, o, CA, dx, _, .ref t, rfl, ho, TA.cl, TA.nS, aF_shapes _ _, t, xs, rfl, .inr (SqT.of ht), fun l hl => ?_⟩
    have sl := same_upd (o := .lst xs) hl
    exact q l xs _ sl hl upd_same (Ss.same sl)
theorem ok_an {f : Addr} {fd : FuncData} {k : Nat} (F : Fun K "_want_number" "Alphabet._want_number" sAN f fd) (T : Tx mg) (TA : Tal K mg CA) (GB : Pm P w K mg base CX0 (k + 1) "is_between" ["thing", "least", "most"] (spBetw K)) : FnOk P w K mg base CX0 (k + 2) f fd ["self", "number"] (spAN CA) := by
  obtain ⟨fB, fdB, GB, mB, kB, bB⟩ := GB.ex
  refine F.ok scAN (fun vs H Q E h => ?_) (fun cdv A outer s H vs Q E hr h => ?_)
  · obtain ⟨o, high, i, ss, rfl, _⟩ := h
    rfl
  · obtain ⟨o, high, i, ss, rfl, ⟨dx, t, xs, ho, ht, Ss⟩, hi, q⟩ := h
    refine ⟨_, pss_one (ps_if (pt_not (pt_val (pe_call GB hr (by rfl) mB kB bB .nil pass0 (pa_cons (pv 1) (pa_cons pe_int (pa_cons (pe_op op_sub (pe_callB call_len_seq (by rfl) T.len PySem.boot_len (pa_cons (pe_fld (pv 0) rfl) pa_nil)) pe_int) pa_nil)))))) pss_never pss_nil), ?_⟩
    have lx := Ss.len
    refine ⟨.int i, rfl, .ref o, rfl, o, CA, dx, _, .ref t, rfl, ho, TA.cl, TA.nS, aF_shapes _ _, t, xs, rfl, .inr (SqT.of ht), _, 1, rfl, rfl, .int i, 0, _, rfl, kt_int _, _, rfl, ?_⟩
    have eb : betw (.int i) 0 ((xs.length : Int) - 1) = true := by
      rw [betw_int, decide_eq_true (by omega), decide_eq_true (by omega)]
      rfl
    rw [eb]
    exact iteF (q H (Same.refl H))
theorem ok_aw {f : Addr} {fd : FuncData} {k : Nat} (F : Fun K "wide" "Alphabet.wide" sAW f fd) (TA : Tal K mg CA) (GZ : GS P w K mg base C (k + 1)) (GM : Mm P w K mg base (k + 1) CA "_want_number" ["self", "number"] (spAN CA)) : FnOk P w K mg base CX0 (k + 2) f fd ["self", "number"] (spAW CA) := by
  obtain ⟨fM, fdM, GM, mM, bM⟩ := GM.ex
  obtain ⟨fZ, fdZ, GZ, mZ, kZ, bZ⟩ := GZ.ex
  refine F.ok scAW (fun vs H Q E h => ?_) (fun cdv A outer s H vs Q E hr h => ?_)
  · obtain ⟨o, high, i, ss, s, rfl, _⟩ := h
    rfl
  · obtain ⟨o, high, i, ss, sh, rfl, al, hi, pr, q⟩ := h
    refine ⟨_, pss_cons (ps_expr (pe_meth (pv 0) TA.cl mM GM hr bM .nil pass0 (pa_cons (pv 1) pa_nil)))
      (pss_one (ps_ret (pe_ix (r := rIxT K) ix_tup (pe_call GZ hr (by rfl) mZ kZ bZ .nil passX0 (pa_cons (pe_ix (r := rIxT K) ix_tup (pe_ix (r := rIxT K) ix_tup (pe_fld (pv 0) rfl) (pv 1) (fun _ _ => rfl)) pe_int (fun _ _ => rfl)) pa_nil)) pe_int (fun _ _ => rfl)))), ?_⟩
    obtain ⟨dx, t, xs, ho, ht, Ss⟩ := id al
    have hlt := (List.getElem?_eq_some_iff.mp hi).1
    have lx := Ss.len
    refine ⟨.ref o, rfl, o, dx, _, rfl, ho, aF_no _ _ (by decide +kernel) (by decide +kernel), .int i, rfl, o, high, i, ss, rfl, al, hlt, fun H1 s1 => ?_⟩
    have ex : xs[i]? = some (xs[i]'(by omega)) := List.getElem?_eq_getElem (by omega)
    obtain ⟨t2, p2, e2, ht2, hp2⟩ := Ss.at_ i _ sh ex hi
    rw [e2] at ex
    refine ⟨.ref o, rfl, o, CA, dx, _, .ref t, rfl, s1 _ _ ho, TA.cl, TA.nS, aF_shapes _ _, .int i, rfl, t, xs, i, .ref t2, rfl, rfl, SqT.of (s1 _ _ ht), atI_nat ex, t2, _, 1, .ref p2, rfl, rfl, SqT.of (s1 _ _ ht2), rfl, .ref p2, rfl, .inr ⟨p2, _, rfl, SqT.of (s1 _ _ hp2), kn_rows pr, picOk_pic pr, fun p3 H3 s3 n3 h3 => ?_⟩⟩
    have pz := picSize pr
    rw [pz.1, pz.2] at h3
    exact ⟨p3, _, 1, .int sh.w, rfl, rfl, SqT.of h3, rfl, q H3 (s1.trans s3)⟩
end
end Dt
/-! sets of texts: set(texts), set comprehensions of texts, sorted of such a set -/
noncomputable section
namespace L2X
open PySem PySem.Spec PyProof.Rows L2
def tkey (e : Int × Value) : Str := match e.2 with | .str k _ => k | _ => ⟨#[]⟩
def TxE (w : World) (e : Int × Value) : Prop := ∃ k tk, e.2 = Value.str k tk ∧ e.1 = hashStr w k
/-- the set at a holds just the texts l; its table can be walked -/
def SetS (w : World) (h : Heap) (a : Addr) (l : List Str) : Prop :=
  ∃ o es ep t, h.get? a = some o ∧ o.ExactSet ∧ o.data = .set es ep t ∧ (∀ e ∈ es.toList, TxE w e) ∧ (es.toList.map tkey).Perm l ∧ l.Nodup ∧ es.size < scanBound ∧ t.fits es.size = true ∧ Ris t.place.toList ∧ (w.params.followText "set-order" = true ∨ t.led = true)
/-- a text put into a list of unlike ones -/
def insT (k : Str) (l : List Str) : List Str := if k ∈ l then l else k :: l
section
variable {P : Program} {w : World} {h h' : Heap} {a : Addr} {l : List Str}
theorem SetS.at (R : SetS w h a l) (k : ∀ o, h.get? a = some o → h'.get? a = some o) : SetS w h' a l := by
  obtain ⟨o, es, ep, t, ho, r⟩ := R
  exact ⟨o, es, ep, t, k o ho, r⟩
theorem tx_elems {es : List (Int × Value)} (g : ∀ e ∈ es, TxE w e) : ElemsOf (PySem.strKind P w) es := fun e he => by
  obtain ⟨k, tk, h1, h2⟩ := g e he
  exact ⟨⟨k, by rw [h1]; exact PySem.Froz.is_str k tk, h2⟩, by rw [h1]; rfl⟩
theorem tx_is {e : Int × Value} (g : TxE w e) (k : Str) : (PySem.strKind P w).is k e.2 = true ↔ tkey e = k := by
  obtain ⟨k0, tk, h1, _⟩ := g
  unfold tkey
  rw [h1]
  constructor
  · intro z
    obtain ⟨t, e⟩ := Value.isStrOf_shape (show Value.isStrOf k (.str k0 tk) = true from z)
    cases e
    rfl
  · intro z
    have z : k0 = k := z
    subst z
    exact PySem.Froz.is_str k0 tk
theorem insT_nd {k : Str} (d : l.Nodup) : (insT k l).Nodup := by
  unfold insT
  by_cases c : k ∈ l
  · rw [if_pos c]
    exact d
  · rw [if_neg c]
    exact List.nodup_cons.mpr ⟨c, d⟩
theorem insT_mem {k x : Str} : x ∈ insT k l ↔ x = k ∨ x ∈ l := by
  unfold insT
  by_cases c : k ∈ l
  · rw [if_pos c]
    exact ⟨.inr, fun z => z.elim (fun e => e ▸ c) id⟩
  · rw [if_neg c, List.mem_cons]
theorem insT_len {k : Str} : (insT k l).length ≤ l.length + 1 := by
  unfold insT
  by_cases c : k ∈ l
  · rw [if_pos c]
    omega
  · rw [if_neg c]
    exact Nat.le_refl _
theorem setS_new_at (ho : h.get? a = some { cls := .type "set", dict := none, data := .set #[] 0 (.fresh 0 0 (!w.params.followText "set-order")) }) : SetS w h a [] :=
  ⟨_, #[], 0, _, ho, ⟨rfl, rfl, rfl⟩, rfl, (fun e he => by simp at he), List.Perm.refl _, List.nodup_nil, (by decide), (by rfl), List.Pairwise.nil, by
    show _ ∨ (!w.params.followText "set-order") = true
    cases w.params.followText "set-order"
    · exact .inr rfl
    · exact .inl rfl⟩
end
section
variable {P : Program} {w : World} {A : Around} {E : Value → Shared → Prop} {s : Shared} {a : Addr} {l : List Str}
theorem SetS.lay {h : Heap} {o : Obj} {es : Array (Int × Value)} {ep : Nat} {t : SetTable} (ho : h.get? a = some o) (hd : o.data = .set es ep t) (es' : Array (Int × Value)) (t' : SetTable) : (h.update a (Obj.putSet es' t')).get? a = some { o with data := .set es' (ep + 1) t' } := L2.store_at ho hd
theorem txt_tail {g : Bool → Sem Unit} (hg : ∀ (b : Bool) (s₁ : Shared) (Q' : Unit → Shared → Prop), Q' () s₁ → wpAny (model P w) A (g b) Q' E s₁)
    {o : Obj} {es : Array (Int × Value)} {ep : Nat} {t : SetTable} (ho : s.heap.get? a = some o) (hex : o.ExactSet) (hd : o.data = .set es ep t)
    {es1 : Array (Int × Value)} {t2 : SetTable} (g1 : ∀ e ∈ es1.toList, TxE w e) (p1 : (es1.toList.map tkey).Perm l) (nd : l.Nodup)
    (hb1 : es1.size < scanBound) (hf2 : t2.fits es1.size = true) (hr : Ris t2.place.toList) (hl : w.params.followText "set-order" = true ∨ t2.led = true) {wasDummy : Bool} {R : Option Bool → Shared → Prop}
    (hR : ∀ h', Heap.SameBut a s.heap h' → SetS w h' a l → R (some true) { s with heap := h' }) :
    wpAny (model P w) A (do
        storeSet a es1 t2
        if (!wasDummy && t2.tooFull) = true then do
            g (relayAll t2 es1 (SetTable.grown es1.size)).2.2
            storeSet a (relayAll t2 es1 (SetTable.grown es1.size)).1 (relayAll t2 es1 (SetTable.grown es1.size)).2.1
            pure (some true)
          else pure (some true)) R E s := by
  refine wpAny_bind (wpAny_storeSet_of ho hd ?_ (fits_of_scanBound hb1))
  have ho1 := SetS.lay ho hd es1 t2
  have sb1 := Heap.SameBut.update s.heap a (Obj.putSet es1 t2)
  by_cases full : (!wasDummy && t2.tooFull) = true
  · rw [if_pos full]
    have pm := relayAll_perm t2 es1 (SetTable.grown es1.size)
    have f3 := relayAll_fits t2 es1 (SetTable.grown es1.size)
    have r3 := relayAll_ris t2 es1 (SetTable.grown es1.size)
    have l3 := relayAll_led t2 es1 (SetTable.grown es1.size)
    generalize relayAll t2 es1 (SetTable.grown es1.size) = Z at pm f3 r3 l3 ⊢
    obtain ⟨es2, t3, gave⟩ := Z
    dsimp only at pm f3 r3 l3 ⊢
    have hsz : es2.size = es1.size := by rw [← Array.length_toList, pm.length_eq, Array.length_toList]
    have hb2 : es2.size < scanBound := by rw [hsz]; exact hb1
    refine wpAny_bind (hg _ _ _ (wpAny_bind (wpAny_storeSet_of ho1 rfl ?_ (fits_of_scanBound hb2))))
    have ho2 := SetS.lay ho1 rfl es2 t3
    exact wpAny_pure (hR _ (sb1.trans (Heap.SameBut.update _ a _)) ⟨_, es2, _, t3, ho2, hex, rfl, fun e he => g1 e (pm.mem_iff.mp he), (pm.map tkey).trans p1, nd, hb2, f3, r3, hl.imp id fun z => by rw [l3]; exact z⟩)
  · rw [if_neg full]
    exact wpAny_pure (hR _ sb1 ⟨_, es1, _, t2, ho1, hex, rfl, g1, p1, nd, hb1, hf2, hr, hl⟩)
theorem txt_add {k : Str} {tk : Tok} {Q : Bool → Shared → Prop} (R : SetS w s.heap a l) (room : l.length + 1 < scanBound) (hQ : ∀ h', Heap.SameBut a s.heap h' → SetS w h' a (insT k l) → Q (!decide (k ∈ l)) { s with heap := h' }) :
    wpAny (model P w) A (setAddHashed a (.str k tk) ((PySem.strKind P w).hash k)) Q E s := by
  obtain ⟨o, es, ep, t, ho, hex, hd, g, pl, nd, hb, hf, hr, hl⟩ := R
  have hsc : (Value.str k tk).scannable = true := rfl
  have hkey : (PySem.strKind P w).is k (.str k tk) = true := PySem.Froz.is_str k tk
  have hel : ElemsOf (PySem.strKind P w) es.toList := tx_elems g
  have gave : ∀ (b : Bool) {s₁ : Shared} {Q' : Unit → Shared → Prop}, Q' () s₁ → wpAny (model P w) A (match b with | true => rule "set.scan.the-table-gave-way" | false => pure ()) Q' E s₁ := fun b s₁ Q' q => by
    cases b
    · exact wpAny_pure q
    · exact wpAny_rule q
  unfold setAddHashed setAddHashedIn
  refine wpAny_holding (wpAny_bind (wpAny_setState_of ho hd hf ?_))
  dsimp only
  rw [byScan_of hsc hb hel]
  simp only [↓reduceIte]
  unfold setAddByScan
  refine wpAny_bind (wpAny_bind (wpAny_rule (wpAny_bind (wpAny_setScan_of hkey ho hd hf hel ?_))))
  cases hfi : List.findIdx? (fun e => (PySem.strKind P w).is k e.2) es.toList with
  | some j =>
    dsimp only
    obtain ⟨hj, pj, _⟩ := List.findIdx?_eq_some_iff_getElem.mp hfi
    have kin : k ∈ l := pl.mem_iff.mp (List.mem_map.mpr ⟨es.toList[j], List.getElem_mem hj, (tx_is (P := P) (g _ (List.getElem_mem hj)) k).mp pj⟩)
    have q := hQ s.heap (Heap.SameBut.refl a s.heap) (by
      unfold insT
      rw [if_pos kin]
      exact ⟨o, es, ep, t, ho, hex, hd, g, pl, nd, hb, hf, hr, hl⟩)
    rw [decide_eq_true kin] at q
    exact wpAny_pure (wpAny_pure q)
  | none =>
    dsimp only
    have nk : k ∉ l := fun z => by
      obtain ⟨e, he, q⟩ := List.mem_map.mp (pl.mem_iff.mpr z)
      have c := List.findIdx?_eq_none_iff.mp hfi e he
      rw [(tx_is (P := P) (g e he) k).mpr q] at c
      cases c
    have ei : insT k l = k :: l := if_neg nk
    rw [ei, decide_eq_false nk] at hQ
    have pm := layNew_perm t es ((PySem.strKind P w).hash k) (.str k tk)
    have f1 := layNew_fits t es ((PySem.strKind P w).hash k) (.str k tk)
    have r1 := layNew_ris t es ((PySem.strKind P w).hash k) (.str k tk) hr
    have l1 := layNew_led t es ((PySem.strKind P w).hash k) (.str k tk)
    generalize layNew t es ((PySem.strKind P w).hash k) (.str k tk) = Z at pm f1 r1 l1 ⊢
    obtain ⟨es1, t1, wasDummy, gv⟩ := Z
    dsimp only at pm f1 r1 l1 ⊢
    rw [Array.toList_push] at pm
    have pc : es1.toList.Perm (((PySem.strKind P w).hash k, Value.str k tk) :: es.toList) := pm.trans (List.perm_append_singleton _ _)
    have g1 : ∀ e ∈ es1.toList, TxE w e := fun e he => by
      rcases List.mem_cons.mp (pc.mem_iff.mp he) with z | z
      · rw [z]
        exact ⟨k, tk, rfl, rfl⟩
      · exact g e z
    have p1 : (es1.toList.map tkey).Perm (k :: l) := (pc.map tkey).trans (pl.cons k)
    have sz0 : es.size = l.length := by rw [← Array.length_toList, ← pl.length_eq, List.length_map]
    have sz1 : es1.size = l.length + 1 := by rw [← Array.length_toList, pc.length_eq, List.length_cons, Array.length_toList, sz0]
    have b1 : es1.size < scanBound := by rw [sz1]; exact room
    have nd1 : (k :: l).Nodup := List.nodup_cons.mpr ⟨nk, nd⟩
    have led : w.params.followText "set-order" = true ∨ t1.led = true := hl.imp id fun z => by rw [l1]; exact z
    refine wpAny_bind (gave _ ?_)
    split
    · refine wpAny_bind ?_
      rw [hashByValue_scannable 8 hsc]
      refine wpAny_pure ?_
      refine txt_tail ?_ ho hex hd g1 p1 nd1 b1 ?_ ?_ ?_ ?_
      · intro b s₁ Q' q
        cases b <;> first | exact wpAny_pure q | exact wpAny_rule q
      · first | (split <;> first | exact f1 | exact SetTable.fits_plain_off f1) | exact f1
      · first | (split <;> exact r1) | exact r1
      · first | (split <;> exact led) | exact led
      · intro h' sb r
        dsimp only
        exact wpAny_pure (hQ h' sb r)
    · refine wpAny_bind (wpAny_pure ?_)
      simp only [↓reduceIte]
      refine txt_tail ?_ ho hex hd g1 p1 nd1 b1 f1 r1 led ?_
      · intro b s₁ Q' q
        cases b <;> first | exact wpAny_pure q | exact wpAny_rule q
      · intro h' sb r
        dsimp only
        exact wpAny_pure (hQ h' sb r)
end
/-! ### as a tracked thing -/
def SetSO (w : World) (a : Addr) (l : List Str) : HO := .ext fun h => SetS w h a l
theorem setSO_new {w : World} {P : Program} {H : Hp} {h : Heap} {a : Addr} {l : List Str} (R : SetS w h a l) : ObjOk P w H h a (SetSO w a l) := by
  have ⟨o, _, _, _, ho, _⟩ := R
  exact ⟨R, ⟨o, ho⟩, fun h1 h2 p k => SetS.at p k⟩
section
variable {X : Cx} {pins : List (Addr × Obj)} {σ : L2.St} {H : Hp} {s : Shared} {E : Value → Shared → Prop} {a : Addr} {l : List Str}
theorem setSO_get (I : Inv X pins σ H s) (ha : H a = some (SetSO X.w a l)) : SetS X.w s.heap a l := (I.hok a _ ha).1
theorem setSO_nd (I : Inv X pins σ H s) (ha : H a = some (SetSO X.w a l)) : l.Nodup := let ⟨_, _, _, _, _, _, _, _, _, nd, _⟩ := setSO_get I ha; nd
/-- set.add of a text -/
theorem addS_ok {k : Str} {tk : Tok} {Q : Value → Shared → Prop} (I : Inv X pins σ H s) (ha : H a = some (SetSO X.w a l)) (room : l.length + 1 < scanBound) (h : ∀ s', Inv X pins σ (upd H a (SetSO X.w a (insT k l))) s' → Q .none s') :
    wpAny (model X.prog X.w) X.A (call (.builtin "set.add") [.ref a, .str k tk]) Q E s := by
  have R := setSO_get I ha
  have ⟨o, _, _, _, ho, hex, _⟩ := R
  refine wpAny_call_entry F.slot_set_add ⟨o, ho, hex.1⟩ F.entry_set_add ?_ (F.args_set_add_2 _ _)
  unfold Builtin.«set.add» Builtin.Frozenset.oneOther
  simp only [List.isEmpty_nil, bind_assoc]
  unfold Builtin.Frozenset.addrOf setAdd
  refine wpAny_bind (wpAny_pure ?_)
  try dsimp only
  refine wpAny_bind (wpAny_pure ?_)
  try dsimp only
  refine wpAny_bind (wpAny_holding (wpAny_bind ((PySem.strKind X.prog X.w).pyHash (PySem.Froz.is_str k tk) ?_)))
  refine txt_add (s := { s with toks := s.toks + 1 }) R room fun h' sb new => ?_
  show wpAny _ _ (ret Value.none) _ _ _
  have ⟨o', _, _, _, ho', _⟩ := new
  exact wpAny_pure ⟨_, rfl, h _ (I.write (e := a) (t' := s.toks + 1) (by rw [ha]; trivial) (.inl rfl) (fun b u hb hu => (sb.2 b hb).trans hu) ⟨o', ho'⟩ (setSO_new new))⟩
end
/-! ### sorted of such a set -/
abbrev IsTx (v : Value) (b : Str) : Prop := ∃ t, v = Value.str b t
def txOf (v : Value) : Str := match v with | .str k _ => k | _ => ⟨#[]⟩
theorem each_tx : ∀ {vs : List Value}, (∀ v ∈ vs, ∃ k t, v = Value.str k t) → PySem.W.EachIs IsTx vs (vs.map txOf)
  | [], _ => .nil
  | v :: vs, h => by
    obtain ⟨k, t, rfl⟩ := h v List.mem_cons_self
    exact .cons ⟨t, rfl⟩ (each_tx fun u hu => h u (List.mem_cons_of_mem _ hu))
theorem vals_tx : ∀ {vs : List Value} {ws : List Str}, PySem.W.EachIs IsTx vs ws → Vals (ws.map V.str) vs
  | _, _, .nil => .nil
  | _, _, .cons ⟨t, e⟩ r => .cons ⟨t, e⟩ (vals_tx r)
theorem sort_tx (l : List Str) : (l.mergeSort fun a b => decide (a.cps.toList ≤ b.cps.toList)).Pairwise fun a b => a.cps.toList ≤ b.cps.toList := by
  refine List.Pairwise.imp (fun {a b} h => of_decide_eq_true h) (List.pairwise_mergeSort (le := fun a b => decide (a.cps.toList ≤ b.cps.toList)) (fun a b c h1 h2 => ?_) (fun a b => ?_) l)
  · exact decide_eq_true (Std.le_trans (of_decide_eq_true h1) (of_decide_eq_true h2))
  · rw [Bool.or_eq_true, decide_eq_true_iff, decide_eq_true_iff]
    exact Std.le_total
/-- of two lists of the same texts, both in order, both are one -/
theorem sort_uniq : ∀ {ws us : List Str}, ws.Perm us → ws.Pairwise (fun a b => a.cps.toList ≤ b.cps.toList) → us.Pairwise (fun a b => a.cps.toList ≤ b.cps.toList) → ws = us := fun {ws us} p h1 h2 => p.eq_of_pairwise (fun a b _ _ x y => by
    have e := Std.le_antisymm x y
    cases a
    cases b
    congr 1
    exact Array.toList_inj.mp e) h1 h2
section
variable {P : Program} {w : World} {A : Around} {E : Value → Shared → Prop} {s : Shared} {a : Addr} {l : List Str}
theorem sorted_setS {Q : Value → Shared → Prop} (R : SetS w s.heap a l) (hh : A.handled = none) (hu : A.units + 64 < cLine)
    (hQ : ∀ s' p (out : Array Value) (c : Nat) (ws : List Str), (∀ b o, s.heap.get? b = some o → s'.heap.get? b = some o) → s'.gens = s.gens → s'.os = s.os → s.heap.objs.size ≤ p →
      s'.heap.get? p = some (seqObj "list" out c) → PySem.W.EachIs IsTx out.toList ws → ws.Perm l → ws.Pairwise (fun a b => a.cps.toList ≤ b.cps.toList) → ws.length ≤ sizeLine → Q (.ref p) s') :
    wpAny (model P w) A (call (.builtin "sorted") [.ref a]) Q E s := by
  obtain ⟨o, es, ep, t, ho, hex, hd, g, pl, nd, hb, hf, hr, hl⟩ := R
  refine Calls.call_function_entry kind_sorted plain_sorted entry_sorted (args_sorted1 _) ?_
  unfold Builtin.«sorted»
  refine wpAny_bind (m := checkCount "sorted" 1 1 _) (wpAny_pure ?_)
  refine wpAny_bind (collect_set (A := A.in1) hh ⟨o, ho, hex.1, hd⟩ hf hb hr hl fun s1 vs k1 hz g1 o1 pm => ?_)
  have len : vs.length = es.size := by rw [pm.length_eq, List.length_map, Array.length_toList]
  have hL : vs.length ≤ sizeLine := by
    rw [len]
    exact fits_of_scanBound hb
  have texts : ∀ v ∈ vs, ∃ k t, v = Value.str k t := fun v hv => by
    obtain ⟨e, he, q⟩ := List.mem_map.mp (pm.mem_iff.mp hv)
    obtain ⟨k, t, h1, _⟩ := g e he
    exact ⟨k, t, by rw [← q]; exact h1⟩
  have pk : (vs.map txOf).Perm l := by
    have q := pm.map txOf
    rw [List.map_map] at q
    exact q.trans pl
  refine wpAny_bind (wpAny_newList ?_ hL)
  have hoL : (s1.heap.push (seqObj "list" vs.toArray 0)).get? s1.heap.objs.size = some (seqObj "list" vs.toArray 0) := Heap.get?_push_size _ rfl
  have er : PySem.W.EachIs (fun v (b : Str) => ∃ as, Reads (s1.heap.push (seqObj "list" vs.toArray 0)) v (.str b) as ∧ s1.heap.objs.size ∉ as) vs (vs.map txOf) := (each_tx texts).mono fun v b ⟨t, e⟩ => ⟨[], by rw [e]; exact .str _ _, fun z => nomatch z⟩
  refine wpAny_bind (wpAny_holding (PySem.W.list_sort_data (s := { s1 with heap := s1.heap.push (seqObj "list" vs.toArray 0) }) (enc := PyData.str) hoL (each_tx texts) er (PySem.W.AllAlike.of fun b b' => rfl) (PySem.W.Sortable.others fun b => ⟨(fun z => nomatch z), (fun _ z => nomatch z)⟩) (by rw [List.length_map]; exact hL) (fun b hb' => ?_) fun out ol eo => ?_))
  · show A.in1.units + 1 + 0 < cLine
    have : A.in1.units = A.units + 1 := rfl
    omega
  rw [show PySem.W.dataLe false PyData.str = fun a b => decide (a.cps.toList ≤ b.cps.toList) from PySem.W.dataLe_str fun b => b] at eo
  obtain ⟨c, hc⟩ := sortedHeap_at (vs := vs) (out := List.toArray out) hoL
  refine wpAny_pure ⟨_, rfl, hQ _ s1.heap.objs.size (List.toArray out) c _ (fun b u e => ?_) g1 o1 hz hc (by simpa using eo) ((List.mergeSort_perm _ _).trans pk) (sort_tx _) (by rw [List.length_mergeSort, List.length_map]; exact hL)⟩
  have q := k1 b u e
  have hlt := Heap.lt_size q
  show (sortedHeap (s1.heap.push (seqObj "list" vs.toArray 0)) s1.heap.objs.size vs (List.toArray out)).get? b = some u
  rw [sortedHeap_old (Nat.ne_of_lt hlt) (by rw [size_push']; exact Nat.lt_succ_of_lt hlt)]
  exact Heap.get?_push_of_some _ q
end
/-- sorted(texts), of a set: the same texts, in order -/
def rSortS (w : World) : List V → Hp → VK → Prop := fun vs H Q => ∃ (a : Addr) (l : List Str), vs = [.ref a] ∧ H a = some (SetSO w a l) ∧ ∀ (p : Addr) (ws : List Str), ws.Perm l → ws.Pairwise (fun a b => a.cps.toList ≤ b.cps.toList) → H p = none → Q (.ref p) (upd H p (.lst (ws.map V.str)))
theorem cr_sortS {X : Cx} (hc : X.calm = true) (hu : X.A.units + 64 < cLine) : CallR X (.builtin "sorted") (rSortS X.w) := by
  intro pins s σ H vs us Q I r h
  obtain ⟨a, l, rfl, ha, q⟩ := h
  rw [Vals.ref1 r]
  refine sorted_setS (setSO_get I ha) (I.ok.hd hc) hu fun s' p out c ws k g o hp hg hi pm pw hz => ?_
  have hn : H p = none := I.hok.fresh hp
  have J : Inv X pins σ (upd H p (.lst (ws.map V.str))) { s with heap := s'.heap, gens := s'.gens, drawn := s'.drawn, toks := s'.toks } :=
    I.call (ch := []) (Un.laid k hp hn) (I.hok.laid k hp ⟨by rw [List.length_map]; exact hz, out.toList, c, vals_tx hi, hg⟩) (by rw [g]; exact I.bare) (fun _ z => nomatch z)
  have e : s' = { s with heap := s'.heap, gens := s'.gens, drawn := s'.drawn, toks := s'.toks } := by
    cases s'
    cases s
    cases o
    rfl
  rw [e]
  exact ⟨.ref p, _, J, rfl, q p ws pm pw hn⟩
end L2X
/-! set(xs) of a list of texts -/
noncomputable section
namespace L2X
open PySem PySem.Spec PyProof.Rows L2
def allT (ws : List Str) : List Str := ws.foldl (fun L k => insT k L) []
theorem allT_snoc (ws : List Str) (k : Str) : allT (ws ++ [k]) = insT k (allT ws) := by
  unfold allT
  rw [List.foldl_append]
  rfl
theorem allT_len (ws : List Str) : (allT ws).length ≤ ws.length := by
  have h : ∀ (ws L : List Str), (ws.foldl (fun L k => insT k L) L).length ≤ L.length + ws.length := fun ws => by
    induction ws with
    | nil => intro L; exact Nat.le_refl _
    | cons k ws ih =>
      intro L
      have a := ih (insT k L)
      have b := insT_len (l := L) (k := k)
      rw [List.foldl_cons, List.length_cons]
      omega
  have := h ws []
  rw [List.length_nil, Nat.zero_add] at this
  exact this
theorem allT_mem (ws : List Str) (x : Str) : x ∈ allT ws ↔ x ∈ ws := by
  have h : ∀ (ws L : List Str), x ∈ ws.foldl (fun L k => insT k L) L ↔ (x ∈ L ∨ x ∈ ws) := fun ws => by
    induction ws with
    | nil => intro L; simp
    | cons k ws ih =>
      intro L
      rw [List.foldl_cons, ih, insT_mem, List.mem_cons]
      constructor
      · rintro ((z | z) | z)
        · exact .inr (.inl z)
        · exact .inl z
        · exact .inr (.inr z)
      · rintro (z | z | z)
        · exact .inl (.inr z)
        · exact .inl (.inl z)
        · exact .inr z
  have := h ws []
  unfold allT
  simpa using this
section
variable {P : Program} {w : World} {A : Around} {E : Value → Shared → Prop} {s : Shared}
theorem set_update_tx {I : Addr} {fp wr : List Addr} {G : Array GenState → Array GenState → Prop} {n : Nat} {Pv : Nat → Value → Prop} {St : Nat → Shared → Prop} {R : Result → Shared → Prop}
    (W : WalksS P w A.in1 I fp wr G n Pv St) (S : Addr) (hSf : S ∉ fp) (ws : List Str) (hn : n = ws.length) (hb : ws.length + 1 < scanBound) (hval : ∀ i v, Pv i v → ∃ k t, ws[i]? = some k ∧ v = .str k t) :
    ∀ (k i : Nat) (s : Shared), n - i = k → i ≤ n → St i s → SetS w s.heap S (allT (ws.take i)) → (∀ s', Moved (S :: wr) G s s' → SetS w s'.heap S (allT ws) → R (.ok (.ret .none)) s') →
      codeAny (model P w) A (.builtin "set.update.loop" ⟨[.ref S, .ref I], []⟩) R s := by
  have hSw : S ∉ wr := fun h => hSf (W.sub _ h)
  have hsub : ∀ b ∈ wr, b ∈ S :: wr := fun b hb => List.mem_cons_of_mem _ hb
  intro k
  induction k with
  | zero =>
    intro i s hk' hi hst hS hR
    have hin : i = n := by omega
    subst hin
    refine codeAny_builtin F.entry_set_update_loop ?_
    rw [Around.under_plainId F.plain_set_update_loop _]
    show wpAny _ A.in1 (pyNext (.ref I) >>= _) _ _ s
    refine wpAny_bind (W.done s _ _ hst fun s' hm => ?_)
    show wpAny _ A.in1 (ret Value.none) _ _ s'
    rw [List.take_of_length_le (by omega : ws.length ≤ i)] at hS
    exact wpAny_pure (hR s' (hm.mono hsub) (hS.at fun o e => hm.heap S o hSw e))
  | succ k ih =>
    intro i s hk' hi hst hS hR
    have hlt : i < n := by omega
    refine codeAny_builtin F.entry_set_update_loop ?_
    rw [Around.under_plainId F.plain_set_update_loop _]
    show wpAny _ A.in1 (pyNext (.ref I) >>= _) _ _ s
    refine wpAny_bind (W.item i s _ _ hlt hst fun v s' hP hst' hm => ?_)
    obtain ⟨z, t, hz, rfl⟩ := hval i v hP
    have hS' : SetS w s'.heap S (allT (ws.take i)) := hS.at fun o e => hm.heap S o hSw e
    show wpAny _ A.in1 (holding [Value.str z t] (setAdd S (.str z t)) >>= _) _ _ s'
    refine wpAny_bind (wpAny_holding ?_)
    unfold setAdd
    refine wpAny_holding (wpAny_bind ((PySem.strKind P w).pyHash (k := z) (PySem.Froz.is_str z t) ?_))
    have few := allT_len (ws.take i)
    rw [List.length_take] at few
    refine txt_add (s := { s' with toks := s'.toks + 1 }) hS' (by omega) fun h' hsb hS2 => ?_
    have e : ws.take (i + 1) = ws.take i ++ [z] := by
      rw [List.take_add_one, hz]
      rfl
    rw [← allT_snoc, ← e] at hS2
    refine wpAny_pure ⟨plainId_quiet F.plain_set_update_loop _, ih (i + 1) _ (by omega) hlt (W.frame _ s' _ _ hst' (Nat.le_succ _) fun b hb o e => ?_) hS2 fun s'' hm'' hS'' => ?_⟩
    · rw [hsb.2 b (fun h : b = S => hSf (by rw [← h]; exact hb))]
      exact e
    · refine hR s'' (Moved.trans W.gtrans ((hm.mono hsub).then_heap (Nat.le_succ _) fun b o hb e => ?_) hm'') hS''
      rw [hsb.2 b (fun h : b = S => hb (by rw [h]; exact List.mem_cons_self))]
      exact e
set_option maxHeartbeats 6400000 in
theorem call_set_tx {l : Addr} {items : Array Value} (ws : List Str) {Q : Value → Shared → Prop} (hh : A.handled = none) (hl : s.heap.IsList l items) (hit : Vals (ws.map V.str) items.toList) (hb : ws.length + 1 < scanBound)
    (h : ∀ (h' : Heap) (tk : Nat), SetS w h' s.heap.objs.size (allT ws) → (∀ b o, s.heap.get? b = some o → h'.get? b = some o) → Q (.ref s.heap.objs.size) { s with heap := h', toks := tk }) :
    wpAny (model P w) A (call (.type "set") [.ref l]) Q E s := by
  have hisz : items.size = ws.length := by
    have q := hit.length
    rw [List.length_map, Array.length_toList] at q
    exact q.symm
  obtain ⟨c, tl, hmro⟩ := F.called_set.mro
  have hmade := F.called_set.made
  have hsub := F.called_set.sub
  refine wpAny_call (codeAny_of_tree ?_)
  show wpAny _ _ (callAny (.type "set") _) _ _ _
  refine wpAny_pure ⟨Code.quiet_builtin _ (by decide +kernel), codeAny_builtin F.entry_type_call ?_⟩
  rw [Around.under_plain (weight_type_call_type "set" [.ref l] []) rfl]
  have h1 := F.called_set.notType
  have h2 := F.called_set.canCreate
  have hct := F.typeCall_set_1 (.ref l)
  repeat (any_goals (first | assumption | wp_step))
  refine codeAny_mono (code_set_led1 (.ref l) (E := E) (Q₁ := fun obj s₁ => obj = .ref s.heap.objs.size ∧ s₁ = { s with heap := s.heap.push { cls := .type "set", dict := none, data := .set #[] 0 (.fresh 0 0 (!w.params.followText "set-order")) } }) ⟨rfl, rfl⟩) fun r s₁ hr => ?_
  cases r with
  | error e => exact hr
  | ok fl =>
    cases fl with
    | ret obj =>
      obtain ⟨rfl, rfl⟩ := hr
      have hS : (s.heap.push { cls := .type "set", dict := none, data := .set #[] 0 (.fresh 0 0 (!w.params.followText "set-order")) }).get? s.heap.objs.size = some { cls := .type "set", dict := none, data := .set #[] 0 (.fresh 0 0 (!w.params.followText "set-order")) } := Heap.get?_push_size _ rfl
      have hT : Shared.TypeIs { s with heap := s.heap.push { cls := .type "set", dict := none, data := .set #[] 0 (.fresh 0 0 (!w.params.followText "set-order")) } } (.ref s.heap.objs.size) "set" := ⟨_, hS, rfl⟩
      have hli := F.called_set.init.lookup
      have hbi := F.called_set.init.bind (.ref s.heap.objs.size)
      repeat (any_goals (first | assumption | wp_step))
      refine codeAny_mono (codeAny_call_builtin (R := wants (fun r s₂ => r = .none ∧ ∃ h' tk, s₂ = { s with heap := h', toks := tk } ∧ SetS w h' s.heap.objs.size (allT ws) ∧ (∀ b o, s.heap.get? b = some o → h'.get? b = some o)) E) F.called_set.init.plain F.entry_set_init (check_set_init_1 hT ?_)) fun r₂ s₂ hr₂ => ?_
      · obtain ⟨ol, hol, hcl, nl, hdl⟩ := hl
        obtain ⟨ocls, odict, odata, oslots⟩ := ol
        simp only at hcl hdl
        subst hcl; subst hdl
        have hol' : (s.heap.push { cls := .type "set", dict := none, data := .set #[] 0 (.fresh 0 0 (!w.params.followText "set-order")) }).get? l = some { cls := .type "list", dict := odict, data := .seq items nl, slots := oslots } := Heap.get?_push_of_some _ hol
        have hsls := F.sub_list_set
        have hslf := F.sub_list_frozenset
        have hne : (Value.type "list" == Value.type "dict") = false := by decide
        have hl1 : (s.heap.push { cls := .type "set", dict := none, data := .set #[] 0 (.fresh 0 0 (!w.params.followText "set-order")) }).IsList l items := ⟨_, hol', rfl, nl, rfl⟩
        unfold Builtin.«set.__init__» noKeywords Builtin.Frozenset.updateFrom
        generalize hPI : pyIter = PI
        wp_walk
        subst hPI
        refine wpAny_pyIter_list hl1 ?_
        refine wpAny_bind (wpAny_runValue ?_)
        have hlS : l < s.heap.objs.size := Heap.lt_size hol
        have hh3 : A.in1.in1.in1.handled = none := by simp [hh]
        have hneI : l ≠ (s.heap.push { cls := .type "set", dict := none, data := .set #[] 0 (.fresh 0 0 (!w.params.followText "set-order")) }).objs.size := by
          rw [Heap.size_push]; exact Nat.ne_of_lt (Nat.lt_succ_of_lt hlS)
        have hSf : s.heap.objs.size ∉ [(s.heap.push { cls := .type "set", dict := none, data := .set #[] 0 (.fresh 0 0 (!w.params.followText "set-order")) }).objs.size, l] := by
          rw [Heap.size_push]; simp only [List.mem_cons, List.mem_singleton, List.not_mem_nil, or_false, not_or]
          exact ⟨Nat.ne_of_lt (Nat.lt_succ_self _), Nat.ne_of_gt hlS⟩
        have hval : ∀ (i : Nat) (v : Value), items[i]? = some v → ∃ k t, ws[i]? = some k ∧ v = .str k t := fun i v hv => by
          have q : items.toList[i]? = some v := by rw [Array.getElem?_toList]; exact hv
          have hi : i < ws.length := by
            have := (List.getElem?_eq_some_iff.mp q).1
            rw [Array.length_toList] at this
            omega
          obtain ⟨u, hu, ru⟩ := hit.get (i := i) (by rw [List.getElem?_map, List.getElem?_eq_getElem hi]; rfl)
          rw [q] at hu
          cases hu
          obtain ⟨t, e⟩ := ru
          exact ⟨ws[i], t, List.getElem?_eq_getElem hi, e⟩
        refine set_update_tx ((Walks.list hh3 _ l hneI items).toS) s.heap.objs.size
          hSf ws hisz hb hval (items.size - 0) 0 _ (by omega) (Nat.zero_le _)
          ⟨⟨_, Heap.get?_push_size _ rfl, rfl, rfl⟩, (hl1.push _)⟩ ?hS0 ?hR
        case hS0 => exact setS_new_at (Heap.get?_push_of_some _ hS)
        case hR =>
          intro s' hm hS'
          have hkp : ∀ b o, s.heap.get? b = some o → s'.heap.get? b = some o := fun b o e => by
            have hlt := Heap.lt_size e
            refine hm.heap b o (fun z => ?_) (Heap.get?_push_of_some _ (Heap.get?_push_of_some _ e))
            rcases List.mem_cons.mp z with z | z
            · exact absurd hlt (by rw [z]; exact Nat.lt_irrefl _)
            · rw [List.mem_singleton.mp z, Heap.size_push] at hlt
              exact absurd hlt (Nat.not_lt.mpr (Nat.le_succ _))
          obtain ⟨h', g2, d', tk', os'⟩ := s'
          have eg : g2 = s.gens := hm.gens
          have ed : d' = s.drawn := hm.drawn
          have eo : os' = s.os := hm.os
          subst eg; subst ed; subst eo
          show wpAny _ _ _ _ _ _
          refine wpAny_pure ?_
          show wpAny _ _ (ret Value.none) _ _ _
          exact wpAny_pure ⟨rfl, h', tk', rfl, hS', hkp⟩
      · cases r₂ with
        | error e => exact hr₂
        | ok fl₂ =>
          cases fl₂ with
          | ret r =>
            obtain ⟨rfl, h', tk, rfl, hS', hk'⟩ := hr₂
            repeat (any_goals (first | assumption | wp_step))
            exact h _ _ hS' hk'
          | _ => exact hr₂.elim
    | _ => exact hr.elim
end
/-- set(xs), xs a list of texts -/
def rSetOfS (K : PySem.W.Frag) (w : World) : List V → Hp → VK → Prop := fun xs H Q => ∃ (l : Addr) (ws : List Str), xs = [V.ref l] ∧ SqL K H l (ws.map V.str) ∧ ws.length + 1 < scanBound ∧ ∀ a, H a = none → Q (.ref a) (upd H a (SetSO w a (allT ws)))
theorem cr_setOfS {X : Cx} (hc : X.calm = true) : CallR X (.type "set") (rSetOfS X.K X.w) := by
  intro pins s σ H xs us Q I r h
  obtain ⟨l, ws, rfl, hl, hb, q⟩ := h
  rw [Vals.ref1 r]
  obtain ⟨its, rv, pl, hz⟩ := I.list hl
  have hn : H s.heap.objs.size = none := I.hok.fresh (Nat.le_refl _)
  refine call_set_tx (P := X.prog) (w := X.w) ws (I.ok.hd hc) pl.isList (by simpa using rv) hb fun h' tk R k => ?_
  exact ⟨.ref s.heap.objs.size, upd H s.heap.objs.size (SetSO X.w s.heap.objs.size (allT ws)), I.laid (t' := tk) k (Nat.le_refl _) (setSO_new R), rfl, q _ hn⟩
end L2X
/-! set comprehensions, whatever the set tells of its members -/
noncomputable section
namespace L2X
open PySem PySem.Spec PyProof.Rows L2 PpSet
/-- what a set laid anew is told to be, and what an add asks and leaves -/
structure SetTell (P : Program) (w : World) where
  O : Addr → HO
  Ad : Addr → V → Hp → (Hp → Prop) → Prop
  new : ∀ (H : Hp) (h : Heap) (D : Addr), h.get? D = some { cls := .type "set", dict := none, data := .set #[] 0 (.fresh 0 0 (!w.params.followText "set-order")) } → ObjOk P w H h D (O D)
  add : ∀ (X : Cx) (pins : List (Addr × Obj)) (σ : L2.St) (H : Hp) (s : Shared) (E : Value → Shared → Prop) (D : Addr) (y : V) (u : Value) (Nx : Hp → Prop) (Q : Value → Shared → Prop), X.prog = P → X.w = w → Inv X pins σ H s → RelV y u → Ad D y H Nx →
    (∀ s' H', Inv X pins σ H' s' → Nx H' → Q .none s') → wpAny (model P w) X.A (call (.builtin "set.add") [.ref D, u]) Q E s
def tScG {P : Program} {w : World} (T : SetTell P w) (wi : TI) (g : TG) (tt : TT) (te : TE) (vs : List Nat) : TE := fun σ H Q => wi σ H fun J H1 => ∀ D, H1 D = none → ∃ W : Nat → Nat → Hp → Prop, (∃ m, W 0 m (upd H1 D (T.O D))) ∧ ∀ i m H, W i m H →
  (J.stop i H ∧ Q (.ref D) H) ∨ (J.go i H ∧ ∃ Nx : Hp → Prop, (∀ H', Nx H' → ∃ m', m' < m ∧ W (i + 1) m' H') ∧ ∀ x H', J.yld i H x H' → g x (wipe σ vs) H' fun σ2 H2 => wipe σ2 vs = wipe σ vs ∧ tt σ2 H2 fun b H3 =>
    if b = true then te σ2 H3 fun y H4 => T.Ad D y H4 Nx else Nx H3)
theorem pe_scG {X : Cx} {elt tg iter : Expr} {ifs : List Expr} {scope : Scope} {own : List (PySem.Str × Nat)} {pos : Pos} {wi : TI} {g : TG} {tt : TT} {te : TE} (T : SetTell X.prog X.w) (hc : X.calm = true) (hN : X.N.Nodup) (hi : PI X tg iter wi) (ok : BlkOk X.N X.env.scope scope own)
    (hg : ∀ (s : Shared) (H : Hp) (C : Addr) (cl : List (PySem.Str × Addr)) (fp : List Addr), PG (X.blk s H scope (compEnvC scope cl C X.env) fp) tg g) (ht : ∀ (s : Shared) (H : Hp) (C : Addr) (cl : List (PySem.Str × Addr)) (fp : List Addr), PTs (X.blk s H scope (compEnvC scope cl C X.env) fp) ifs tt)
    (he : ∀ (s : Shared) (H : Hp) (C : Addr) (cl : List (PySem.Str × Addr)) (fp : List Addr), PE (X.blk s H scope (compEnvC scope cl C X.env) fp) elt te) (hs : ∀ x, foldedSetIterable iter X.env x = pure x := by intro _; rfl) :
    PE X (.SetComp elt [⟨tg, iter, ifs, 0⟩] scope pos) (tScG T wi g tt te (own.map (·.2))) := by
  refine ⟨fun pins s σ H Q I h => ?_⟩
  rw [eval_SetComp]
  have hfree : ∀ y ∈ scope.names, y.2 = .free → ∃ c, X.env.cells.lookup y.1 = some c := fun y hy e => (ok.free y hy e).elim (fun k => I.ok.has _ (.inl k)) fun k => I.ok.has _ (.inr k)
  refine wpAny_comprehension_free rfl hs (closure_ok hfree) ok.kind (fun y hy e => by rw [ok.uniq y hy, e]) (thn (hi.run pins s σ H _ I h) fun xv s1 hx => thn hx fun itv s2 h2 => ?_)
  obtain ⟨it, fp, tn, J, H2, rfl, I2, T', st2, f2, q⟩ := h2
  refine newSet_ok (newEnv_comp ?_)
  generalize hD : s2.heap.objs.size = D
  obtain ⟨W, ⟨m0, w0⟩, turn⟩ := q D (I2.hok.fresh (Nat.le_of_eq hD))
  generalize hs3 : ({ s2 with heap := s2.heap.push { cls := .type "set", dict := none, data := .set #[] 0 (.fresh 0 0 (!X.w.params.followText "set-order")) } } : Shared) = s3
  have h3 : s3.heap = s2.heap.push { cls := .type "set", dict := none, data := .set #[] 0 (.fresh 0 0 (!X.w.params.followText "set-order")) } := by rw [← hs3]
  have hI3 : ∃ H3, H3 = upd H2 D (T.O D) ∧ Inv X pins σ H3 s3 := ⟨_, rfl, by
    rw [← hs3]
    exact I2.laid (t' := s2.toks) (fun b o e => Heap.get?_push_of_some _ e) (Nat.le_of_eq hD) (T.new _ _ _ (by rw [← hD]; exact Heap.get?_push_size _ rfl))⟩
  obtain ⟨H3, hH3, I3⟩ := hI3
  have lt : ∀ b ∈ fp, b < s2.heap.objs.size := fun b hb => by
    obtain ⟨o, e, _⟩ := T'.obj _ _ st2 b hb
    exact Heap.lt_size e
  have f3 : ∀ b ∈ fp, FpOk X pins H3 b ∧ b < s3.heap.objs.size := fun b hb => by
    refine ⟨⟨?_, (f2 b hb).2⟩, by rw [h3, Heap.size_push]; exact Nat.lt_succ_of_lt (lt b hb)⟩
    rw [hH3, upd_ne (by rw [← hD]; exact Nat.ne_of_lt (lt b hb))]
    exact (f2 b hb).1
  rw [← hH3] at w0
  have I4 := block_start I3 ok hN f3
  have pg := hg s3 H3 s3.heap.objs.size (cellsFrom (s3.heap.objs.size + 1) scope.names (cloFrom X.env.cells scope.names [])) fp
  have pt := ht s3 H3 s3.heap.objs.size (cellsFrom (s3.heap.objs.size + 1) scope.names (cloFrom X.env.cells scope.names [])) fp
  have pe := he s3 H3 s3.heap.objs.size (cellsFrom (s3.heap.objs.size + 1) scope.names (cloFrom X.env.cells scope.names [])) fp
  show codeAny _ _ (.compStart (.SetComp elt [⟨tg, iter, ifs, 0⟩] scope pos) 0 (.ref it) (.ref D) (compEnvC scope (cellsFrom (s3.heap.objs.size + 1) scope.names (cloFrom X.env.cells scope.names [])) s3.heap.objs.size X.env)) (compPost (model X.prog X.w) X.A X.xe none (EP X pins σ Q) (.ref D) s3.heap.objs.size) { s3 with heap := pushCells (s3.heap.push { cls := .type "dict", data := .dict #[] }) scope.names }
  generalize hce : compEnvC scope (cellsFrom (s3.heap.objs.size + 1) scope.names (cloFrom X.env.cells scope.names [])) s3.heap.objs.size X.env = ce at I4 pg pt pe ⊢
  have cL : ce.locals = s3.heap.objs.size := by subst hce; rfl
  generalize hs4 : ({ s3 with heap := pushCells (s3.heap.push { cls := .type "dict", data := .dict #[] }) scope.names } : Shared) = s4 at I4 ⊢
  have st4 : tn 0 s4.heap := T'.keep _ _ _ st2 fun b _ o e => by
    rw [← hs4]
    exact pushCells_keeps _ _ _ _ (Heap.get?_push_of_some _ (by rw [h3]; exact Heap.get?_push_of_some _ e))
  have stat : ∀ {σ' : L2.St} {H' : Hp} {s' : Shared}, Inv (X.blk s3 H3 scope ce fp) [] σ' H' s' → (∀ b ∈ fp, H' b = none) → ∀ b ∈ fp, FpOk (X.blk s3 H3 scope ce fp) [] H' b := fun {σ' H' s'} I' hn b hb =>
    ⟨hn b hb, (I'.ok.exf b hb).1, I'.ok.exfs b hb, .inl hb, fun x c e => (I'.ok.exf b hb).2 x c e, fun p hp => absurd (show p ∈ ([] : List (Addr × Obj)) ++ [] from hp) (by simp)⟩
  refine codeAny_compStart_set ?loop (T'.self X.A 0 _ _ _ st4 ?loop)
  refine compLoopS_any (fun n s' => ∃ i H', Inv (X.blk s3 H3 scope ce fp) [] (wipe σ (own.map (·.2))) H' s' ∧ tn i s'.heap ∧ (∀ b ∈ fp, H' b = none) ∧ W i n H') ?_ m0 ⟨0, H3, I4, st4, fun b hb => (f3 b hb).1.1, w0⟩
  rintro n s5 ⟨i, H5, I5, st5, n5, w5⟩
  rcases turn i n H5 w5 with ⟨stop, qq⟩ | ⟨go, Nx, hNx, step⟩
  · refine thnF (T'.done (X.blk s3 H3 scope ce fp) rfl rfl rfl hc i [] s5 _ H5 (fun _ _ => False) I5 (stat I5 n5) st5 stop) fun r s6 ⟨hr, I6⟩ => ?_
    subst hr
    have I7 : Inv X pins σ H5 s6 := I3.call' (ch := fp) I6.os I6.base I6.hok I6.bare fun b hb => ⟨(f3 b hb).1.2.2.2.1, (f3 b hb).1.2.1, (f3 b hb).1.2.2.2.2.1, (f3 b hb).1.2.2.2.2.2⟩
    have nC : H5 s3.heap.objs.size = none := by
      have z : H5 ce.locals = none := I6.free
      rw [cL] at z
      exact z
    obtain ⟨m, hn, _⟩ := I6.loc
    have hn : s6.heap.Ns ce.locals m := hn
    rw [cL] at hn
    refine ⟨m, hn, fun h'' sb => ?_⟩
    obtain ⟨f0, f1, f2', f3', f4, f5⟩ := I3.fpOk (Nat.le_refl _) nC
    exact ⟨.ref D, H5, I7.turned (t' := s6.toks) (fun b o hb e => (sb.2 b hb).trans e) f0 f1 f3' f4 f5, rfl, qq⟩
  · refine thnF (T'.item (X.blk s3 H3 scope ce fp) rfl rfl rfl hc i [] s5 _ H5 (fun _ _ => False) I5 (stat I5 n5) st5 go) fun r s6 ⟨u, hr, h6⟩ => ?_
    subst hr
    refine thnF h6 fun _ s7 ⟨x, H7, I7, r7, y7, st7, n7⟩ => ?_
    have I7' := I7.pinned (stat I7 n7) (T'.obj _ _ st7)
    refine thnF (pg.run _ s7 _ H7 x u _ I7' r7 (step x H7 y7)) fun _ s8 ⟨σ8, H8, I8, hw8, q8⟩ => ?_
    refine thnF (pt.run _ s8 σ8 H8 _ I8 q8) fun b s9 ⟨H9, I9, q9⟩ => ?_
    have fin : ∀ {s' : Shared} {H' : Hp}, Inv (X.blk s3 H3 scope ce fp) ([] ++ pinsAt fp s7.heap) σ8 H' s' → Nx H' → ∃ m, m < n ∧ ∃ i H', Inv (X.blk s3 H3 scope ce fp) [] (wipe σ (own.map (·.2))) H' s' ∧ tn i s'.heap ∧ (∀ b ∈ fp, H' b = none) ∧ W i m H' := fun {s' H'} I' nx => by
      obtain ⟨m', hm, w'⟩ := hNx H' nx
      have pin' : ∀ b ∈ fp, ∀ o, s7.heap.get? b = some o → s'.heap.get? b = some o ∧ H' b = none := fun b hb o e =>
        let z := I'.pin (b, o) (List.mem_append_right _ (List.mem_append_right _ (mem_pinsAt hb e)))
        ⟨z.1, z.2.1⟩
      refine ⟨m', hm, i + 1, H', (I'.unpinned (pins := [])).weak (by rw [← hw8, wipe_length]) (fun j v e => ?_), T'.keep _ _ _ st7 fun b hb o e => (pin' b hb o e).1, fun b hb => ?_, w'⟩
      · rw [← hw8] at e
        exact (wipe_some e).1
      · obtain ⟨o, e, _⟩ := T'.obj _ _ st7 b hb
        exact (pin' b hb o e).2
    cases b with
    | false => exact fin I9 q9
    | true => exact thnF (pe.run _ s9 σ8 H9 _ I9 q9) fun z s10 ⟨yv, H10, I10, r10, ad⟩ => T.add (X.blk s3 H3 scope ce fp) _ _ _ _ _ D yv z Nx _ rfl rfl I10 r10 ad fun s11 H11 I11 nx => fin I11 nx
/-- texts -/
def tellS (P : Program) (w : World) : SetTell P w where
  O := fun D => SetSO w D []
  Ad := fun D y H Nx => ∃ (c : Str) (l : List Str), y = .str c ∧ H D = some (SetSO w D l) ∧ l.length + 1 < scanBound ∧ Nx (upd H D (SetSO w D (insT c l)))
  new := fun H h D ho => setSO_new (setS_new_at ho)
  add := fun X pins σ H s E D y u Nx Q hP hw I r ⟨c, l, e, hD, hz, nx⟩ q => by
    subst hP hw e
    obtain ⟨tk, rfl⟩ := r
    exact addS_ok I hD hz fun s' I' => q s' _ I' nx
end L2X
/-! x == y and x != y by an own __eq__, whatever it answers -/
noncomputable section
namespace L2X
open PySem PySem.Spec PyProof.Rows L2 PySem.W
/-- what an instance of C is compared with -/
def EqTy (C : Addr) (y : V) (H : Hp) : Prop := (∃ b dy gs, y = .ref b ∧ H b = some (.ins C dy gs)) ∨ (∃ l xs, y = .ref l ∧ H l = some (.lst xs)) ∨ ∃ i, y = .int i
structure OwnQ (X : Cx) (n : Nat) (C : Addr) (f : Addr) (fd : FuncData) (ps : List Str) (sp : Sp) : Prop where
  run : FnOk X.prog X.w X.K X.mg X.base CX0 n f fd ps sp
  eq : PySem.W.findIn X.K (.ref C) "__eq__" = some (some (.ref f))
  fn : PySem.W.isFn X.K (.ref f) = true
  bs : Binds X.K fd ps []
def rOwn (C : Addr) (sp : Sp) (neg : Bool) : R2 := fun x y H Q => ∃ a dx fs, x = .ref a ∧ H a = some (.ins C dx fs) ∧ EqTy C y H ∧ sp [x, y] H (fun v H' => ∃ b, v = .bl b ∧ Q (.bl (if neg = true then !b else b)) H') E0
theorem ifBound_KB {M : Model} {A : Around} {E : Value → Shared → Prop} {s : Shared} {K : PySem.W.Frag} {x C : Addr} {ox : Obj} {od : Option Obj} {name : Str} {id : String} {args : List Value} {Q : Option Value → Shared → Prop} (X : K.In s.heap) (I : InstAt s.heap x ox C od) (hs : findIn K (.ref C) name = some (some (.builtin id)))
    (S : ∀ self, bindSpecial (.builtin id) self = pure (.builtin id, [self])) (h : wpAny M A (call (.builtin id) (.ref x :: args)) (fun v => Q (some v)) E s) : wpAny M A (callSpecialIfBound? (.ref x) name args) Q E s := by
  simp only [callSpecialIfBound?, bindSpecialIfBound?]
  refine wpAny_holding (wpAny_bind (wpAny_bind (wpAny_bind (I.type.here ((looks_findIn X hs).here ?_)))))
  simp only [S]
  refine wpAny_bind (wpAny_askSetting (wpAny_ite ?_))
  have fin : wpAny M A (call (.builtin id) ([.ref x] ++ args) >>= fun v => pure (some v)) Q E s := wpAny_bind (wpAny_mono h (fun v s' h' => wpAny_pure h') fun _ _ h' => h')
  split
  · exact wpAny_bind (wpAny_pure (wpAny_pure fin))
  · exact wpAny_tryCatch (wpAny_bind (wpAny_pure (wpAny_pure fin)))
section
variable {X : Cx} {n : Nat} {C f : Addr} {fd : FuncData} {ps : List Str} {sp : Sp} {pins : List (Addr × Obj)} {σ : L2.St} {H : Hp} {s : Shared}
theorem looks_ty {y : V} {u : Value} (I : Inv X pins σ H s) (ry : RelV y u) (ty : EqTy C y H) : ∃ tb, Looks (model X.prog X.w) s.heap (typeOf u) tb ∧ PySem.W.notFirst X.K C tb = true := by
  rcases ty with ⟨b, dy, gs, rfl, hb⟩ | ⟨l, xs, rfl, hl⟩ | ⟨i, rfl⟩
  · cases ry
    obtain ⟨mB, J, _⟩ := ins_get I.hok hb
    obtain ⟨od, J, _⟩ := J.look
    exact ⟨.ref C, J.type, by simp [PySem.W.notFirst]⟩
  · cases ry
    obtain ⟨z, its, k, r, e⟩ := I.hok l _ hl
    refine ⟨.type "list", (Looks.ld e).andThen .now, ?_⟩
    unfold PySem.W.notFirst
    rw [Bool.or_eq_true]
    exact .inr (by rfl)
  · obtain ⟨t, rfl⟩ := ry
    refine ⟨.type "int", Looks.of_pure rfl, ?_⟩
    unfold PySem.W.notFirst
    rw [Bool.or_eq_true]
    exact .inr (by rfl)
/-- the own == itself -/
theorem OwnQ.call (W : OwnQ X n C f fd ps sp) {A : Around} (sb : Sub X n A) {a : Addr} {y : V} {u : Value} (I : Inv X pins σ H s) (ry : RelV y u) {Q : V → Hp → Prop} {R : Value → Shared → Prop} (hsp : sp [.ref a, y] H Q E0) (hR : ∀ v z s' H', Inv X pins σ H' s' → RelV v z → Q v H' → R z s') :
    wpAny (model X.prog X.w) A (call (.ref f) [.ref a, u]) R X.xe s := by
  have e0 : Env0 X.prog X.w X.K X.mg X.base A X.stack s H := by
    have e := I.env0
    exact ⟨by rw [sb.fr]; exact e.frames, e.mod, e.bs, e.bsz, e.funs, e.frf, e.hok, e.bare⟩
  have hl := W.run.len _ _ _ _ hsp
  have r2 : Vals [V.ref a, y] [Value.ref a, u] := .cons rfl (.cons ry .nil)
  refine wpAny_call (codeAny_mono (W.run.run A X.stack s H ⟨[.ref a, u], []⟩ [.ref a, u] [.ref a, y] _ E0 sb.room e0 (by
    have := W.bs s [.ref a, u] I.kIn (by simpa using hl)
    simpa using this) r2 hsp) fun r s' hq => ?_)
  cases r with
  | error e => exact pass0 pins σ H s e s' I hq
  | ok fl =>
    cases fl with
    | ret w =>
      obtain ⟨z, H', I', rz, q⟩ := I.after hq
      exact hR z w s' H' I' rz q
    | next => exact False.elim hq
    | brk => exact False.elim hq
    | cont => exact False.elim hq
theorem op_eqO (W : OwnQ X n C f fd ps sp) (hr : Room n X.A) : OpR X (compareOp .Eq) (rOwn C sp false) := by
  intro pins s σ H x y v u Q I rx ry h
  obtain ⟨a, dx, fs, rfl, ha, ty, hsp⟩ := h
  cases rx
  obtain ⟨mA, J, _⟩ := ins_get I.hok ha
  obtain ⟨od, J, _⟩ := J.look
  obtain ⟨m, hF⟩ := I.fr
  obtain ⟨tb, ht, hn⟩ := looks_ty I ry ty
  show wpAny (model X.prog X.w) X.A (richCompare .Eq (.ref a) u) (EP X pins σ Q) X.xe s
  refine PySem.W.cmp_K (op := .Eq) hr.units0 hF I.ok.mod.kin J ht hn W.eq W.fn (W.call ⟨hr, rfl⟩ I ry hsp fun v z s' H' I' rz q => ?_)
  obtain ⟨b, rfl, q⟩ := q
  cases rz
  exact ⟨.bl b, H', I', rfl, q⟩
theorem op_neO (W : OwnQ X n C f fd ps sp) (hr : Room (n + 1) X.A) (hne : PySem.W.findIn X.K (.ref C) "__ne__" = some (some (.builtin "object.__ne__"))) (hob : PySem.W.subIn X.K (.ref C) (.type "object") = some true) : OpR X (compareOp .NotEq) (rOwn C sp true) := by
  intro pins s σ H x y v u Q I rx ry h
  obtain ⟨a, dx, fs, rfl, ha, ty, hsp⟩ := h
  cases rx
  obtain ⟨mA, J, _⟩ := ins_get I.hok ha
  obtain ⟨od, J, _⟩ := J.look
  obtain ⟨tb, ht, hn⟩ := looks_ty I ry ty
  have K := I.kIn
  have sub : Looks (model X.prog X.w) s.heap (isInstance (.ref a) (.type "object")) true := J.type.andThen (looks_subIn K hob)
  show wpAny (model X.prog X.w) X.A (richCompare .NotEq (.ref a) u) (EP X pins σ Q) X.xe s
  have inner : wpAny (model X.prog X.w) X.A (call (.builtin "object.__ne__") [.ref a, u]) (fun v s' => ∃ b, v = .bool b ∧ EP X pins σ Q (.bool b) s') X.xe s := by
    refine wpAny_call (codeAny_call_builtin PySem.F.cmp_object.ne.plain PySem.F.cmpEntry_ne (@PySem.W.check_slot (model X.prog X.w) _ _ s "object.__ne__" "object" "__ne__" (.ref a) [u] [] _ PySem.F.cmpKind_ne PySem.F.cmpSplit_ne sub (PySem.F.cmpArgs_ne _ _) ?_))
    unfold Builtin.«object.__ne__»
    show wpAny _ X.A.in1 (cRoomFor "comparison" [.ref a, u] >>= _) _ _ s
    have sb : Sub X n X.A.in1 := Sub.in1 ⟨hr, rfl⟩
    refine wpAny_bind (wpAny_cRoomFor sb.room.units0 ?_)
    refine wpAny_bind (ifBound_K K J W.eq W.fn (W.call sb I ry hsp fun v z s' H' I' rz q => ?_))
    obtain ⟨b, rfl, q⟩ := q
    cases rz
    show wpAny _ X.A.in1 (truthy (.bool b) >>= fun t => ret (.bool (!t))) _ _ s'
    refine wpAny_bind (wpAny_truthy_bool (wpAny_pure ?_))
    exact ⟨!b, rfl, .bl (!b), H', I', rfl, q⟩
  have one : wpAny (model X.prog X.w) X.A (tryCompare (.ref a) (cmpInfo .NotEq).2.1 u) (fun r s' => ∃ v, r = some v ∧ EP X pins σ Q v s') X.xe s := by
    unfold tryCompare
    refine wpAny_bind (ifBound_KB K J hne PySem.F.cmp_object.ne.bind (wpAny_mono inner (fun v s' hv => ?_) fun _ _ e => e))
    obtain ⟨b, rfl, hq⟩ := hv
    exact wpAny_pure ⟨_, rfl, hq⟩
  unfold richCompare
  simp only [oneThing_ref]
  refine wpAny_holding (wpAny_bind (wpAny_cRoomFor hr.units0 ?_))
  refine wpAny_bind (J.type.here (wpAny_bind (ht.here ?_)))
  split
  · rename_i q
    have e : subIn X.K tb (.ref C) = some false := by
      rcases Bool.or_eq_true_iff.mp hn with e | e
      · rw [beq_iff_eq.mp e] at q
        simp at q
      · exact beq_iff_eq.mp e
    refine wpAny_bind ((looks_subIn K e).here ?_)
    simp only [Bool.false_eq_true, if_false]
    refine wpAny_bind (wpAny_mono one (fun r s' z => ?_) fun _ _ e => e)
    obtain ⟨v, rfl, hq⟩ := z
    exact wpAny_pure hq
  · refine wpAny_bind (wpAny_pure ?_)
    simp only [Bool.false_eq_true, if_false]
    refine wpAny_bind (wpAny_mono one (fun r s' z => ?_) fun _ _ e => e)
    obtain ⟨v, rfl, hq⟩ := z
    exact wpAny_pure hq
end
end L2X
namespace L2X
open PySem PySem.Spec PyProof.Rows L2
theorem call_isiQ {X : Cx} {K : PySem.W.Frag} (hK : X.K = K) : CallR X (.builtin "isinstance") (rIsi K) := by
  subst hK
  exact call_isi
/-- a set comprehension over a tuple that the block leaves as it is -/
theorem scG_tup {P : Program} {w : World} {T : SetTell P w} {K : PySem.W.Frag} {a : Addr} {xs : List V} {g : TG} {tt : TT} {te : TE} {vs : List Nat} {σ : L2.St} {H1 : Hp} {D : Addr} {Qd : Hp → Prop} (Pv : Nat → Hp → Prop) (h0 : Pv 0 (upd H1 D (T.O D))) (hl : ∀ i H, i ≤ xs.length → Pv i H → SqT K H a xs)
    (hs : ∀ i x H, xs[i]? = some x → Pv i H → g x (wipe σ vs) H fun σ2 H2 => wipe σ2 vs = wipe σ vs ∧ tt σ2 H2 fun b H3 => if b = true then te σ2 H3 fun y H4 => T.Ad D y H4 (Pv (i + 1)) else Pv (i + 1) H3) (hd : ∀ H, Pv xs.length H → Qd H) :
    ∃ W : Nat → Nat → Hp → Prop, (∃ m, W 0 m (upd H1 D (T.O D))) ∧ ∀ i m H, W i m H →
      ((Itt K a).stop i H ∧ Qd H) ∨ ((Itt K a).go i H ∧ ∃ Nx : Hp → Prop, (∀ H', Nx H' → ∃ m', m' < m ∧ W (i + 1) m' H') ∧ ∀ x H', (Itt K a).yld i H x H' → g x (wipe σ vs) H' fun σ2 H2 => wipe σ2 vs = wipe σ vs ∧ tt σ2 H2 fun b H3 =>
        if b = true then te σ2 H3 fun y H4 => T.Ad D y H4 Nx else Nx H3) := by
  refine ⟨fun i m H => m = xs.length - i ∧ i ≤ xs.length ∧ Pv i H, ⟨xs.length, rfl, Nat.zero_le _, h0⟩, ?_⟩
  rintro i m H ⟨rfl, hi, p⟩
  have q := hl i H hi p
  by_cases hlt : i < xs.length
  · refine .inr ⟨⟨xs, xs[i], q, by simp [hlt]⟩, Pv (i + 1), fun H' p' => ⟨xs.length - (i + 1), by omega, rfl, hlt, p'⟩, fun x H' y => ?_⟩
    obtain ⟨e, y⟩ := y
    subst e
    exact hs i x _ (y xs q) p
  · have e : i = xs.length := by omega
    subst e
    exact .inl ⟨⟨xs, q, Nat.le_refl _⟩, hd H p⟩
end L2X
namespace Dt
open PySem PySem.Spec PyProof.Rows L2 L2X
open SX (S)
/-! ### signs, how many, the same -/
abbrev sASg : Stmt := inClass cAl 3
abbrev sAEq : Stmt := inClass cAl 8
abbrev sALn : Stmt := inClass cAl 9
theorem scASg : FnScope ["self", "sign", "_"] ["self"] (defScope sASg) := ⟨rfl, rfl, rfl, by decide +kernel, rfl, by decide +kernel, by decide +kernel⟩
theorem scAEq : FnScope ["self", "other"] ["self", "other"] (defScope sAEq) := ⟨rfl, rfl, rfl, by decide +kernel, rfl, by decide +kernel, by decide +kernel⟩
theorem scALn : FnScope ["self"] ["self"] (defScope sALn) := ⟨rfl, rfl, rfl, by decide +kernel, rfl, by decide +kernel, by decide +kernel⟩
/-- the signs of shapes, as texts -/
def sgT (ss : List Sh) : List Str := ss.map fun s => ⟨#[s.sg]⟩
def leS (a b : Str) : Prop := a.cps.toList ≤ b.cps.toList
def spASg (C : Addr) : Sp := fun vs H Q _ => ∃ (o : Addr) (high : Nat) (ss : List Sh), vs = [.ref o] ∧ AlpAt C H o high ss ∧ ss.length ≤ 16 ∧ ∀ (l : Addr) (ws : List Str) (H' : Hp), Same H H' → H l = none → H' l = some (.lst (ws.map V.str)) → ws.Perm (allT (sgT ss)) → ws.Pairwise (fun a b => a.cps.toList ≤ b.cps.toList) → Q (.ref l) H'
def spALn (C : Addr) : Sp := fun vs H Q _ => ∃ (o : Addr) (high : Nat) (ss : List Sh), vs = [.ref o] ∧ AlpAt C H o high ss ∧ Q (.int ss.length) H
/-- what the own == answers: of another alphabet, of a list, of a number -/
def spAEq (C : Addr) : Sp := fun vs H Q _ => ∃ (o : Addr) (high : Nat) (ss : List Sh) (y : V), vs = [.ref o, y] ∧ AlpAt C H o high ss ∧ (∀ s ∈ ss, Good high 8 s) ∧
  ((∃ o2 high2 ss2, y = .ref o2 ∧ AlpAt C H o2 high2 ss2 ∧ (∀ s ∈ ss2, Good high2 8 s) ∧ Q (.bl (decide (high = high2 ∧ ss.map (fun s => (s.sg, s.rs)) = ss2.map fun s => (s.sg, s.rs)))) H) ∨
   (((∃ l xs, y = .ref l ∧ H l = some (.lst xs)) ∨ ∃ i, y = .int i) ∧ Q (.bl false) H))
structure TalQ (K : PySem.W.Frag) (C : Addr) : Prop where
  own : PySem.W.kitOne K (.ref C) (.ref C) = some true
  lst : PySem.W.kitOne K (.type "list") (.ref C) = some false
  int : PySem.W.kitOne K (.type "int") (.ref C) = some false
  ha : PySem.W.findIn K (.ref C) "__class__" = some (some (.builtin "object.__class__"))
  hn : PySem.W.specialIn K (.builtin "object.__class__") "__get__" = some (some (.builtin "getset_descriptor.__get__"))
  ht : PySem.W.takesIn K (.builtin "object.__class__") = some true
  hm : PySem.W.mroIn K C (.type "object") = some true
theorem eqv_shs : ∀ ss s2 : List Sh, PyData.eqvAll (ss.map sD) (s2.map sD) = decide (ss.map (fun s => (s.sg, s.rs)) = s2.map fun s => (s.sg, s.rs))
  | [], [] => by simp [PyData.eqvAll]
  | [], _ :: _ => by simp [PyData.eqvAll]
  | _ :: _, [] => by simp [PyData.eqvAll]
  | s :: r, t :: u => by
    rw [List.map_cons, List.map_cons, PyData.eqvAll, eqv_shs r u]
    have e : PyData.eqv (sD s) (sD t) = (decide (s.sg = t.sg) && decide (s.rs = t.rs)) := by
      unfold sD
      rw [PyData.eqv, PyData.eqvAll, PyData.eqvAll, PyData.eqvAll, eqv_pics]
      have : PyData.eqv (.str ⟨#[s.sg]⟩) (.str ⟨#[t.sg]⟩) = decide (s.sg = t.sg) := by
        show ((⟨#[s.sg]⟩ : Str) == ⟨#[t.sg]⟩) = _
        have := SX.S_beq_eq (a := [s.sg]) (b := [t.sg])
        rw [show (⟨#[s.sg]⟩ : Str) = S [s.sg] from rfl, show (⟨#[t.sg]⟩ : Str) = S [t.sg] from rfl, this]
        simp
      rw [this, Bool.and_true]
    rw [e]
    apply Bool.eq_iff_iff.mpr
    simp [and_assoc]
theorem eqv_alp (ss s2 : List Sh) : PyData.eqv (.tuple (ss.map sD)) (.tuple (s2.map sD)) = decide (ss.map (fun s => (s.sg, s.rs)) = s2.map fun s => (s.sg, s.rs)) := by
  rw [← eqv_shs]
  simp [PyData.eqv]
theorem shaped_alp {high wide : Nat} {ss : List Sh} (h : ∀ s ∈ ss, Good high wide s) : SeqAt.shaped (.tuple (ss.map sD)) = true := by
  obtain ⟨h1, h2, _⟩ := lay_sh ss h
  unfold SeqAt.shaped
  rw [Bool.and_eq_true, decide_eq_true_iff]
  refine ⟨by simp [PyData.canLay0, h1], ?_⟩
  simp only [PyData.depth]
  omega
section
variable {P : Program} {w : World} {K : PySem.W.Frag} {mg : Str → Option Value} {base : Heap} {C CA : Addr}
theorem ok_aln {f : Addr} {fd : FuncData} {k : Nat} (F : Fun K "__len__" "Alphabet.__len__" sALn f fd) (T : Tx mg) (TA : Tal K mg CA) : FnOk P w K mg base CX0 (k + 1) f fd ["self"] (spALn CA) := by
  refine F.ok scALn (fun vs H Q E h => ?_) (fun cdv A outer s H vs Q E hr h => ?_)
  · obtain ⟨o, high, ss, rfl, _⟩ := h
    rfl
  · obtain ⟨o, high, ss, rfl, ⟨dx, t, xs, ho, ht, Ss⟩, q⟩ := h
    refine ⟨_, pss_one (ps_ret (pe_callB call_len_seq (by rfl) T.len PySem.boot_len (pa_cons (pe_fld (pv 0) rfl) pa_nil))), ?_⟩
    refine ⟨.ref o, rfl, o, CA, dx, _, .ref t, rfl, ho, TA.cl, TA.nS, aF_shapes _ _, t, xs, rfl, .inr (SqT.of ht), ?_⟩
    rw [Ss.len]
    exact q
theorem ok_asg {f : Addr} {fd : FuncData} {k : Nat} (F : Fun K "signs" "Alphabet.signs" sASg f fd) (TA : Tal K mg CA) (so : mg "sorted" = none) : FnOk P w K mg base CX0 (k + 1) f fd ["self"] (spASg CA) := by
  refine F.ok scASg (fun vs H Q E h => ?_) (fun cdv A outer s H vs Q E hr h => ?_)
  · obtain ⟨o, high, ss, rfl, _⟩ := h
    rfl
  · obtain ⟨o, high, ss, rfl, ⟨dx, t, xs, ho, ht, Ss⟩, l16, q⟩ := h
    have nd := scASg.nd
    have hu : (A.deeper (envOfC "Alphabet.signs" (defScope sASg) s.heap.objs.size f cdv)).units + 64 < cLine := by
      have := hr.un
      omega
    refine ⟨_, pss_one (ps_ret (pe_callB (cr_sortS rfl hu) (by rfl) so (by decide +kernel) (pa_cons (pe_scG (tellS P w) (own := [("sign", 1), ("_", 2)]) (g := gTup K 2 (gCons (gName 1) (gCons (gName 2) gNil))) (tt := tYes) rfl nd (pi_tup (pe_fld (pv 0) rfl)) (blkOk_by (N := ["self", "sign", "_"]) (sc := defScope sASg) (by decide +kernel))
      (fun _ _ _ _ _ => pg_tup rfl (pgs_cons (pg_name (i := 1) nd rfl (Or.inl rfl)) (pgs_cons (pg_name (i := 2) nd rfl (Or.inl rfl)) pgs_nil))) (fun _ _ _ _ _ => pts_nil) (fun _ _ _ _ _ => pv 1)) pa_nil))), ?_⟩
    have lx := Ss.len
    refine ⟨.ref o, rfl, o, CA, dx, _, .ref t, rfl, ho, TA.cl, TA.nS, aF_shapes _ _, t, rfl, ⟨xs, SqT.of ht⟩, fun D hD => scG_tup (T := tellS P w) (K := K) (a := t) (xs := xs) (fun i H2 => Same H H2 ∧ H2 D = some (SetSO w D (allT ((sgT ss).take i)))) ⟨same_upd hD, upd_same⟩ (fun i H2 _ z => SqT.of (z.1 _ _ ht)) ?_ ?_⟩
    · rintro i x H2 hx ⟨sm, h2⟩
      have hi : i < ss.length := by
        rw [← lx]
        exact (List.getElem?_eq_some_iff.mp hx).1
      have es : ss[i]? = some ss[i] := List.getElem?_eq_getElem hi
      obtain ⟨t2, p2, rfl, ht2, _⟩ := Ss.at_ i x _ hx es
      refine ⟨t2, _, rfl, SqT.of (sm _ _ ht2), rfl, _, _, rfl, _, _, rfl, rfl, rfl, _, rfl, _, _, rfl, h2, ?_, same_over sm hD, ?_⟩
      · have := allT_len ((sgT ss).take i)
        rw [List.length_take] at this
        refine Nat.lt_of_le_of_lt (Nat.succ_le_succ (Nat.le_trans this (Nat.min_le_left _ _))) ?_
        show i + 1 < scanBound
        exact Nat.lt_of_lt_of_le (show i + 1 < 18 by omega) (by decide)
      · rw [upd_same, ← allT_snoc]
        congr 3
        have eg : (sgT ss)[i]? = some ⟨#[ss[i].sg]⟩ := by
          unfold sgT
          rw [List.getElem?_map, es]
          rfl
        rw [take_snoc eg]
    · rintro H2 ⟨sm, h2⟩
      have lg : (sgT ss).length = xs.length := by
        unfold sgT
        rw [List.length_map, lx]
      rw [← lg, List.take_length] at h2
      refine ⟨D, _, rfl, h2, fun p ws pm pw hp => ?_⟩
      have s3 := same_upd (o := .lst (ws.map V.str)) hp
      exact q p ws _ (sm.trans s3) (sm.free hp) upd_same pm pw
theorem ok_aeq {f : Addr} {fd : FuncData} {k : Nat} (F : Fun K "__eq__" "Alphabet.__eq__" sAEq f fd) (TA : Tal K mg CA) (TQ : TalQ K CA) (is : mg "isinstance" = none) : FnOk P w K mg base CX0 (k + 1) f fd ["self", "other"] (spAEq CA) := by
  refine F.ok scAEq (fun vs H Q E h => ?_) (fun cdv A outer s H vs Q E hr h => ?_)
  · obtain ⟨o, high, ss, y, rfl, _⟩ := h
    rfl
  · obtain ⟨o, high, ss, y, rfl, ⟨dx, t, xs, ho, ht, Ss⟩, G, q⟩ := h
    have hu : (A.deeper (envOfC "Alphabet.__eq__" (defScope sAEq) s.heap.objs.size f cdv)).units + 64 < cLine := by
      have := hr.un
      omega
    have mC := TA.mC
    refine ⟨_, pss_one (ps_ret (pe_and (pe_callB (call_isiQ (K := K) rfl) (by rfl) is (by decide +kernel) (pa_cons (pv 1) (pa_cons (pe_glob (v := .ref CA) (by rfl) mC rfl) pa_nil))) (pe_and (pe_cmpR op_eq (pe_fld (pv 0) rfl) (pe_fld (pv 1) rfl) (nomark _)) (pe_one (pe_cmpR (op_eqDK (K := K) rfl hu) (pe_fld (pv 0) rfl) (pe_fld (pv 1) rfl) (nomark _)))))), ?_⟩
    rcases q with ⟨o2, high2, ss2, rfl, ⟨dx2, t2, xs2, ho2, ht2, Ss2⟩, G2, q⟩ | ⟨hy, q⟩
    · refine ⟨.ref o2, rfl, .ref o2, .ref CA, .ref CA, .ref CA, true, rfl, .own _, .base (.ins ho2 TA.cl TQ.ha TQ.hn TQ.ht TQ.hm), TQ.own, _, rfl, iteT ⟨.ref o, rfl, o, CA, dx, _, .int high, rfl, ho, TA.cl, TA.nH, aF_high _ _, .ref o2, rfl, o2, CA, dx2, _, .int high2, rfl, ho2, TA.cl, TA.nH, aF_high _ _, rfl, _, rfl, ?_⟩⟩
      by_cases eh : high = high2
      · subst eh
        refine iteY (decide_eq_true rfl) ⟨.ref o, rfl, o, CA, dx, _, .ref t, rfl, ho, TA.cl, TA.nS, aF_shapes _ _, .ref o2, rfl, o2, CA, dx2, _, .ref t2, rfl, ho2, TA.cl, TA.nS, aF_shapes _ _, _, _, .tup (SqT.of ht) (dp_shs Ss), .tup (SqT.of ht2) (dp_shs Ss2), shaped_alp G, shaped_alp G2, ?_⟩
        rw [eqv_alp]
        simpa using q
      · refine iteE (decide_eq_false fun z => eh (by have := V.int.inj z; omega)) ?_
        rw [decide_eq_false fun z => eh z.1] at q
        exact q
    · have ty : ∃ tv, TyX K H y tv ∧ PySem.W.kitOne K tv (.ref CA) = some false := by
        rcases hy with ⟨l, xs', rfl, hl⟩ | ⟨i, rfl⟩
        · exact ⟨_, .base (.lst hl), TQ.lst⟩
        · exact ⟨_, .base (.int i), TQ.int⟩
      obtain ⟨tv, ty, e⟩ := ty
      exact ⟨y, rfl, y, .ref CA, tv, .ref CA, false, rfl, .own _, ty, e, _, rfl, iteF q⟩
end
end Dt
namespace Dt
open PySem PySem.Spec PyProof.Rows L2 L2X
open SX (S)
/-! ### an alphabet of a tuple of shapes -/
def spIPOT : Sp := fun vs H Q _ => ∃ (a l : Addr) (high wide w2 : Nat) (rs : List (List Nat)) (xs : List V) (ss : List Sh), vs = [.ref a, .ref l] ∧ H a = some (.tup (rs.map rv)) ∧ RowsR high wide rs ∧ H l = some (.tup xs) ∧ Shs H xs ss ∧ (∀ s ∈ ss, Good high w2 s) ∧ ss.length ≤ 100 ∧ ∀ H', Same H H' → Q (.bl (decide (rs ∈ ss.map (·.rs)))) H'
def spAIT (C : Addr) : Sp := fun vs H Q _ => ∃ (p dx l : Addr) (high : Nat) (xs : List V) (ss : List Sh), vs = [.ref p, .int high, .ref l] ∧ H p = some (.ins C dx []) ∧ 1 ≤ high ∧ high ≤ 9 ∧ H l = some (.tup xs) ∧ Shs H xs ss ∧ Goods high 8 ss ∧ 0 < ss.length ∧ ss.length ≤ 16 ∧
  ∀ H', AlpAt C H' p high ss → (∀ b o, H b = some o → b ≠ p → H' b = some o) → Q .non H'
section
variable {P : Program} {w : World} {K : PySem.W.Frag} {mg : Str → Option Value} {base : Heap} {C CA : Addr}
theorem ok_ipot {f : Addr} {fd : FuncData} {k : Nat} (F : Fun K "_is_picture_of" "_is_picture_of" sIPO f fd) (an : mg "any" = none) : FnOk P w K mg base CX0 (k + 1) f fd ["picture", "shapes"] spIPOT := by
  refine F.ok scIPO (fun vs H Q E h => ?_) (fun cdv A outer s H vs Q E hr h => ?_)
  · obtain ⟨a, l, _, _, _, _, _, _, rfl, _⟩ := h
    rfl
  · obtain ⟨a, l, high, wide, w2, rs, xs, ss, rfl, ha, R, hl, Ss, Gs, ls, q⟩ := h
    have nd := scIPO.nd
    refine ⟨_, pss_one (ps_ret (pe_callB (cr_any rfl) (by rfl) an (by decide +kernel) (pa_cons (pe_lc (own := [("shape", 2)]) (g := gName 2) (tt := tYes) rfl nd (pi_tup (pv 1)) (blkOk_by (N := ["picture", "shapes", "shape"]) (sc := defScope sIPO) (by decide +kernel)) (fun _ _ _ _ _ => pg_name (i := 2) nd rfl (Or.inl rfl)) (fun _ _ _ _ _ => pts_nil)
        (fun _ _ _ _ _ => pe_cmpR (op_eqDK (K := K) rfl hr.units) (pv 0) (pe_ix (r := rIxT K) ix_tup (pv 2) pe_int (fun _ _ => rfl)) (nomark _))) pa_nil))), ?_⟩
    refine ⟨.ref l, rfl, l, rfl, ⟨_, SqT.of hl⟩, fun D hD => lc_tup (K := K) (a := l) (xs := xs) (fun j H2 => Same H H2 ∧ H2 D = some (.lst (((ss.take j).map fun s => decide (rs = s.rs)).map V.bl))) ⟨same_upd hD, upd_same⟩ (fun j H2 _ z => SqT.of (z.1 _ _ hl)) ?_ ?_⟩
    · rintro j x H2 hj ⟨sm, h2⟩
      have hj' : j < ss.length := by
        rw [← Ss.len]
        exact (List.getElem?_eq_some_iff.mp hj).1
      have es : ss[j]? = some ss[j] := List.getElem?_eq_getElem hj'
      generalize ss[j] = s2 at es
      obtain ⟨t2, p2, rfl, ht2, hp2⟩ := Ss.at_ j x s2 hj es
      have g2 := Gs s2 (List.mem_of_getElem? es)
      refine ⟨rfl, .ref a, rfl, .ref t2, rfl, t2, _, 1, .ref p2, rfl, rfl, SqT.of (sm _ _ ht2), rfl, .tuple (rs.map rD), .tuple (s2.rs.map rD), .tup (SqT.of (sm _ _ ha)) (dp_rows _), .tup (SqT.of (sm _ _ hp2)) (dp_rows _), shaped_rows R, shaped_rows g2.pic.rows, ?_⟩
      rw [eqv_pics]
      refine ⟨_, h2, ?_, same_over sm hD, ?_⟩
      · rw [List.length_map, List.length_map, List.length_take]
        exact small1000 (by omega)
      · rw [upd_same, take_snoc es, List.map_append, List.map_append]
        rfl
    · rintro H2 ⟨sm, h2⟩
      rw [Ss.len, List.take_length] at h2
      refine ⟨D, _, rfl, SqL.of h2, ?_⟩
      have e : ((ss.map fun s => decide (rs = s.rs)).any id) = decide (rs ∈ ss.map (·.rs)) := by
        apply Bool.eq_iff_iff.mpr
        rw [decide_eq_true_iff, List.any_eq_true]
        constructor
        · rintro ⟨b, hb, e⟩
          obtain ⟨s, hs, rfl⟩ := List.mem_map.mp hb
          have : rs = s.rs := of_decide_eq_true e
          exact List.mem_map.mpr ⟨s, hs, this.symm⟩
        · intro h
          obtain ⟨s, hs, e⟩ := List.mem_map.mp h
          exact ⟨_, List.mem_map.mpr ⟨s, hs, rfl⟩, decide_eq_true e.symm⟩
      rw [e]
      exact q H2 sm
theorem ok_ait {f : Addr} {fd : FuncData} {k : Nat} (F : Fun K "__init__" "Alphabet.__init__" sAI f fd) (T : Tx mg) (TA : Tal K mg CA) (en : mg "enumerate" = none) (mh : ∃ t, mg "MOST_HIGH" = some (.int 9 t)) (ms : ∃ t, mg "MOST_SHAPES" = some (.int 16 t))
    (GB : Pm P w K mg base CX0 (k + 1) "is_between" ["thing", "least", "most"] (spBetw K)) (GL : Pm P w K mg base CX0 (k + 1) "is_list" ["thing"] (spIsList K)) (GS : Pm P w K mg base CX0 (k + 1) "_is_shape" ["thing", "high"] spIS) (GO : Pm P w K mg base CX0 (k + 1) "_is_picture_of" ["picture", "shapes"] spIPOT) :
    FnOk P w K mg base CX0 (k + 2) f fd ["self", "high", "shapes"] (spAIT CA) := by
  obtain ⟨fB, fdB, GB, mB, kB, bB⟩ := GB.ex
  obtain ⟨fL, fdL, GL, mL, kL, bL⟩ := GL.ex
  obtain ⟨fS, fdS, GS, mS, kS, bS⟩ := GS.ex
  obtain ⟨fO, fdO, GO, mO, kO, bO⟩ := GO.ex
  obtain ⟨th, hmh⟩ := mh
  obtain ⟨ts, hms⟩ := ms
  refine F.ok scAI (fun vs H Q E h => ?_) (fun cdv A outer s H vs Q E hr h => ?_)
  · obtain ⟨p, dx, l, high, xs, ss, rfl, _⟩ := h
    rfl
  · obtain ⟨p, dx, l, high, xs, ss, rfl, hp, h0, h1, hl, Ss, Gs, l0, l1, q⟩ := h
    have nd := scAI.nd
    refine ⟨_, pss_cons (ps_if (pt_not (pt_val (pe_call GB hr (by rfl) mB kB bB .nil pass0 (pa_cons (pv 1) (pa_cons pe_int (pa_cons (pe_glob (v := .int 9) (by rfl) hmh ⟨_, rfl⟩) pa_nil)))))) pss_never pss_nil)
      (pss_cons (ps_if (PW.pt (pw_or (pt_not (pt_val (pe_call GL hr (by rfl) mL kL bL .nil pass0 (pa_cons (pv 2) pa_nil)))) (pw_or1 (pt_cmpR op_eq (pe_callB call_len_seq (by rfl) T.len PySem.boot_len (pa_cons (pv 2) pa_nil)) pe_int (nomark _))))) pss_never pss_nil)
      (pss_cons (ps_for PassesOwn.never rfl (pi_enumG (by rfl) en (pa_cons (pv 2) pa_nil)) (pg_tup rfl (pgs_cons (pg_name (i := 3) nd rfl (Or.inl rfl)) (pgs_cons (pg_name (i := 4) nd rfl (Or.inl rfl)) pgs_nil)))
        (pss_one (ps_if (PW.pt (pw_or (pt_cmpR op_eq (pv 3) (pe_glob (v := .int 16) (by rfl) hms ⟨_, rfl⟩) (nomark _)) (pw_or (pt_not (pt_val (pe_call GS hr (by rfl) mS kS bS .nil pass0 (pa_cons (pv 4) (pa_cons (pv 1) pa_nil))))) (pw_or1 (pt_val (pe_call GO hr (by rfl) mO kO bO .nil pass0 (pa_cons (pe_ix (r := rIxT K) ix_tup (pv 4) pe_int (fun _ _ => rfl)) (pa_cons (pe_slice sl_tup (pv 2) po_none (po_some (pv 3))) pa_nil)))))))) pss_never pss_nil)))
      (pss_cons (ps_fld (pv 0) (pv 1) rfl)
      (pss_one (ps_fld (pv 0) (pe_callTy call_tuple_of (by rfl) T.tuple (by decide +kernel) (pa_cons (pv 2) pa_nil)) rfl))))), ?_⟩
    refine ⟨.int high, rfl, .int high, 1, 9, rfl, kt_int _, _, rfl, ?_⟩
    have eb : betw (.int high) 1 9 = true := by
      rw [betw_int, decide_eq_true (by omega), decide_eq_true (by omega)]
      rfl
    rw [eb]
    refine iteF ⟨.ref l, rfl, .ref l, "tuple", rfl, .tup (SqT.of hl), rfl, fun H1 s1 => ⟨_, rfl, iteF ?_⟩⟩
    have lx : xs.length = ss.length := Ss.len
    refine ⟨.ref l, rfl, l, xs, rfl, .inr (SqT.of (s1 _ _ hl)), rfl, _, rfl, ?_⟩
    have e0 : decide (V.int (xs.length : Int) = V.int 0) = false := decide_eq_false fun e => by
      have := V.int.inj e
      omega
    rw [e0]
    refine iteF ⟨.ref l, rfl, .tup l, xs, rfl, SqT.of (s1 _ _ hl), for_enumG (K := K) (A := .tup l) (xs := xs) (fun i σ H2 => ∃ y3 y4, σ = [some (.ref p), some (.int high), some (.ref l), y3, y4] ∧ Same H H2) ⟨none, none, rfl, s1⟩ (fun i σ H2 _ z => by
      obtain ⟨_, _, _, sm⟩ := z
      exact SqT.of (sm _ _ hl)) ?_ ?_⟩
    · rintro i x σ H2 T' hx ⟨y3, y4, rfl, sm⟩ hT
      have hi : i < ss.length := by
        rw [← lx]
        exact (List.getElem?_eq_some_iff.mp hx).1
      have es : ss[i]? = some ss[i] := List.getElem?_eq_getElem hi
      have gi := Gs.all ss[i] (List.getElem_mem hi)
      have sT := same_upd (o := .tup [V.int (i : Nat), x]) hT
      have s2 := sm.trans sT
      have shi := (Ss.same s2).at_ i x _ hx es
      refine ⟨T', _, rfl, SqT.of upd_same, rfl, _, _, rfl, _, _, rfl, rfl, ?_⟩
      refine ⟨.int i, rfl, rfl, _, rfl, ?_⟩
      have e16 : decide (V.int (i : Int) = V.int 16) = false := decide_eq_false fun e => by
        have := V.int.inj e
        omega
      rw [e16]
      refine iteF ⟨x, rfl, .int high, rfl, x, high, ss[i], rfl, shi, gi, fun H3 s3 => ⟨_, rfl, iteF ?_⟩⟩
      obtain ⟨t, p2, rfl, ht, hp2⟩ := shi
      have s23 := s2.trans s3
      refine ⟨.ref t, rfl, t, _, 1, .ref p2, rfl, rfl, SqT.of (s3 _ _ ht), rfl, .ref l, rfl, .int i, rfl, i, rfl, l, xs, rfl, SqT.of (s23 _ _ hl), (fun z => by
        have z2 := z.2
        rw [HT.sIx_nat] at z2
        omega), fun l2 hl2 => ?_⟩
      have s4 := same_upd (o := .tup (cutV xs none (some (i : Int)))) hl2
      have ecut : cutV xs none (some (i : Int)) = xs.take i := by
        unfold cutV
        rw [HT.sIx_nat]
        show (xs.drop 0).take (min i xs.length - 0) = _
        rw [List.drop_zero, Nat.sub_zero, Nat.min_eq_left (by omega)]
      have s234 := s23.trans s4
      have hsub : Shs (upd H3 l2 (.tup (cutV xs none (some (i : Int))))) (xs.take i) (ss.take i) := by
        have S4 := Ss.same s234
        refine ⟨by rw [List.length_take, List.length_take, S4.len], fun j y s' hy hs => ?_⟩
        rw [List.getElem?_take] at hy hs
        split at hy
        · rename_i hlt
          rw [if_pos hlt] at hs
          exact S4.at_ j y s' hy hs
        · cases hy
      refine ⟨p2, l2, high, ss[i].w, 8, ss[i].rs, xs.take i, ss.take i, rfl, s4 _ _ (s3 _ _ hp2), gi.pic.rows, by rw [upd_same, ecut], hsub, fun s' hs => Gs.all s' (List.mem_of_mem_take hs), ?_, fun H5 s5 => ⟨_, rfl, ?_⟩⟩
      · rw [List.length_take]
        omega
      have e5 : decide (ss[i].rs ∈ (ss.take i).map (·.rs)) = false := by
        refine decide_eq_false fun hm => ?_
        have hnd := Gs.nd
        rw [List.map_take] at hm
        obtain ⟨j, hj⟩ := List.mem_iff_getElem?.mp hm
        rw [List.getElem?_take] at hj
        split at hj
        · rename_i hlt
          have hi2 : (ss.map (·.rs))[i]? = some ss[i].rs := by rw [List.getElem?_map, es]; rfl
          obtain ⟨q1, q2⟩ := List.getElem?_eq_some_iff.mp hj
          obtain ⟨q3, q4⟩ := List.getElem?_eq_some_iff.mp hi2
          have := (List.getElem_inj hnd).mp (q2.trans q4.symm)
          omega
        · cases hj
      rw [e5]
      exact iteF ⟨_, _, rfl, s234.trans s5⟩
    · rintro σ H2 ⟨y3, y4, rfl, sm⟩
      have hp2 := sm _ _ hp
      refine ⟨.int high, rfl, .ref p, rfl, p, CA, dx, [], rfl, hp2, TA.cl, TA.nH, (by show 0 < 1000; decide), ?_⟩
      have npl : l ≠ p := ne_of hl hp (by intro z; cases z)
      have hl2 : (upd H2 p (.ins CA dx (putF "_high" (.int high) []))) l = some (.tup xs) := by
        rw [upd_ne npl]
        exact sm _ _ hl
      refine ⟨.ref l, rfl, l, xs, rfl, .inr ⟨SqT.of hl2, .ref p, rfl, p, CA, dx, putF "_high" (.int high) [], rfl, upd_same, TA.cl, TA.nS, (by show 1 < 1000; decide), ?_⟩⟩
      have put : ∀ (b : Addr) (o : HO), H b = some o → b ≠ p → (upd (upd H2 p (.ins CA dx (putF "_high" (.int high) []))) p (.ins CA dx (aF high l))) b = some o := fun b o hb n1 => by
        rw [upd_ne n1, upd_ne n1]
        exact sm _ _ hb
      refine q _ ⟨dx, l, xs, upd_same, put _ _ hl npl, Ss.len, fun i x s' hx hs => ?_⟩ fun b o e hb => put _ _ e hb
      obtain ⟨t, p2, rfl, ht, hp2'⟩ := Ss.at_ i x s' hx hs
      exact ⟨t, p2, rfl, put _ _ ht (ne_of ht hp (by intro z; cases z)), put _ _ hp2' (ne_of hp2' hp (by intro z; cases z))⟩
end
end Dt
namespace Dt
open PySem PySem.Spec PyProof.Rows L2 L2X
open SX (S)
/-! ### other shapes than these -/
def keyS (s : Sh) : Nat × List (List Nat) := (s.sg, s.rs)
structure Alt (high : Nat) (ss s2 : List Sh) : Prop where
  gd : Goods high 8 s2
  pos : 0 < s2.length
  l16 : s2.length ≤ 16
  ne : s2.map keyS ≠ ss.map keyS
theorem Shs.app {H : Hp} {xs ys : List V} {ss ts : List Sh} (a : Shs H xs ss) (b : Shs H ys ts) : Shs H (xs ++ ys) (ss ++ ts) := by
  refine ⟨by rw [List.length_append, List.length_append, a.len, b.len], fun i x s hx hs => ?_⟩
  by_cases hi : i < xs.length
  · rw [List.getElem?_append_left hi] at hx
    rw [List.getElem?_append_left (by rw [← a.len]; exact hi)] at hs
    exact a.at_ i x s hx hs
  · rw [List.getElem?_append_right (by omega)] at hx
    rw [List.getElem?_append_right (by rw [← a.len]; omega), ← a.len] at hs
    exact b.at_ _ x s hx hs
theorem Shs.takeN {H : Hp} {xs : List V} {ss : List Sh} (a : Shs H xs ss) (n : Nat) : Shs H (xs.take n) (ss.take n) := by
  refine ⟨by rw [List.length_take, List.length_take, a.len], fun i x s hx hs => ?_⟩
  rw [List.getElem?_take] at hx hs
  by_cases h : i < n
  · rw [if_pos h] at hx hs
    exact a.at_ i x s hx hs
  · rw [if_neg h] at hx
    cases hx
theorem Shs.dropN {H : Hp} {xs : List V} {ss : List Sh} (a : Shs H xs ss) (n : Nat) : Shs H (xs.drop n) (ss.drop n) := by
  refine ⟨by rw [List.length_drop, List.length_drop, a.len], fun i x s hx hs => ?_⟩
  rw [List.getElem?_drop] at hx hs
  exact a.at_ _ x s hx hs
theorem Shs.rev {H : Hp} {xs : List V} {ss : List Sh} (a : Shs H xs ss) : Shs H xs.reverse ss.reverse := by
  refine ⟨by rw [List.length_reverse, List.length_reverse, a.len], fun i x s hx hs => ?_⟩
  have hi := (List.getElem?_eq_some_iff.mp hx).1
  rw [List.length_reverse] at hi
  rw [List.getElem?_reverse hi] at hx
  rw [List.getElem?_reverse (by rw [← a.len]; exact hi), ← a.len] at hs
  exact a.at_ _ x s hx hs
theorem Shs.one {H : Hp} {x : V} {s : Sh} (h : ShAt H x s) : Shs H [x] [s] := ⟨rfl, fun i y t hy ht => by
  match i, hy, ht with
  | 0, hy, ht =>
    cases hy
    cases ht
    exact h
  | i + 1, hy, _ => exact nomatch hy⟩
section
variable {high i : Nat} {ss : List Sh} {s t : Sh}
theorem mem_cut {x : Sh} (h : x ∈ ss.take i ++ ss.drop (i + 1)) : x ∈ ss := by
  rcases List.mem_append.mp h with z | z
  · exact List.mem_of_mem_take z
  · exact List.mem_of_mem_drop z
theorem cut_nd (g : Goods high 8 ss) : ((ss.take i ++ ss.drop (i + 1)).map (·.rs)).Nodup := by
  rw [← List.eraseIdx_eq_take_drop_succ]
  exact ((List.eraseIdx_sublist ss i).map (·.rs)).nodup g.nd
theorem cut_len (h : i < ss.length) : (ss.take i ++ ss.drop (i + 1)).length = ss.length - 1 := by
  rw [List.length_append, List.length_take, List.length_drop]
  omega
theorem put_len (h : i < ss.length) : ((ss.take i ++ [t]) ++ ss.drop (i + 1)).length = ss.length := by
  rw [List.length_append, List.length_append, List.length_take, List.length_drop]
  show min i ss.length + 1 + _ = _
  omega
theorem put_at (h : i < ss.length) : ((ss.take i ++ [t]) ++ ss.drop (i + 1))[i]? = some t := by
  have l : (ss.take i).length = i := by
    rw [List.length_take]
    omega
  rw [List.getElem?_append_left (by rw [List.length_append, l]; show i < i + 1; omega), List.getElem?_append_right (by omega), l, Nat.sub_self]
  rfl
theorem alt_put (g : Goods high 8 ss) (l16 : ss.length ≤ 16) (e : ss[i]? = some s) (gt : Good high 8 t) (nw : t.rs = s.rs ∨ t.rs ∉ ss.map (·.rs)) (ne : keyS t ≠ keyS s) : Alt high ss ((ss.take i ++ [t]) ++ ss.drop (i + 1)) := by
  have hi := (List.getElem?_eq_some_iff.mp e).1
  refine ⟨⟨fun x hx => ?_, ?_⟩, by rw [put_len hi]; omega, by rw [put_len hi]; exact l16, fun z => ?_⟩
  · rcases List.mem_append.mp hx with hx | hx
    · rcases List.mem_append.mp hx with hx | hx
      · exact g.all x (List.mem_of_mem_take hx)
      · rw [List.mem_singleton.mp hx]
        exact gt
    · exact g.all x (List.mem_of_mem_drop hx)
  · have p : ((ss.take i ++ [t]) ++ ss.drop (i + 1)).Perm (t :: (ss.take i ++ ss.drop (i + 1))) := by
      rw [List.append_assoc]
      exact List.perm_middle
    rw [(p.map (·.rs)).nodup_iff, List.map_cons, List.nodup_cons]
    refine ⟨fun hm => ?_, cut_nd g⟩
    rcases nw with nw | nw
    · -- the same picture stands at i alone
      have p2 : (s :: (ss.take i ++ ss.drop (i + 1))).Perm ss := by
        have q : ss = (ss.take i ++ [s]) ++ ss.drop (i + 1) := by
          rw [← take_snoc e, List.take_append_drop]
        have r : ((ss.take i ++ [s]) ++ ss.drop (i + 1)).Perm (s :: (ss.take i ++ ss.drop (i + 1))) := by
          rw [List.append_assoc]
          exact List.perm_middle
        rw [← q] at r
        exact r.symm
      have nd := (p2.map (·.rs)).nodup_iff.mpr g.nd
      rw [List.map_cons, List.nodup_cons] at nd
      exact nd.1 (by rw [← nw]; exact hm)
    · obtain ⟨x, hx, ex⟩ := List.mem_map.mp hm
      exact nw (List.mem_map.mpr ⟨x, mem_cut hx, ex⟩)
  · have q := congrArg (fun l => l[i]?) z
    simp only [List.getElem?_map, put_at hi, e, Option.map_some] at q
    exact ne (Option.some.inj q)
theorem alt_cut (g : Goods high 8 ss) (l16 : ss.length ≤ 16) (hi : i < ss.length) (l2 : 1 < ss.length) : Alt high ss (ss.take i ++ ss.drop (i + 1)) := by
  refine ⟨⟨fun x hx => g.all x (mem_cut hx), cut_nd g⟩, by rw [cut_len hi]; omega, by rw [cut_len hi]; omega, fun z => ?_⟩
  have q := congrArg List.length z
  rw [List.length_map, List.length_map, cut_len hi] at q
  omega
theorem alt_rev (g : Goods high 8 ss) (l16 : ss.length ≤ 16) (l2 : 1 < ss.length) : Alt high ss ss.reverse := by
  refine ⟨⟨fun x hx => g.all x (List.mem_reverse.mp hx), by rw [List.map_reverse]; exact (List.reverse_perm _).nodup_iff.mpr g.nd⟩, by rw [List.length_reverse]; omega, by rw [List.length_reverse]; exact l16, fun z => ?_⟩
  have e0 : ss[0]? = some (ss[0]'(by omega)) := List.getElem?_eq_getElem _
  have e1 : ss[ss.length - 1]? = some (ss[ss.length - 1]'(by omega)) := List.getElem?_eq_getElem _
  generalize ss[0]'(by omega) = x at e0
  generalize ss[ss.length - 1]'(by omega) = y at e1
  have q := congrArg (fun l => l[0]?) z
  simp only [List.getElem?_map] at q
  rw [List.getElem?_reverse (by omega), Nat.sub_zero, e1, e0] at q
  have q := Option.some.inj q
  have er : y.rs = x.rs := congrArg Prod.snd q
  have h0 : (ss.map (·.rs))[0]? = some x.rs := by rw [List.getElem?_map, e0]; rfl
  have h1 : (ss.map (·.rs))[ss.length - 1]? = some x.rs := by rw [List.getElem?_map, e1]; exact congrArg some er
  have := (List.getElem?_inj (by rw [List.length_map]; omega) g.nd).mp (h0.trans h1.symm)
  omega
end
end Dt
namespace Dt
open PySem PySem.Spec PyProof.Rows L2 L2X
open SX (S)
/-! ### other shapes, drawn -/
abbrev sLo : Stmt := topS 48
abbrev nLo : List Str := ["draw", "high", "shapes", "at", "sign", "rows", "near", "some", "past", "other"]
theorem scLo : FnScope nLo ["draw", "high", "shapes"] (defScope sLo) := ⟨rfl, rfl, rfl, by decide +kernel, rfl, by decide +kernel, by decide +kernel⟩
def spLo : Sp := fun vs H Q _ => ∃ (d g c l high : Nat) (xs : List V) (ss : List Sh), vs = [.ref d, .int high, .ref l] ∧ Dr H d g c ∧ l ≠ d ∧ l ≠ g ∧ H l = some (.lst xs) ∧ Shs H xs ss ∧ GoodsQ high 8 ss ∧ 1 ≤ high ∧ high ≤ 9 ∧ 0 < ss.length ∧ ss.length ≤ 16 ∧
  ∀ (m : Addr) (ys : List V) (s2 : List Sh) (H' : Hp), H' m = some (.lst ys) → Shs H' ys s2 → Alt high ss s2 → Dr H' d g c → Dn d g H H' → Q (.ref m) H'
/-- lists of other shapes -/
def AltL (H : Hp) (d g : Addr) (high : Nat) (ss : List Sh) (x : V) : Prop := ∃ a ys s2, x = .ref a ∧ a ≠ d ∧ a ≠ g ∧ H a = some (.lst ys) ∧ Shs H ys s2 ∧ Alt high ss s2
theorem AltL.same {H H' : Hp} {d g : Addr} {high : Nat} {ss : List Sh} {x : V} (h : AltL H d g high ss x) (s : Same H H') : AltL H' d g high ss x :=
  let ⟨a, ys, s2, e, n1, n2, h1, h2, h3⟩ := h; ⟨a, ys, s2, e, n1, n2, s _ _ h1, h2.same s, h3⟩
theorem AltL.dn {H H' : Hp} {d g c : Addr} {high : Nat} {ss : List Sh} {x : V} (h : AltL H d g high ss x) (D : Dr H d g c) (s : Dn d g H H') : AltL H' d g high ss x :=
  let ⟨a, ys, s2, e, n1, n2, h1, h2, h3⟩ := h; ⟨a, ys, s2, e, n1, n2, s _ _ h1 n1 n2, h2.dn D s, h3⟩
theorem AltL.updl {H : Hp} {d g m : Addr} {high : Nat} {ss : List Sh} {x : V} {zs ws : List V} (h : AltL H d g high ss x) (hm : H m = some (.lst zs)) (n : x ≠ .ref m) : AltL (upd H m (.lst ws)) d g high ss x := by
  obtain ⟨a, ys, s2, rfl, n1, n2, h1, h2, h3⟩ := h
  exact ⟨a, ys, s2, rfl, n1, n2, by rw [upd_ne (fun z => n (by rw [z]))]; exact h1, h2.updl hm, h3⟩
section
variable {P : Program} {w : World} {K : PySem.W.Frag} {mg : Str → Option Value} {base : Heap}
theorem ok_lo {f : Addr} {fd : FuncData} {k : Nat} (F : Fun K "_law_otherwise" "_law_otherwise" sLo f fd) (T : Tx mg) (GN : Pm P w K mg base CX0 (k + 3) "_law_next" ["draw", "below"] spNext) (GK : Pm P w K mg base CX0 (k + 3) "_law_pick" ["draw", "some"] (spPick K)) (GR : Pm P w K mg base CX0 (k + 3) "_law_near" ["draw", "rows"] spNe1) : FnOk P w K mg base CX0 (k + 4) f fd ["draw", "high", "shapes"] spLo := by
  obtain ⟨fN, fdN, GN, mN, kN, bN⟩ := GN.ex
  obtain ⟨fK, fdK, GK, mK, kK, bK⟩ := GK.ex
  obtain ⟨fR, fdR, GR, mR, kR, bR⟩ := GR.ex
  refine F.ok scLo (fun vs H Q E h => ?_) (fun cdv A outer s H vs Q E hr h => ?_)
  · obtain ⟨_, _, _, _, _, _, _, rfl, _⟩ := h
    rfl
  · obtain ⟨d, g, c, l, high, xs, ss, rfl, D, l1, l2, hl, Ss, G, h1, h9, p0, l16, q⟩ := h
    have nd := scLo.nd
    have hu65 : (A.deeper (envOfC "_law_otherwise" (defScope sLo) s.heap.objs.size f cdv)).units + 65 < cLine := by
      have := hr.un
      omega
    refine ⟨_, C8.pss_cut (ps_set (i := 3) nd rfl (.inl rfl) (pe_call GN hr (by rfl) mN kN bN .nil pass0 (pa_cons (pv 0) (pa_cons (pe_callB call_len_seq (by rfl) T.len PySem.boot_len (pa_cons (pv 2) pa_nil)) pa_nil))))
      (C8.pss_cut (ps_asg (pe_ix (r := rIxL K) ix_list (pv 2) (pv 3) (fun _ _ => rfl)) (pg_tup rfl (pgs_cons (pg_name (i := 4) nd rfl (Or.inl rfl)) (pgs_cons (pg_name (i := 5) nd rfl (Or.inl rfl)) pgs_nil))))
      (C8.pss_cut (ps_set (i := 6) nd rfl (.inl rfl) (pe_call GR hr (by rfl) mR kR bR .nil pass0 (pa_cons (pv 0) (pa_cons (pv 5) pa_nil))))
      (C8.pss_cut (ps_set (i := 7) nd rfl (.inl rfl) (pe_lst (pa_cons (pe_op op_cat (pe_op op_cat (pe_slice sl_list (pv 2) po_none (po_some (pv 3))) (pe_lst (pa_cons (pe_tup (pa_cons pe_str (pa_cons (pv 5) pa_nil))) pa_nil))) (pe_slice sl_list (pv 2) (po_some (pe_op op_add (pv 3) pe_int)) po_none)) pa_nil)))
      (C8.pss_cut (ps_if (pt_cmpR op_gt (pe_callB call_len_seq (by rfl) T.len PySem.boot_len (pa_cons (pv 2) pa_nil)) pe_int (nomark _)) (pss_one (ps_set (i := 7) nd rfl (.inl rfl) (pe_op op_cat (pv 7) (pe_lst (pa_cons (pe_op op_cat (pe_slice sl_list (pv 2) po_none (po_some (pv 3))) (pe_slice sl_list (pv 2) (po_some (pe_op op_add (pv 3) pe_int)) po_none)) (pa_cons (pe_revL (pv 2)) pa_nil)))))) pss_nil)
      (C8.pss_cut (ps_if (pt_cmpR (op_notInD hu65) (pv 6) (pe_lc (own := [("past", 8), ("other", 9)]) (g := gTup K 2 (gCons (gName 8) (gCons (gName 9) gNil))) (tt := tYes) rfl nd (pi_list (pv 2)) (blkOk_by (N := nLo) (sc := defScope sLo) (by decide +kernel))
              (fun _ _ _ _ _ => pg_tup rfl (pgs_cons (pg_name (i := 8) nd rfl (Or.inl rfl)) (pgs_cons (pg_name (i := 9) nd rfl (Or.inl rfl)) pgs_nil))) (fun _ _ _ _ _ => pts_nil) (fun _ _ _ _ _ => pv 9)) (by with_unfolding_all rfl))
            (pss_one (ps_expr (pe_bm PySem.F.plainAttrs_list PySem.F.slot_list_append PySem.F.type_list_append mt_append (pv 7) (pa_cons (pe_op op_cat (pe_op op_cat (pe_slice sl_list (pv 2) po_none (po_some (pv 3))) (pe_lst (pa_cons (pe_tup (pa_cons (pv 4) (pa_cons (pv 6) pa_nil))) pa_nil))) (pe_slice sl_list (pv 2) (po_some (pe_op op_add (pv 3) pe_int)) po_none)) pa_nil)))) pss_nil)
      (pss_one (ps_ret (pe_call GK hr (by rfl) mK kK bK .nil pass0 (pa_cons (pv 0) (pa_cons (pv 7) pa_nil)))))))))), ?_⟩
    have lx := Ss.len
    -- where
    refine ⟨fun σ' H' => ∃ i : Nat, σ' = [some (.ref d), some (.int high), some (.ref l), some (.int i), none, none, none, none, none, none] ∧ i < ss.length ∧ Dr H' d g c ∧ Dn d g H H', ?_, ?_⟩
    · refine ⟨.ref d, rfl, .ref l, rfl, l, xs, rfl, .inl (SqL.of hl), d, g, c, (xs.length : Int), rfl, D, by omega, by omega, fun a H1 a0 a1 D1 dn1 => ⟨a.toNat, ?_, by omega, D1, dn1⟩⟩
      rw [show ((a.toNat : Nat) : Int) = a by omega]
      rfl
    rintro _ H1 ⟨i, rfl, hi, D1, dn1⟩
    have es : ss[i]? = some ss[i] := List.getElem?_eq_getElem hi
    generalize ss[i] = sh at es
    have gs := G.all sh (List.mem_of_getElem? es)
    have ex : xs[i]? = some (xs[i]'(by omega)) := List.getElem?_eq_getElem (by omega)
    generalize xs[i]'(by omega) = xv at ex
    have hl1 := dn1 _ _ hl l1 l2
    have S1 := Ss.dn D dn1
    -- the sign and the picture there
    refine ⟨fun σ' H' => ∃ p : Addr, σ' = [some (.ref d), some (.int high), some (.ref l), some (.int i), some (ch sh.sg), some (.ref p), none, none, none, none] ∧ H' = H1 ∧ H1 p = some (.tup (sh.rs.map rv)), ?_, ?_⟩
    · obtain ⟨t, p, rfl, ht, hp⟩ := S1.at_ i xv sh ex es
      exact ⟨.ref l, rfl, .int i, rfl, l, xs, i, .ref t, rfl, rfl, SqL.of hl1, atI_nat ex, t, _, rfl, SqT.of ht, rfl, _, _, rfl, _, _, rfl, rfl, p, rfl, rfl, hp⟩
    rintro _ H1' ⟨p, rfl, e, hp⟩
    subst e
    have D1 : Dr H1' d g c := D1
    -- a near one
    refine ⟨fun σ' H' => ∃ (pn : Addr) (nrs : List (List Nat)), σ' = [some (.ref d), some (.int high), some (.ref l), some (.int i), some (ch sh.sg), some (.ref p), some (.ref pn), none, none, none] ∧ PicR high sh.w nrs ∧ Dot nrs ∧ H' pn = some (.tup (nrs.map rv)) ∧ Dr H' d g c ∧ Dn d g H1' H', ?_, ?_⟩
    · exact ⟨.ref d, rfl, .ref p, rfl, d, g, c, p, high, sh.w, sh.rs, rfl, D1, hp, gs.pic, gs.dot, fun pn nrs H2 prn dotn hpn D2 dn2 => ⟨pn, nrs, rfl, prn, dotn, hpn, D2, dn2⟩⟩
    rintro _ H2 ⟨pn, nrs, rfl, prn, dotn, hpn, D2, dn2⟩
    have hl2 := dn2 _ _ hl1 l1 l2
    have S2 := S1.dn D1 dn2
    have hp2 := dn2.tup D1 hp
    have dn02 := dn1.trans dn2
    have lq : xs.length ≤ 16 := by omega
    have small : ∀ n : Nat, n ≤ 100 → n ≤ sizeLine := fun n hn => Nat.le_of_lt (small1000 (by omega))
    have e1 : ((i : Int) + 1) = ((i + 1 : Nat) : Int) := by omega
    have lt : (xs.take i).length ≤ 16 := by
      rw [List.length_take]
      omega
    have ld : (xs.drop (i + 1)).length ≤ 16 := by
      rw [List.length_drop]
      omega
    -- another sign
    refine ⟨fun σ' H' => ∃ (m : Addr) (ys : List V), σ' = [some (.ref d), some (.int high), some (.ref l), some (.int i), some (ch sh.sg), some (.ref p), some (.ref pn), some (.ref m), none, none] ∧ H2 m = none ∧ H' m = some (.lst ys) ∧ (∀ y ∈ ys, AltL H' d g high ss y ∧ y ≠ .ref m) ∧ 1 ≤ ys.length ∧ ys.length ≤ 1 ∧ Same H2 H', ?_, ?_⟩
    · refine ⟨.ref l, rfl, .int i, rfl, i, rfl, l, xs, rfl, SqL.of hl2, fun a1 ha1 => ?_⟩
      rw [cutV_to]
      have s1 := same_upd (o := .lst (xs.take i)) ha1
      refine ⟨.ref p, rfl, by show 2 ≤ sizeLine; decide, fun t ht => ⟨by show 1 ≤ sizeLine; decide, fun a2 ha2 => ?_⟩⟩
      have eq : V.str (Str.ofString "q") = ch 113 := by rfl
      have s2 := same_upd (o := .tup [V.str (Str.ofString "q"), V.ref p]) ht
      have s3 := same_upd (o := .lst [V.ref t]) ha2
      refine ⟨a1, a2, _, _, rfl, rfl, s3 _ _ (s2 _ _ upd_same), upd_same, small _ (by show (xs.take i).length + 1 ≤ 100; omega), fun a3 ha3 => ?_⟩
      have s4 := same_upd (o := .lst (xs.take i ++ [V.ref t])) ha3
      have s14 := s1.trans (s2.trans (s3.trans s4))
      refine ⟨.ref l, rfl, .int i, rfl, _, 1, rfl, rfl, ?_⟩
      dsimp only [tNoPart]
      refine ⟨_, rfl, l, xs, rfl, SqL.of (s14 _ _ hl2), fun a4 ha4 => ?_⟩
      rw [e1, cutV_from]
      have s5 := same_upd (o := .lst (xs.drop (i + 1))) ha4
      refine ⟨a3, a4, _, _, rfl, rfl, s5 _ _ upd_same, upd_same, small _ (by rw [List.length_append]; show (xs.take i).length + 1 + (xs.drop (i + 1)).length ≤ 100; omega), fun a5 ha5 => ?_⟩
      have s6 := same_upd (o := .lst ((xs.take i ++ [V.ref t]) ++ xs.drop (i + 1))) ha5
      refine ⟨by show 1 ≤ sizeLine; decide, fun m hm => ?_⟩
      have s7 := same_upd (o := .lst [V.ref a5]) hm
      have s17 := s14.trans (s5.trans (s6.trans s7))
      have n5 := (D2.same (s14.trans s5)).new ha5
      refine ⟨m, _, rfl, (s14.trans (s5.trans s6)).free hm, upd_same, fun y hy => ?_, Nat.le_refl _, Nat.le_refl _, s17⟩
      rw [List.mem_singleton.mp hy]
      have S7 := S2.same s17
      refine ⟨⟨a5, _, (ss.take i ++ [⟨113, sh.w, sh.rs⟩]) ++ ss.drop (i + 1), rfl, n5.1, n5.2, s7 _ _ upd_same, ((S7.takeN i).app (Shs.one (s := ⟨113, sh.w, sh.rs⟩) ⟨t, p, rfl, ?_, s17 _ _ hp2⟩)).app (S7.dropN (i + 1)), alt_put G.toGoods l16 es ⟨gs.pic, gs.w8, by show 33 ≤ 113; decide, by show 113 ≤ 126; decide, gs.dot⟩ (.inl rfl) fun z => ?_⟩, fun z => ?_⟩
      · rw [← eq]
        exact (s3.trans (s4.trans (s5.trans (s6.trans s7)))) _ _ upd_same
      · exact G.nq sh (List.mem_of_getElem? es) (congrArg Prod.fst z).symm
      · exact ne_of_none upd_same hm (V.ref.inj z)
    rintro _ H3 ⟨m, ys, rfl, nm, hm, alts, y1, y2, s23⟩
    -- fewer, or from behind
    refine ⟨fun σ' H' => ∃ (m : Addr) (ys : List V), σ' = [some (.ref d), some (.int high), some (.ref l), some (.int i), some (ch sh.sg), some (.ref p), some (.ref pn), some (.ref m), none, none] ∧ H2 m = none ∧ H' m = some (.lst ys) ∧ (∀ y ∈ ys, AltL H' d g high ss y ∧ y ≠ .ref m) ∧ 1 ≤ ys.length ∧ ys.length ≤ 3 ∧ Same H2 H', ?_, ?_⟩
    · have hl3 := s23 _ _ hl2
      refine ⟨.ref l, rfl, l, xs, rfl, .inl (SqL.of hl3), _, 1, rfl, rfl, _, rfl, ite2 (fun e => ?_) (fun _ => ⟨m, ys, rfl, nm, hm, alts, y1, by omega, s23⟩)⟩
      have l2' : 1 < ss.length := by
        have := of_decide_eq_true e
        omega
      refine ⟨.ref m, rfl, .ref l, rfl, .int i, rfl, i, rfl, l, xs, rfl, SqL.of hl3, fun a1 ha1 => ?_⟩
      rw [cutV_to]
      have s1 := same_upd (o := .lst (xs.take i)) ha1
      refine ⟨.ref l, rfl, .int i, rfl, _, 1, rfl, rfl, ?_⟩
      dsimp only [tNoPart]
      refine ⟨_, rfl, l, xs, rfl, SqL.of (s1 _ _ hl3), fun a2 ha2 => ?_⟩
      rw [e1, cutV_from]
      have s2 := same_upd (o := .lst (xs.drop (i + 1))) ha2
      refine ⟨a1, a2, _, _, rfl, rfl, s2 _ _ upd_same, upd_same, small _ (by omega), fun a3 ha3 => ?_⟩
      have s3 := same_upd (o := .lst (xs.take i ++ xs.drop (i + 1))) ha3
      have s13 := s1.trans (s2.trans s3)
      refine ⟨.ref l, rfl, l, xs, rfl, SqL.of (s13 _ _ hl3), fun a4 ha4 => ⟨by show 2 ≤ sizeLine; decide, fun a5 ha5 => ?_⟩⟩
      have s4 := same_upd (o := .lst xs.reverse) ha4
      have s5 := same_upd (o := .lst [V.ref a3, V.ref a4]) ha5
      have s15 := s13.trans (s4.trans s5)
      refine ⟨m, a5, _, _, rfl, rfl, s15 _ _ hm, upd_same, small _ (by show ys.length + 2 ≤ 100; omega), fun m2 hm2 => ?_⟩
      have s6 := same_upd (o := .lst (ys ++ [V.ref a3, V.ref a4])) hm2
      have s16 := s15.trans s6
      have s26 := s23.trans s16
      have S6 := S2.same s26
      have D3 := D2.same s23
      have n3 := (D3.same (s1.trans s2)).new ha3
      have n4 := (D3.same s13).new ha4
      have h3 : (upd (upd (upd (upd (upd (upd H3 a1 (.lst (xs.take i))) a2 (.lst (xs.drop (i + 1)))) a3 (.lst (xs.take i ++ xs.drop (i + 1)))) a4 (.lst xs.reverse)) a5 (.lst [V.ref a3, V.ref a4])) m2 (.lst (ys ++ [V.ref a3, V.ref a4]))) a3 = some (.lst (xs.take i ++ xs.drop (i + 1))) := (s4.trans (s5.trans s6)) _ _ upd_same
      have h4 : (upd (upd (upd (upd (upd (upd H3 a1 (.lst (xs.take i))) a2 (.lst (xs.drop (i + 1)))) a3 (.lst (xs.take i ++ xs.drop (i + 1)))) a4 (.lst xs.reverse)) a5 (.lst [V.ref a3, V.ref a4])) m2 (.lst (ys ++ [V.ref a3, V.ref a4]))) a4 = some (.lst xs.reverse) := (s5.trans s6) _ _ upd_same
      refine ⟨m2, _, rfl, (s23.trans s15).free hm2, upd_same, fun y hy => ?_, by rw [List.length_append]; omega, by rw [List.length_append]; show ys.length + 2 ≤ 3; omega, s26⟩
      rcases List.mem_append.mp hy with hy | hy
      · obtain ⟨al, _⟩ := alts y hy
        obtain ⟨a, zs, s2', rfl, n1, n2, ha, _, _⟩ := id al
        exact ⟨al.same s16, fun z => ne_of_none (s15 _ _ ha) hm2 (V.ref.inj z)⟩
      · rcases List.mem_cons.mp hy with rfl | hy
        · exact ⟨⟨a3, _, _, rfl, n3.1, n3.2, h3, (S6.takeN i).app (S6.dropN (i + 1)), alt_cut G.toGoods l16 hi l2'⟩, fun z => ne_of_none ((s4.trans s5) _ _ upd_same) hm2 (V.ref.inj z)⟩
        · rw [List.mem_singleton.mp hy]
          exact ⟨⟨a4, _, _, rfl, n4.1, n4.2, h4, S6.rev, alt_rev G.toGoods l16 l2'⟩, fun z => ne_of_none (s5 _ _ upd_same) hm2 (V.ref.inj z)⟩
    clear hm alts y1 y2 nm s23
    rintro _ H4 ⟨m, ys, rfl, nm, hm, alts, y1, y3, s24⟩
    -- another picture
    refine ⟨fun σ' H' => ∃ (ys : List V), σ' = [some (.ref d), some (.int high), some (.ref l), some (.int i), some (ch sh.sg), some (.ref p), some (.ref pn), some (.ref m), none, none] ∧ H' m = some (.lst ys) ∧ (∀ y ∈ ys, AltL H' d g high ss y) ∧ 1 ≤ ys.length ∧ ys.length ≤ 4 ∧ Dr H' d g c ∧ Dn d g H H', ?_, ?_⟩
    · have hl4 := s24 _ _ hl2
      have hpn4 := s24 _ _ hpn
      have S4 := S2.same s24
      have D4 := D2.same s24
      have mg := D2.new nm
      have mc := D2.newc nm
      have nmH : H m = none := by
        cases e : H m with
        | none => rfl
        | some o =>
          have := dn02 _ _ e mg.1 mg.2
          rw [nm] at this
          cases this
      refine ⟨.ref pn, rfl, .ref l, rfl, l, rfl, ⟨_, SqL.of hl4⟩, fun Dd hDd => lc_list (K := K) (a := l) (xs := xs) (fun j H9 => Same H4 H9 ∧ ∃ zs, H9 Dd = some (.lst zs) ∧ Pcs H9 zs (ss.take j)) ⟨same_upd hDd, [], upd_same, ⟨rfl, fun i z s h => nomatch h⟩⟩ (fun j H9 _ z => SqL.of (z.1 _ _ hl4)) ?_ ?_⟩
      · rintro j x H9 hj ⟨sm, zs, hz, pc⟩
        have hj' : j < ss.length := by
          rw [← S4.len]
          exact (List.getElem?_eq_some_iff.mp hj).1
        have es' : ss[j]? = some ss[j] := List.getElem?_eq_getElem hj'
        generalize ss[j] = s2' at es'
        obtain ⟨t2, p2, rfl, ht2, hp2'⟩ := S4.at_ j x s2' hj es'
        have nD : p2 ≠ Dd := ne_of (sm _ _ hp2') hz (by intro z; cases z)
        refine ⟨t2, _, rfl, SqT.of (sm _ _ ht2), rfl, _, _, rfl, _, _, rfl, rfl, rfl, .ref p2, rfl, zs, hz, ?_, same_over sm hDd, _, upd_same, ?_⟩
        · rw [pc.len, List.length_take]
          exact small1000 (by omega)
        · rw [take_snoc es']
          exact (pc.updl hz).add (by rw [upd_ne nD]; exact sm _ _ hp2')
      · rintro H9 ⟨sm, zs, hz, pc⟩
        rw [S4.len, List.take_length] at pc
        refine ⟨.tuple (nrs.map rD), ss.map pDs, .tup (SqT.of (sm _ _ hpn4)) (dp_rows _), .lst (SqL.of hz) (dp_pcs pc), shaped_rows prn.rows, shaped_pics G.all, _, rfl, ?_⟩
        rw [any_pics]
        by_cases e2 : nrs ∈ ss.map (·.rs)
        · rw [decide_eq_true e2]
          exact iteF ⟨ys, rfl, sm _ _ hm, fun y hy => (alts y hy).1.same sm, y1, by omega, D4.same sm, dn02.trans (Dn.same (s24.trans sm))⟩
        · rw [decide_eq_false e2]
          have hl9 := sm _ _ hl4
          refine iteT ⟨.ref m, rfl, .inl ⟨rfl, _, SqL.of (sm _ _ hm)⟩, .ref l, rfl, .int i, rfl, i, rfl, l, xs, rfl, SqL.of hl9, fun a1 ha1 => ?_⟩
          rw [cutV_to]
          have s1 := same_upd (o := .lst (xs.take i)) ha1
          refine ⟨ch sh.sg, rfl, .ref pn, rfl, by show 2 ≤ sizeLine; decide, fun t ht => ⟨by show 1 ≤ sizeLine; decide, fun a2 ha2 => ?_⟩⟩
          have s2 := same_upd (o := .tup [ch sh.sg, V.ref pn]) ht
          have s3 := same_upd (o := .lst [V.ref t]) ha2
          refine ⟨a1, a2, _, _, rfl, rfl, s3 _ _ (s2 _ _ upd_same), upd_same, small _ (by show (xs.take i).length + 1 ≤ 100; omega), fun a3 ha3 => ?_⟩
          have s4 := same_upd (o := .lst (xs.take i ++ [V.ref t])) ha3
          have s14 := s1.trans (s2.trans (s3.trans s4))
          refine ⟨.ref l, rfl, .int i, rfl, _, 1, rfl, rfl, ?_⟩
          dsimp only [tNoPart]
          refine ⟨_, rfl, l, xs, rfl, SqL.of (s14 _ _ hl9), fun a4 ha4 => ?_⟩
          rw [e1, cutV_from]
          have s5 := same_upd (o := .lst (xs.drop (i + 1))) ha4
          refine ⟨a3, a4, _, _, rfl, rfl, s5 _ _ upd_same, upd_same, small _ (by rw [List.length_append]; show (xs.take i).length + 1 + (xs.drop (i + 1)).length ≤ 100; omega), fun a5 ha5 => ?_⟩
          have s6 := same_upd (o := .lst ((xs.take i ++ [V.ref t]) ++ xs.drop (i + 1))) ha5
          have s16 := s14.trans (s5.trans s6)
          have s26 := s24.trans (sm.trans s16)
          have D6 := D2.same s26
          have n5 := (D2.same (s24.trans (sm.trans (s14.trans s5)))).new ha5
          have hm6 := s16 _ _ (sm _ _ hm)
          have S6 := S2.same s26
          have n5m : a5 ≠ m := (ne_of_none ((s14.trans s5) _ _ (sm _ _ hm)) ha5).symm
          refine ⟨m, ys, .ref a5, rfl, rfl, hm6, small1000 (by omega), _, rfl, upd_same, fun y hy => ?_, by rw [List.length_append]; omega, by rw [List.length_append]; show ys.length + 1 ≤ 4; omega, D6.upd mg.1 mg.2 mc, (dn02.trans (Dn.same s26)).updn nmH⟩
          rcases List.mem_append.mp hy with hy | hy
          · exact ((alts y hy).1.same (sm.trans s16)).updl hm6 (alts y hy).2
          · rw [List.mem_singleton.mp hy]
            refine AltL.updl ⟨a5, _, (ss.take i ++ [⟨sh.sg, sh.w, nrs⟩]) ++ ss.drop (i + 1), rfl, n5.1, n5.2, upd_same, ((S6.takeN i).app (Shs.one (s := ⟨sh.sg, sh.w, nrs⟩) ⟨t, pn, rfl, (s3.trans (s4.trans (s5.trans s6))) _ _ upd_same, (sm.trans s16) _ _ hpn4⟩)).app (S6.dropN (i + 1)), alt_put (t := ⟨sh.sg, sh.w, nrs⟩) G.toGoods l16 es ⟨prn, gs.w8, gs.s0, gs.s1, dotn⟩ (.inr e2) fun z => ?_⟩ hm6 fun z => n5m (V.ref.inj z)
            exact e2 (by rw [show nrs = sh.rs from congrArg Prod.snd z]; exact List.mem_map.mpr ⟨sh, List.mem_of_getElem? es, rfl⟩)
    rintro _ H5 ⟨ys', rfl, hm5, alts5, z1, z4, D5, dn5⟩
    have mg' := D2.new nm
    refine ⟨.ref d, rfl, .ref m, rfl, d, g, c, m, ys', rfl, D5, hm5, mg'.2, z1, by omega, fun n y H6 hy D6 dn6 => ?_⟩
    obtain ⟨a, zs, s2', rfl, n1, n2, ha, Sa, al⟩ := (alts5 y (List.mem_of_getElem? hy)).dn D5 dn6
    exact q a zs s2' H6 ha Sa al D6 (dn5.trans dn6)
end
end Dt
namespace L2X
open PySem PySem.Spec PyProof.Rows L2
theorem takesE {X : Cx} {W : WX} {E : XK} (tk : Takes X W) (h : ∀ cls d σ H, E cls d H → σ.length = X.N.length → W cls d σ H) : Takes X (fun cls d _ H => E cls d H) := by
  rintro u s' ⟨a, B, sI, pins, σ, H, cls, d, e, I, nb, up, sky, na, os, ag, w⟩
  exact tk u s' ⟨a, B, sI, pins, σ, H, cls, d, e, I, nb, up, sky, na, os, ag, h _ _ _ _ w I.len⟩
theorem passE {X : Cx} {E : XK} (tk : Takes X (fun cls d _ H => E cls d H)) : Passes (L2.CX X.prog X.w) X E := fun pins σ H s e s' I h => passAt tk σ pins H s e s' I h
end L2X
namespace Dt
open PySem PySem.Spec PyProof.Rows L2 L2X
open SX (S)
/-! ### NoShape and its field (as for k08) -/
abbrev sNS : Stmt := inClass (topS 5) 0
theorem scNS : FnScope ["self", "at"] ["self", "at"] (defScope sNS) := ⟨rfl, rfl, rfl, by decide +kernel, rfl, by decide +kernel, by decide +kernel⟩
def spNS (C : Addr) : Sp := fun vs H Q _ => ∃ (a : Addr) (v : V), vs = [.ref a, v] ∧ H a = some (exo a C none) ∧ ∀ dx, H dx = none → dx ≠ a → Q .non (upd (upd H dx (exd dx [("at", v)])) a (exo a C (some dx)))
structure Tns (K : PySem.W.Frag) (mg : Str → Option Value) (C : Addr) : Prop where
  g : mg "NoShape" = some (.ref C)
  o : OexC K C
  no : PySem.W.findIn K (.ref C) "at" = some none
  fi : ∃ fI fd, PySem.W.findIn K (.ref C) "__init__" = some (some (.ref fI)) ∧ PySem.W.typeIn K (.ref fI) = some (.type "function") ∧ Fun K "__init__" "NoShape.__init__" sNS fI fd ∧ Binds K fd ["self", "at"] []
def RaiseAt (E : XK) (C : Addr) (v : V) (H : Hp) : Prop := ∀ d H', Same H H' → H d = none → H' d = some (.xd [("at", v)]) → E (.ref C) (some d) H'
theorem RaiseAt.same {E : XK} {C : Addr} {v : V} {H H' : Hp} (h : RaiseAt E C v H) (s : Same H H') : RaiseAt E C v H' := fun d H2 s2 n e => h d H2 (s.trans s2) (s.free n) e
theorem raise_by {E : XK} {C : Addr} {v : V} {H : Hp} (h : RaiseAt E C v H) : [v].length ≤ 1000 ∧ ∀ a, H a = none → spNS C (.ref a :: ([v] ++ [])) (upd H a (exo a C none))
    (fun u H2 => u = .non ∧ ∃ (d : Addr) (fs : List (Str × V)), H2 a = some (exo a C (some d)) ∧ H2 d = some (exd d fs) ∧ H d = none ∧ E (.ref C) (some d) (upd (del H2 a) d (.xd fs))) (fun _ _ _ => False) := by
  refine ⟨by show 1 ≤ 1000; decide, fun a ha => ⟨a, v, rfl, upd_same, fun dx hd ne => ⟨rfl, dx, [("at", v)], upd_same, ?_, ?_, ?_⟩⟩⟩
  · rw [upd_ne ne, upd_same]
  · rw [upd_ne ne] at hd
    exact hd
  · rw [upd_ne ne] at hd
    refine h dx _ (fun b o e => ?_) hd upd_same
    rw [upd_ne (ne_of_none e hd), del_ne (ne_of_none e ha), upd_ne (ne_of_none e ha), upd_ne (ne_of_none e hd), upd_ne (ne_of_none e ha)]
    exact e
/-- a number that is none of a shape -/
def spANR (K : PySem.W.Frag) (C CS : Addr) : Sp := fun vs H Q E => ∃ (o : Addr) (high : Nat) (ss : List Sh) (x : V), vs = [.ref o, x] ∧ AlpAt C H o high ss ∧ Kt K H x ∧ betw x 0 ((ss.length : Int) - 1) = false ∧ RaiseAt E CS x H
section
variable {P : Program} {w : World} {K : PySem.W.Frag} {mg : Str → Option Value} {base : Heap} {C CA CS : Addr}
theorem ok_ns {f : Addr} {fd : FuncData} {k : Nat} (F : Fun K "__init__" "NoShape.__init__" sNS f fd) (o : OexC K CS) (no : PySem.W.findIn K (.ref CS) "at" = some none) : FnOk P w K mg base CX0 (k + 1) f fd ["self", "at"] (spNS CS) := by
  refine F.ok scNS (fun vs H Q E h => ?_) (fun cdv A outer s H vs Q E hr h => ?_)
  · obtain ⟨a, v, rfl, _⟩ := h
    rfl
  · obtain ⟨a, v, rfl, ha, q⟩ := h
    refine ⟨_, pss_one (ps_ost (pv 0) (pv 1)), ?_⟩
    exact ⟨v, rfl, .ref a, rfl, a, CS, rfl, o, no, .inl ⟨ha, fun dx hd ne => q dx hd ne⟩⟩
theorem ok_anR {f : Addr} {fd : FuncData} {k : Nat} (F : Fun K "_want_number" "Alphabet._want_number" sAN f fd) (T : Tx mg) (TA : Tal K mg CA) (N : Tns K mg CS) (GB : Pm P w K mg base CX0 (k + 2) "is_between" ["thing", "least", "most"] (spBetw K)) : FnOk P w K mg base (L2.CX P w) (k + 3) f fd ["self", "number"] (spANR K CA CS) := by
  obtain ⟨fB, fdB, GB, mB, kB, bB⟩ := GB.ex
  obtain ⟨fI, fdI, iC, tI, FI, bI⟩ := N.fi
  have GI : FnOk P w K mg base CX0 (k + 1) fI fdI ["self", "at"] (spNS CS) := ok_ns FI N.o N.no
  refine F.okX scAN (fun vs H Q E h => ?_) (fun cdv A outer s H vs Q E hr h => ?_)
  · obtain ⟨o, high, ss, x, rfl, _⟩ := h
    rfl
  · obtain ⟨o, high, ss, x, rfl, ⟨dx, t, xs, ho, ht, Ss⟩, kx, bx, r⟩ := h
    refine ⟨_, pss_one (ps_if (pt_not (pt_val (pe_call GB hr (by rfl) mB kB bB .nil pass0 (pa_cons (pv 1) (pa_cons pe_int (pa_cons (pe_op op_sub (pe_callB call_len_seq (by rfl) T.len PySem.boot_len (pa_cons (pe_fld (pv 0) rfl) pa_nil)) pe_int) pa_nil)))))) (pss_one (ps_raise rfl (takes_of rfl rfl rfl rfl) (pmk_oex N.o iC tI GI hr bI .nil pass0 (by rfl) N.g (pa_cons (pv 1) pa_nil)))) pss_nil), ?_⟩
    have lx := Ss.len
    refine ⟨x, rfl, .ref o, rfl, o, CA, dx, _, .ref t, rfl, ho, TA.cl, TA.nS, aF_shapes _ _, t, xs, rfl, .inr (SqT.of ht), _, 1, rfl, rfl, x, 0, _, rfl, kx, _, rfl, ?_⟩
    rw [lx, bx]
    exact iteT ⟨x, rfl, raise_by r⟩
theorem ok_awR {f : Addr} {fd : FuncData} {k : Nat} (F : Fun K "wide" "Alphabet.wide" sAW f fd) (TA : Tal K mg CA) (GZ : GS P w K mg base C (k + 1)) (GM : ∃ fM fdM, FnOk P w K mg base (L2.CX P w) (k + 1) fM fdM ["self", "number"] (spANR K CA CS) ∧ Meth K CA "_want_number" fM ∧ Binds K fdM ["self", "number"] []) : FnOk P w K mg base (L2.CX P w) (k + 2) f fd ["self", "number"] (spANR K CA CS) := by
  obtain ⟨fM, fdM, GM, mM, bM⟩ := GM
  obtain ⟨fZ, fdZ, GZ, mZ, kZ, bZ⟩ := GZ.ex
  refine F.okX scAW (fun vs H Q E h => ?_) (fun cdv A outer s H vs Q E hr h => ?_)
  · obtain ⟨o, high, ss, x, rfl, _⟩ := h
    rfl
  · obtain ⟨o, high, ss, x, rfl, al, kx, bx, r⟩ := h
    refine ⟨_, pss_cons (ps_expr (pe_meth (pv 0) TA.cl mM GM hr bM .nil (passE (takes_of rfl rfl rfl rfl)) (pa_cons (pv 1) pa_nil)))
      (pss_one (ps_ret (pe_ix (r := rIxT K) ix_tup (pe_call GZ hr (by rfl) mZ kZ bZ .nil passX0 (pa_cons (pe_ix (r := rIxT K) ix_tup (pe_ix (r := rIxT K) ix_tup (pe_fld (pv 0) rfl) (pv 1) (fun _ _ => rfl)) pe_int (fun _ _ => rfl)) pa_nil)) pe_int (fun _ _ => rfl)))), ?_⟩
    obtain ⟨dx, t, xs, ho, ht, Ss⟩ := id al
    exact ⟨.ref o, rfl, o, dx, _, rfl, ho, aF_no _ _ (by decide +kernel) (by decide +kernel), x, rfl, o, high, ss, x, rfl, al, kx, bx, r⟩
end
end Dt
/-! a comprehension whose elements are walked with the frame around it at hand -/
namespace L2X
open PySem PySem.Spec PyProof.Rows L2
section
variable {X : Cx}
/-- the block of a comprehension, begun at s1 over H1 -/
abbrev Bk (X : Cx) (sc : Scope) (s1 : Shared) (H1 : Hp) (L : Addr) (cl : List (Str × Addr)) (fp : List Addr) : Cx :=
  X.blk s1 H1 sc (compEnvC sc cl L X.env) fp
/-- from within the block the frame around it is seen -/
theorem out_of {pins pj : List (Addr × Obj)} {σ τ : L2.St} {H1 H2 : Hp} {s1 s2 : Shared} {sc : Scope} {L : Addr} {cl : List (Str × Addr)} {fp : List Addr}
    (I : Inv X pins σ H1 s1) (hf : ∀ b ∈ fp, FpOk X pins H1 b)
    (B : Inv (Bk X sc s1 H1 L cl fp) pj τ H2 s2) : Inv X pins σ H2 s2 := by
  refine I.call' (ch := fp) B.os B.base B.hok B.bare fun b hb => ?_
  have z := hf b hb
  exact ⟨z.2.2.2.1, z.2.1, z.2.2.2.2.1, z.2.2.2.2.2⟩
theorem pe_lcI {elt tg iter : Expr} {sc : Scope} {own : List (Str × Nat)} {pos : Pos} {wi : TI} {g : TG} {te : L2.St → TE}
    (hc : X.calm = true) (hN : X.N.Nodup) (hi : PI X tg iter wi) (ok : BlkOk X.N X.env.scope sc own)
    (hg : ∀ (s1 : Shared) (H1 : Hp) (L : Addr) (cl : List (Str × Addr)) (fp : List Addr), PG (Bk X sc s1 H1 L cl fp) tg g)
    (he : ∀ (pins : List (Addr × Obj)) (σ : L2.St) (s1 : Shared) (H1 : Hp) (L : Addr) (cl : List (Str × Addr)) (fp : List Addr),
      Inv X pins σ H1 s1 → (∀ b ∈ fp, FpOk X pins H1 b) → PE (Bk X sc s1 H1 L cl fp) elt (te σ))
    (hs : ∀ x, foldedSetIterable iter X.env x = pure x := by intro _; rfl) :
    PE X (.ListComp elt [⟨tg, iter, [], 0⟩] sc pos) (fun σ H Q => tLc wi g tYes (te σ) (own.map (·.2)) σ H Q) := by
  constructor
  intro pins s σ H Q I h
  rw [eval_ListComp]
  have freeIn : ∀ y ∈ sc.names, y.2 = .free → ∃ c, X.env.cells.lookup y.1 = some c := by
    intro y hy e
    cases ok.free y hy e with
    | inl k => exact I.ok.has _ (.inl k)
    | inr k => exact I.ok.has _ (.inr k)
  have uq : ∀ y ∈ sc.names, _ := fun y hy (e : y.2 = .local) => (ok.uniq y hy).trans (congrArg some e)
  apply wpAny_comprehension_free (use := none) rfl hs (closure_ok freeIn) ok.kind uq
  refine thn (hi.run pins s σ H _ I h) ?_
  intro xv sa hx
  refine thn hx ?_
  rintro itv sb ⟨it, fp, tn, J, Hb, rfl, Ib, T, stb, fb, rd⟩
  apply wpAny_newObj_type
  · apply newEnv_comp
    have newD : Hb sb.heap.objs.size = none := Ib.hok.fresh (Nat.le_refl _)
    obtain ⟨W, ⟨m0, w0⟩, tu⟩ := rd sb.heap.objs.size newD
    generalize eD : sb.heap.objs.size = D at newD w0 tu ⊢
    have objD : (sb.heap.push { cls := .type "list", data := .seq ([] : List Value).toArray }).get? D = some { cls := .type "list", data := .seq ([] : List Value).toArray } := by
      rw [← eD]
      exact Heap.get?_push_size _ rfl
    have Ic : Inv X pins σ (upd Hb D (.lst [])) { sb with heap := sb.heap.push { cls := .type "list", data := .seq ([] : List Value).toArray } } :=
      Ib.laid (t' := sb.toks) (fun b o e => Heap.get?_push_of_some _ e) (by rw [eD]; exact Nat.le_refl _) ⟨by show 0 ≤ sizeLine; decide, [], 0, .nil, objD⟩
    have stc : tn 0 (sb.heap.push { cls := .type "list", data := .seq ([] : List Value).toArray }) := T.keep _ _ _ stb fun b _ o e => Heap.get?_push_of_some _ e
    have fc : ∀ b ∈ fp, FpOk X pins (upd Hb D (.lst [])) b ∧ b < (sb.heap.push { cls := .type "list", data := .seq ([] : List Value).toArray }).objs.size := by
      intro b hb
      obtain ⟨o, e, _⟩ := T.obj _ _ stb b hb
      have lt := Heap.lt_size e
      have z := fb b hb
      constructor
      · refine ⟨?_, z.2⟩
        rw [upd_ne (show b ≠ D from Nat.ne_of_lt (eD ▸ lt))]
        exact z.1
      · rw [Heap.size_push]
        exact Nat.lt_succ_of_lt lt
    generalize eC : ({ sb with heap := sb.heap.push { cls := .type "list", data := .seq ([] : List Value).toArray } } : Shared) = sC at Ic
    have eCh : sb.heap.push { cls := .type "list", data := .seq ([] : List Value).toArray } = sC.heap := by rw [← eC]
    rw [eCh] at stc fc
    generalize eHc : upd Hb D (.lst []) = Hc at Ic fc w0
    have Id := block_start Ic ok hN fc
    generalize eCells : cellsFrom (sC.heap.objs.size + 1) sc.names (cloFrom X.env.cells sc.names []) = cl at Id ⊢
    change codeAny _ _ (.compStart (.ListComp elt [⟨tg, iter, [], 0⟩] sc pos) 0 (.ref it) (.ref D) (compEnvC sc cl sC.heap.objs.size X.env))
      (compPost (model X.prog X.w) X.A X.xe none (EP X pins σ Q) (.ref D) sC.heap.objs.size) _
    have gT := hg sC Hc sC.heap.objs.size cl fp
    have gE := he pins σ sC Hc sC.heap.objs.size cl fp Ic fun b hb => (fc b hb).1
    have std : tn 0 (pushCells (sC.heap.push { cls := .type "dict", data := .dict #[] }) sc.names) :=
      T.keep _ _ _ stc fun b _ o e => pushCells_keeps _ _ _ _ (Heap.get?_push_of_some _ e)
    generalize eD4 : ({ sC with heap := pushCells (sC.heap.push { cls := .type "dict", data := .dict #[] }) sc.names } : Shared) = sD at Id ⊢
    have eDh : pushCells (sC.heap.push { cls := .type "dict", data := .dict #[] }) sc.names = sD.heap := by rw [← eD4]
    rw [eDh] at std
    have walk : codeAny (model X.prog X.w) X.A (.compLoop (.ListComp elt [⟨tg, iter, [], 0⟩] sc pos) 0 (.ref it) (.ref D) (compEnvC sc cl sC.heap.objs.size X.env))
        (compPost (model X.prog X.w) X.A X.xe none (EP X pins σ Q) (.ref D) sC.heap.objs.size) sD := by
      apply compLoop_any (fun n t => ∃ (i : Nat) (G : Hp), Inv (Bk X sc sC Hc sC.heap.objs.size cl fp) [] (wipe σ (own.map (·.2))) G t ∧ tn i t.heap ∧ (∀ b ∈ fp, G b = none) ∧ W i n G) _ m0
        ⟨0, Hc, Id, std, fun b hb => (fc b hb).1.1, w0⟩
      rintro n t ⟨i, G, It, tt, gn, wi⟩
      have fpB : ∀ {τ : L2.St} {G' : Hp} {t' : Shared}, Inv (Bk X sc sC Hc sC.heap.objs.size cl fp) [] τ G' t' → (∀ b ∈ fp, G' b = none) → ∀ b ∈ fp, FpOk (Bk X sc sC Hc sC.heap.objs.size cl fp) [] G' b := by
        intro τ G' t' B hn b hb
        have z := B.ok.exf b hb
        exact ⟨hn b hb, z.1, B.ok.exfs b hb, .inl hb, fun x c e => z.2 x c e, fun p hp => nomatch (show p ∈ ([] : List (Addr × Obj)) from hp)⟩
      rcases tu i n G wi with ⟨st, q⟩ | ⟨go, Nx, toW, step⟩
      · apply thnF (T.done (Bk X sc sC Hc sC.heap.objs.size cl fp) rfl rfl rfl hc i [] t _ G (fun _ _ => False) It (fpB It gn) tt st)
        rintro r u ⟨rfl, Iu⟩
        have Iout := out_of Ic (fun b hb => (fc b hb).1) Iu
        obtain ⟨m, nsL, _⟩ := id Iu.loc
        have freeL : G sC.heap.objs.size = none := Iu.free
        refine ⟨m, nsL, fun h' sb' => ?_⟩
        have fL := Ic.fpOk (Nat.le_refl _) freeL
        exact ⟨.ref D, G, Iout.turned (t' := u.toks) (fun b o hb e => (sb'.2 b hb).trans e) fL.1 fL.2.1 fL.2.2.2.1 fL.2.2.2.2.1 fL.2.2.2.2.2, rfl, q⟩
      · apply thnF (T.item (Bk X sc sC Hc sC.heap.objs.size cl fp) rfl rfl rfl hc i [] t _ G (fun _ _ => False) It (fpB It gn) tt go)
        rintro r t1 ⟨u, rfl, hu⟩
        refine thnF hu ?_
        rintro _ t2 ⟨x, G2, I2, rx, yl, tt2, gn2⟩
        have Ip := I2.pinned (fpB I2 gn2) (T.obj _ _ tt2)
        refine thnF (gT.run _ t2 _ G2 x u _ Ip rx (step x G2 yl)) ?_
        rintro _ t3 ⟨τ, G3, I3, wq, q3⟩
        simp only [tYes, if_true] at q3
        apply wpAny_tests_nil
        simp only [if_true]
        refine thnF (gE.run _ t3 τ G3 _ I3 q3) ?_
        rintro z t4 ⟨y, G4, I4, ry, acc, accD, accL, nx⟩
        refine app_ok (X := Bk X sc sC Hc sC.heap.objs.size cl fp) I4 accD accL ry fun t5 I5 => ?_
        obtain ⟨m, lt, wm⟩ := toW _ nx
        have still : ∀ b ∈ fp, ∀ o, t2.heap.get? b = some o → t5.heap.get? b = some o ∧ (upd G4 D (.lst (acc ++ [y]))) b = none := by
          intro b hb o e
          have z := I5.pin (b, o) (List.mem_append_right _ (List.mem_append_right _ (mem_pinsAt hb e)))
          exact ⟨z.1, z.2.1⟩
        refine ⟨m, lt, i + 1, _, (I5.unpinned (pins := [])).weak ?_ fun j v e => ?_, T.keep _ _ _ tt2 fun b hb o e => (still b hb o e).1, fun b hb => ?_, wm⟩
        · rw [← wq, wipe_length]
        · rw [← wq] at e
          exact (wipe_some e).1
        · obtain ⟨o, e, _⟩ := T.obj _ _ tt2 b hb
          exact (still b hb o e).2
    exact codeAny_compStart_list walk (T.self X.A 0 _ _ _ std walk)
  · show 0 ≤ sizeLine
    decide
end
end L2X
/-! objects taken under watch, and let go; a caught exception kept behind its clause -/
namespace L2X
open PySem PySem.Spec PyProof.Rows L2
section
variable {X : Cx} {pins : List (Addr × Obj)} {σ : L2.St} {H : Hp} {s : Shared}
/-- an object that is younger than the entry comes under watch -/
theorem adopt {a : Addr} {o : HO} {oe : Obj} (I : Inv X pins σ H s) (ha : s.heap.get? a = some oe) (nc : ∀ v, oe.data ≠ .cell v) (na : H a = none) (nL : a ≠ X.env.locals)
    (n0 : X.s_0.heap.get? a = none) (np : ∀ p ∈ X.pn ++ pins, p.1 ≠ a) (new : ObjOk X.prog X.w (upd H a o) s.heap a o) : Inv X pins σ (upd H a o) s := by
  have old : ∀ b u, H b = some u → (upd H a o) b = some u := by
    intro b u e
    rw [upd_ne (ne_of_none e na)]
    exact e
  have ent : ∀ b u, X.s_0.heap.get? b = some u → b ≠ a := by
    rintro b u e rfl
    rw [n0] at e
    cases e
  constructor
  · exact I.ok
  · exact I.os
  · exact I.bare
  · constructor
    · exact I.base.keep
    · exact I.base.slot
    · intro b u e n hx
      rw [upd_ne (ent b u e)]
      exact I.base.free b u e n hx
    · exact I.base.there
    · exact fun b xs e => old _ _ (I.base.tups b xs e)
    · exact fun b u v e => old _ _ (I.base.frzs b u v e)
    · intro b ps e
      obtain ⟨m, q⟩ := I.base.tbls b ps e
      exact ⟨m, old _ _ q⟩
  · exact I.loc
  · exact I.cell
  · rw [upd_ne nL.symm]
    exact I.free
  · intro x c e
    have nca : c ≠ a := by
      rintro rfl
      obtain ⟨v, oc, hoc, hd⟩ := I.cell x c e
      rw [ha] at hoc
      cases hoc
      exact nc _ hd
    rw [upd_ne nca]
    exact I.freeC x c e
  · intro p hp
    obtain ⟨e, n, r⟩ := I.pin p hp
    refine ⟨e, ?_, r⟩
    rw [upd_ne (np p hp)]
    exact n
  · intro b u e
    by_cases hb : b = a
    · subst hb
      rw [upd_same] at e
      cases e
      exact new
    · rw [upd_ne hb] at e
      exact (I.hok b u e).stay (fun _ _ _ q => q) (fun c q => old _ _ q) fun c xs q => old _ _ q
  · exact I.len
/-- a thing of our own is let go -/
theorem letgo {a : Addr} {φ : Heap → Prop} (I : Inv X pins σ H s) (ha : H a = some (.ext φ)) : Inv X pins σ (delH H a) s := by
  have oth : ∀ b u, H b = some u → (∀ ψ, u ≠ .ext ψ) → delH H a b = some u := by
    intro b u e ne
    rw [delH_ne]
    · exact e
    · rintro rfl
      rw [ha] at e
      cases e
      exact ne _ rfl
  have non : ∀ b, H b = none → delH H a b = none := by
    intro b e
    by_cases hb : b = a
    · rw [hb]
      exact delH_same
    · rw [delH_ne hb]
      exact e
  constructor
  · exact I.ok
  · exact I.os
  · exact I.bare
  · constructor
    · exact I.base.keep
    · exact I.base.slot
    · exact fun b u e n hx => non b (I.base.free b u e n hx)
    · exact I.base.there
    · exact fun b xs e => oth _ _ (I.base.tups b xs e) fun ψ z => nomatch z
    · exact fun b u v e => oth _ _ (I.base.frzs b u v e) fun ψ z => nomatch z
    · intro b ps e
      obtain ⟨m, q⟩ := I.base.tbls b ps e
      exact ⟨m, oth _ _ q fun ψ z => nomatch z⟩
  · exact I.loc
  · exact I.cell
  · exact non _ I.free
  · exact fun x c e => non _ (I.freeC x c e)
  · intro p hp
    obtain ⟨e, n, r⟩ := I.pin p hp
    exact ⟨e, non _ n, r⟩
  · intro b u e
    by_cases hb : b = a
    · rw [hb, delH_same] at e
      cases e
    · rw [delH_ne hb] at e
      exact (I.hok b u e).stay (fun _ _ _ q => q) (fun c q => oth _ _ q fun ψ z => nomatch z) fun c xs q => oth _ _ q fun ψ z => nomatch z
  · exact I.len
end
/-- a caught exception of the class cls stands at a -/
def ExI (cls : Value) (d : Option Addr) (a : Addr) : HO := .ext fun h => ∃ oe, h.get? a = some oe ∧ Zc cls d oe ∧ ∃ vs, oe.data = .fields vs
theorem exI_ok {P : Program} {w : World} {H : Hp} {h : Heap} {a : Addr} {cls : Value} {d : Option Addr} {oe : Obj} {vs : Array Value} (e : h.get? a = some oe) (z : Zc cls d oe) (f : oe.data = .fields vs) : ObjOk P w H h a (ExI cls d a) := by
  refine ⟨⟨oe, e, z, vs, f⟩, ⟨oe, e⟩, ?_⟩
  rintro h1 h2 ⟨o, q, r⟩ k
  exact ⟨o, k _ q, r⟩
/-- the wish of a clause 'except x as n' that takes all that comes, and behind which the exception is kept -/
def wKeep (K : PySem.W.Frag) (c : Value) (i : Nat) (ts : Addr → Value → Option Addr → TS) (D : Ends) : WX := fun cls d σ H =>
  PySem.W.exmOne K cls c = some true ∧ ∀ a, H a = none → ts a cls d { nx := fun σ' H' => D.nx (σ'.set i none) (upd H' a (ExI cls d a)), rt := fun _ _ => False } (σ.set i (some (.ref a))) H
section
variable {X : Cx} {x n : Str} {c : Value} {i : Nat} {body sr : List Stmt} {b0 : Stmt} {np p1 p2 : Pos} {tb : WX → TS} {ts : Addr → Value → Option Addr → TS}
/-- what the watch over a try's body does with an exception -/
def Watch (X : Cx) (pins : List (Addr × Obj)) (D : Ends) (hd : ExceptHandler) : Value → Shared → Prop := fun e sa =>
  wpAny (model X.prog X.w) X.A (noteFrame e X.env)
    (fun _ sb => wpAny (model X.prog X.w) X.A (setFlight e none)
      (fun _ sc => wpAny (model X.prog X.w) X.A (handleBy e X.env [hd]) (SP X pins D) X.xe sc) X.xe sb) X.xe sa
theorem watched {pins : List (Addr × Obj)} {D : Ends} (st : X.stack = X.env :: X.outer) (fr : X.env.frame = some X.env.locals) (hex : X.ex = []) (hN : X.N.Nodup) (hi : X.N[i]? = some n) (hln : X.env.kindOf n = some .local) (hc : Names X x c) (ok : X.Ok)
    (hsu : ∀ (a : Addr) (oe : Obj) (cls : Value) (d : Option Addr) (pn : List (Addr × Obj)), Zc cls d oe → (∃ vs, oe.data = .fields vs) → PSs (X.suite a ((a, oe) :: pn)) (b0 :: sr) (ts a cls d)) :
    Takes (X.tr (X.pn ++ pins) (Watch X pins D (.ExceptHandler (some (.Name x np)) (some n) (b0 :: sr) p2))) (wKeep X.K c i ts D) := by
  rintro u t ⟨a, B, sI, pj, τ, G, cls, d, rfl, Jt, toB, up, sky, na, os, ag, caught, suiteOk⟩
  have J : Inv X pins τ G sI := Jt.ofTry ok
  have fs : X.A.frames = some (X.env :: X.outer) := ok.frames.trans (congrArg some st)
  have sky' : Sky B (X.env :: X.outer) a (Zc cls d) X.env.locals t.heap := st ▸ sky
  unfold Watch
  apply Sky.land Zc.steady fs fr sky'
  intro h3 fly up3
  have J3 : Inv X pins τ G { t with heap := h3 } := J.landed toB fly.1 (up.trans up3) os ag
  obtain ⟨oe3, vs3, got3, cls3, dat3⟩ := fly.there
  have noFrame : a ∉ frs (X.env :: X.outer) := by
    intro hm
    obtain ⟨_, o', e', nf⟩ := fly.2.2.1.mem hm
    rw [got3] at e'
    cases e'
    exact nf _ dat3
  have neL : a ≠ X.env.locals := fun z => noFrame (List.mem_filterMap.mpr ⟨X.env, List.mem_cons_self, by rw [fr, z]⟩)
  have neF : a ∉ X.fs := by
    intro hm
    obtain ⟨e, he, q⟩ := List.mem_filterMap.mp hm
    exact noFrame (List.mem_filterMap.mpr ⟨e, List.mem_cons_of_mem _ he, q⟩)
  have notI : sI.heap.get? a = none := by
    cases e : sI.heap.get? a with
    | none => rfl
    | some o =>
      have z := toB a o e (by rw [st]; exact noFrame)
      rw [fly.2.1] at z
      cases z
  have not0 : X.s_0.heap.get? a = none := by
    cases e : X.s_0.heap.get? a with
    | none => rfl
    | some o =>
      obtain ⟨o', z⟩ := J.base.there a o e (by rw [hex]; exact fun z => nomatch z)
      rw [notI] at z
      cases z
  have notPin : ∀ p ∈ X.pn ++ pins, p.1 ≠ a := by
    rintro p hp rfl
    have z := (J.pin p hp).1
    rw [notI] at z
    cases z
  have S3 := J3.suite got3 dat3 na neL neF
  apply wpAny_handleBy_cons (codeAny_handlers_test _) (by intro q; cases q)
  have lookT : PySem.W.Looks (model X.prog X.w) h3 (typeOf (.ref a)) cls := by
    intro A Q E s k q
    exact wpAny_typeOf_ref (k _ _ got3) (cls3.1 ▸ q)
  have lookM := PySem.W.exm_one (M := model X.prog X.w) J3.kIn lookT caught
  have named : ∀ {Q E : Value → Shared → Prop}, Q c { t with heap := h3 } → wpAny (model X.prog X.w) (X.A.mark (some (.ref a))) (eval (.Name x np) X.env) Q E { t with heap := h3 } := by
    intro Q E q
    rcases hc with ⟨hg, hdb, hm | ⟨hm, hv, hnn⟩⟩
    · exact ld_glob (X := X.suite a ((a, oe3) :: (X.pn ++ pins))) S3 hg hm q hdb
    · exact ld_blt (X := X.suite a ((a, oe3) :: (X.pn ++ pins))) S3 hg hm hv q hnn hdb
  apply named
  apply lookM.here
  refine codeAny_handlers_suite_as ?_
  apply HandSPX.lands_againZ fly
  intro h4 fly4 up4
  have J4 : Inv X pins τ G { t with heap := h4 } := J.landed toB fly4.1 ((up.trans up3).trans up4) os ag
  obtain ⟨oe4, vs4, got4, cls4, dat4⟩ := fly4.there
  have S4 := J4.suite got4 dat4 na neL neF
  refine store_ok (X := X.suite a ((a, oe4) :: (X.pn ++ pins))) (v := .ref a) S4 hN hi (.inl hln) rfl (fun s5 S5 => ?_) (.inr hln)
  refine wpAny_mono ((hsu a oe4 cls d (X.pn ++ pins) cls4 ⟨_, dat4⟩).run [] s5 _ G _ S5 (suiteOk a na)) ?_ (fun _ _ z => False.elim z)
  rintro f s6 hsp
  cases f with
  | next =>
    obtain ⟨τ6, G6, S6, q6⟩ := hsp
    have pinned : Inv X ((a, oe4) :: pins) τ6 G6 s6 := by
      refine (S6.unsuite ok).pins_of fun p hp => ?_
      have z := S6.pin p
      cases List.mem_cons.mp hp with
      | inl e => exact z (by rw [e]; exact List.mem_append_left _ List.mem_cons_self)
      | inr e => exact z (List.mem_append_left _ (List.mem_cons_of_mem _ (List.mem_append_right _ e)))
    refine gone_ok pinned hN hi hln fun s7 J7 => ?_
    have z := J7.pin (a, oe4) (List.mem_append_right _ List.mem_cons_self)
    have J8 : Inv X pins (τ6.set i none) G6 s7 := J7.pins_of fun p hp => J7.pin p (List.mem_append_right _ (List.mem_cons_of_mem _ hp))
    exact ⟨_, _, adopt J8 z.1 z.2.2.2.2 z.2.1 z.2.2.1 not0 notPin (exI_ok z.1 cls4 dat4), q6⟩
  | brk =>
    obtain ⟨τ6, G6, S6, q6⟩ := hsp
    exact q6.elim
  | cont =>
    obtain ⟨τ6, G6, S6, q6⟩ := hsp
    exact q6.elim
  | ret u =>
    obtain ⟨v6, τ6, G6, S6, r6, q6⟩ := hsp
    exact q6.elim
/-- try: body / except x as n: suite, n's exception kept under watch behind it -/
theorem ps_try_keep (st : X.stack = X.env :: X.outer) (fr : X.env.frame = some X.env.locals) (hex : X.ex = []) (hN : X.N.Nodup) (hi : X.N[i]? = some n) (hln : X.env.kindOf n = some .local) (hc : Names X x c)
    (hb : ∀ (W : WX) (pn : List (Addr × Obj)) (xe : Value → Shared → Prop), Takes (X.tr pn xe) W → PassesOwn (model X.prog X.w) X.A X.env xe → PSs (X.tr pn xe) body (tb W))
    (hsu : ∀ (a : Addr) (oe : Obj) (cls : Value) (d : Option Addr) (pn : List (Addr × Obj)), Zc cls d oe → (∃ vs, oe.data = .fields vs) → PSs (X.suite a ((a, oe) :: pn)) (b0 :: sr) (ts a cls d)) :
    PS X (.Try body [.ExceptHandler (some (.Name x np)) (some n) (b0 :: sr) p2] [] [] p1) (fun D σ H => tb (wKeep X.K c i ts D) D σ H) := by
  constructor
  intro pins s σ H D I h
  apply wpAny_Try_except
  have run := (hb (wKeep X.K c i ts D) (X.pn ++ pins) (Watch X pins D (.ExceptHandler (some (.Name x np)) (some n) (b0 :: sr) p2)) (watched st fr hex hN hi hln hc I.ok hsu) PassesOwn.looking).run [] s σ H D (I.toTry _) h
  refine wpAny_mono run ?_ (fun _ _ z => z)
  rintro f t hsp
  cases f with
  | next =>
    obtain ⟨τ, G, J, q⟩ := hsp
    exact wpAny_execs_nil ⟨τ, G, J.ofTry I.ok, q⟩
  | brk =>
    obtain ⟨τ, G, J, q⟩ := hsp
    exact ⟨τ, G, J.ofTry I.ok, q⟩
  | cont =>
    obtain ⟨τ, G, J, q⟩ := hsp
    exact ⟨τ, G, J.ofTry I.ok, q⟩
  | ret u =>
    obtain ⟨v, τ, G, J, r, q⟩ := hsp
    exact ⟨v, τ, G, J.ofTry I.ok, r, q⟩
end
end L2X

namespace L2X
open PySem PySem.Spec PyProof.Rows L2
/-- isinstance(e, c), e a kept exception -/
def rIsX (K : PySem.W.Frag) : List V → Hp → VK → Prop := fun xs H Q => ∃ (a D : Addr) (c : V) (cv : Value) (b : Bool), xs = [.ref a, c] ∧ H a = some (ExI (.ref D) none a) ∧ ExcC K D ∧ (∀ u, RelV c u → u = cv) ∧ PySem.W.kitOne K (.ref D) cv = some b ∧ Q (.bl b) H
theorem call_isX {X : Cx} : CallR X (.builtin "isinstance") (rIsX X.K) := by
  intro pins s σ H xs us Q I r h
  obtain ⟨a, D, c, cv, b, rfl, ha, C, hcv, e, q⟩ := h
  cases r with
  | cons rx rr =>
    cases rr with
    | cons rt rr =>
      cases rr
      cases rx
      have ec := hcv _ rt
      subst ec
      obtain ⟨⟨oe, got, ⟨zc, zd⟩, vs, hv⟩, _⟩ := I.hok a _ ha
      have J : PySem.W.InstAt s.heap a oe D none := ⟨got, zc, by unfold PySem.W.notCls; rw [hv], by rw [zd]; trivial⟩
      exact PySem.W.kia_one (PySem.W.handS_kitx_exc C.hg C.hk C.hs C.hd C.ha C.hn C.ht C.hm) I.kIn J e (fun z => nomatch z) fun tk => ⟨.bl b, H, I.kept (t' := tk) fun _ _ z => z, rfl, q⟩
end L2X
namespace Dt
open PySem PySem.Spec PyProof.Rows L2 L2X
open SX (S)
/-! ### lists of marks -/
/-- tuples of a word and a truth, at the addresses vs -/
inductive Tps (H : Hp) : List V → List (Str × Bool) → Prop
  | nil : Tps H [] []
  | cons {t : Addr} {w : Str} {b : Bool} {vs : List V} {ws : List (Str × Bool)} : H t = some (.tup [.str w, .bl b]) → Tps H vs ws → Tps H (.ref t :: vs) ((w, b) :: ws)
theorem Tps.same {H H' : Hp} {vs : List V} {ws : List (Str × Bool)} (h : Tps H vs ws) (s : Same H H') : Tps H' vs ws := by
  induction h with
  | nil => exact .nil
  | cons e _ ih => exact .cons (s _ _ e) ih
theorem Tps.app {H : Hp} {vs us : List V} {ws xs : List (Str × Bool)} (h : Tps H vs ws) (g : Tps H us xs) : Tps H (vs ++ us) (ws ++ xs) := by
  induction h with
  | nil => exact g
  | cons e _ ih => exact .cons e ih
theorem Tps.len {H : Hp} {vs : List V} {ws : List (Str × Bool)} (h : Tps H vs ws) : vs.length = ws.length := by
  induction h with
  | nil => rfl
  | cons _ _ ih => exact congrArg (· + 1) ih
theorem Tps.get {H : Hp} {vs : List V} {ws : List (Str × Bool)} (h : Tps H vs ws) : ∀ {i : Nat} {x : V}, vs[i]? = some x → ∃ t w b, x = .ref t ∧ ws[i]? = some (w, b) ∧ H t = some (.tup [.str w, .bl b]) := by
  induction h with
  | nil => intro i x e; simp at e
  | @cons t w b vs ws ht _ ih =>
    intro i x e
    cases i with
    | zero =>
      have e1 : V.ref t = x := by simpa using e
      exact ⟨t, w, b, e1.symm, rfl, ht⟩
    | succ i =>
      obtain ⟨t', w', b', e1, e2, e3⟩ := ih (i := i) (x := x) (by simpa using e)
      exact ⟨t', w', b', e1, by simpa using e2, e3⟩
def Mk (H : Hp) (l : Addr) (ws : List (Str × Bool)) : Prop := ∃ vs, H l = some (.lst vs) ∧ Tps H vs ws
/-- what the law asks of the classes, for an exception of the class at D: the words by its flags, the one that comes of it -/
structure Tw (K : PySem.W.Frag) (mg : Str → Option Value) (D : Addr) (w0 : Str) : Prop where
  isi : mg "isinstance" = none
  len : mg "len" = none
  ver : mg "ValueError" = none
  vk : PySem.W.kitOne K (.ref D) (.type "ValueError") = some true
  ex : ExcC K D
  kit : ∃ b0 b1 b2 b3 b4 b5 b6 b7 b8 b9 b10 b11 : Bool, (∃ C, mg "NoPicture" = some (.ref C) ∧ PySem.W.kitOne K (.ref D) (.ref C) = some b0) ∧ (∃ C, mg "NoPlace" = some (.ref C) ∧ PySem.W.kitOne K (.ref D) (.ref C) = some b1) ∧ (∃ C, mg "NoShape" = some (.ref C) ∧ PySem.W.kitOne K (.ref D) (.ref C) = some b2) ∧ (∃ C, mg "NoSign" = some (.ref C) ∧ PySem.W.kitOne K (.ref D) (.ref C) = some b3) ∧ (∃ C, mg "NoWord" = some (.ref C) ∧ PySem.W.kitOne K (.ref D) (.ref C) = some b4) ∧ (∃ C, mg "NoLine" = some (.ref C) ∧ PySem.W.kitOne K (.ref D) (.ref C) = some b5) ∧ (∃ C, mg "NoReading" = some (.ref C) ∧ PySem.W.kitOne K (.ref D) (.ref C) = some b6) ∧ (∃ C, mg "NoTable" = some (.ref C) ∧ PySem.W.kitOne K (.ref D) (.ref C) = some b7) ∧ (∃ C, mg "NoDeed" = some (.ref C) ∧ PySem.W.kitOne K (.ref D) (.ref C) = some b8) ∧ (∃ C, mg "NoBack" = some (.ref C) ∧ PySem.W.kitOne K (.ref D) (.ref C) = some b9) ∧ (∃ C, mg "TooMany" = some (.ref C) ∧ PySem.W.kitOne K (.ref D) (.ref C) = some b10) ∧ (∃ C, mg "NoText" = some (.ref C) ∧ PySem.W.kitOne K (.ref D) (.ref C) = some b11) ∧ ([("picture", b0), ("place", b1), ("shape", b2), ("sign", b3), ("word", b4), ("line", b5), ("reading", b6), ("table", b7), ("deed", b8), ("back", b9), ("many", b10), ("text", b11)] : List (Str × Bool)).filter (·.2) = [(w0, true)]
theorem upd_at {H : Hp} {p : Addr} {o : HO} (_ : Same H (upd H p o)) : (upd H p o) p = some o := upd_same
abbrev sWord : Stmt := topS 45
theorem scWord : FnScope ["e", "marks", "met", "word", "is_it"] ["e"] (defScope sWord) := ⟨rfl, rfl, rfl, by decide +kernel, rfl, by decide +kernel, by decide +kernel⟩
def spWord (D : Addr) (w0 : Str) : Sp := fun vs H Q _ => ∃ a, vs = [.ref a] ∧ H a = some (ExI (.ref D) none a) ∧ ∀ H', Same H H' → Q (.str w0) H'
section
variable {P : Program} {w : World} {K : PySem.W.Frag} {mg : Str → Option Value} {base : Heap} {D : Addr} {w0 : Str}
theorem ok_word {f : Addr} {fd : FuncData} {k : Nat} (F : Fun K "_law_word" "_law_word" sWord f fd) (T : Tw K mg D w0) : FnOk P w K mg base CX0 (k + 1) f fd ["e"] (spWord D w0) := by
  refine F.ok scWord (fun vs H Q E h => ?_) (fun cdv A outer s H vs Q E hr h => ?_)
  · obtain ⟨a, rfl, _⟩ := h
    rfl
  · obtain ⟨a, rfl, ha, q⟩ := h
    have nd := scWord.nd
    obtain ⟨b0, b1, b2, b3, b4, b5, b6, b7, b8, b9, b10, b11, ⟨Cc0, g0, k0⟩, ⟨Cc1, g1, k1⟩, ⟨Cc2, g2, k2⟩, ⟨Cc3, g3, k3⟩, ⟨Cc4, g4, k4⟩, ⟨Cc5, g5, k5⟩, ⟨Cc6, g6, k6⟩, ⟨Cc7, g7, k7⟩, ⟨Cc8, g8, k8⟩, ⟨Cc9, g9, k9⟩, ⟨Cc10, g10, k10⟩, ⟨Cc11, g11, k11⟩, hw⟩ := T.kit
    refine ⟨_, C8.pss_cut (ps_set (i := 1) nd rfl (.inl rfl) (pe_lst (pa_cons (pe_tup (pa_cons pe_str (pa_cons (pe_callB call_isX (by rfl) T.isi PyProof.Rows.boot_isinstance (pa_cons (pv 0) (pa_cons (pe_glob (v := .ref Cc0) (by rfl) g0 rfl) pa_nil))) pa_nil))) (pa_cons (pe_tup (pa_cons pe_str (pa_cons (pe_callB call_isX (by rfl) T.isi PyProof.Rows.boot_isinstance (pa_cons (pv 0) (pa_cons (pe_glob (v := .ref Cc1) (by rfl) g1 rfl) pa_nil))) pa_nil))) pa_nil)))) (
      C8.pss_cut (ps_set (i := 1) nd rfl (.inl rfl) (pe_op op_cat (pv 1) (pe_lst (pa_cons (pe_tup (pa_cons pe_str (pa_cons (pe_callB call_isX (by rfl) T.isi PyProof.Rows.boot_isinstance (pa_cons (pv 0) (pa_cons (pe_glob (v := .ref Cc2) (by rfl) g2 rfl) pa_nil))) pa_nil))) pa_nil)))) (
      C8.pss_cut (ps_set (i := 1) nd rfl (.inl rfl) (pe_op op_cat (pv 1) (pe_lst (pa_cons (pe_tup (pa_cons pe_str (pa_cons (pe_callB call_isX (by rfl) T.isi PyProof.Rows.boot_isinstance (pa_cons (pv 0) (pa_cons (pe_glob (v := .ref Cc3) (by rfl) g3 rfl) pa_nil))) pa_nil))) (pa_cons (pe_tup (pa_cons pe_str (pa_cons (pe_callB call_isX (by rfl) T.isi PyProof.Rows.boot_isinstance (pa_cons (pv 0) (pa_cons (pe_glob (v := .ref Cc4) (by rfl) g4 rfl) pa_nil))) pa_nil))) (pa_cons (pe_tup (pa_cons pe_str (pa_cons (pe_callB call_isX (by rfl) T.isi PyProof.Rows.boot_isinstance (pa_cons (pv 0) (pa_cons (pe_glob (v := .ref Cc5) (by rfl) g5 rfl) pa_nil))) pa_nil))) pa_nil)))))) (
      C8.pss_cut (ps_set (i := 1) nd rfl (.inl rfl) (pe_op op_cat (pv 1) (pe_lst (pa_cons (pe_tup (pa_cons pe_str (pa_cons (pe_callB call_isX (by rfl) T.isi PyProof.Rows.boot_isinstance (pa_cons (pv 0) (pa_cons (pe_glob (v := .ref Cc6) (by rfl) g6 rfl) pa_nil))) pa_nil))) (pa_cons (pe_tup (pa_cons pe_str (pa_cons (pe_callB call_isX (by rfl) T.isi PyProof.Rows.boot_isinstance (pa_cons (pv 0) (pa_cons (pe_glob (v := .ref Cc7) (by rfl) g7 rfl) pa_nil))) pa_nil))) pa_nil))))) (
      C8.pss_cut (ps_set (i := 1) nd rfl (.inl rfl) (pe_op op_cat (pv 1) (pe_lst (pa_cons (pe_tup (pa_cons pe_str (pa_cons (pe_callB call_isX (by rfl) T.isi PyProof.Rows.boot_isinstance (pa_cons (pv 0) (pa_cons (pe_glob (v := .ref Cc8) (by rfl) g8 rfl) pa_nil))) pa_nil))) (pa_cons (pe_tup (pa_cons pe_str (pa_cons (pe_callB call_isX (by rfl) T.isi PyProof.Rows.boot_isinstance (pa_cons (pv 0) (pa_cons (pe_glob (v := .ref Cc9) (by rfl) g9 rfl) pa_nil))) pa_nil))) (pa_cons (pe_tup (pa_cons pe_str (pa_cons (pe_callB call_isX (by rfl) T.isi PyProof.Rows.boot_isinstance (pa_cons (pv 0) (pa_cons (pe_glob (v := .ref Cc10) (by rfl) g10 rfl) pa_nil))) pa_nil))) pa_nil)))))) (
      C8.pss_cut (ps_set (i := 1) nd rfl (.inl rfl) (pe_op op_cat (pv 1) (pe_lst (pa_cons (pe_tup (pa_cons pe_str (pa_cons (pe_callB call_isX (by rfl) T.isi PyProof.Rows.boot_isinstance (pa_cons (pv 0) (pa_cons (pe_glob (v := .ref Cc11) (by rfl) g11 rfl) pa_nil))) pa_nil))) pa_nil)))) (
      pss_cons (ps_setLc (i := 2) (own := [("word", 3), ("is_it", 4)]) (g := gTup K 2 (gCons (gName 3) (gCons (gName 4) gNil))) (by rfl) nd rfl rfl (sw_true rfl rfl rfl (by decide +kernel)) (pi_list (pv 1)) (blkOk_by (N := ["e", "marks", "met", "word", "is_it"]) (sc := defScope sWord) (by decide +kernel)) (fun _ _ _ _ _ => pg_tup rfl (pgs_cons (pg_name (i := 3) nd rfl (Or.inl rfl)) (pgs_cons (pg_name (i := 4) nd rfl (Or.inl rfl)) pgs_nil))) (fun _ _ _ _ _ => pts_one (pt_val (pv 4))) (fun _ _ _ _ _ => pv 3)) (
      pss_one (ps_ret (pe_ifExp (PW.pt (pw_and (pt_cmpR op_eq (pe_callB call_len_seq (by rfl) T.len PySem.boot_len (pa_cons (pv 2) pa_nil)) pe_int (nomark _)) (pw_and1 (pt_val (pe_callB call_isX (by rfl) T.isi PyProof.Rows.boot_isinstance (pa_cons (pv 0) (pa_cons (pe_bltn (v := .ty "ValueError") (u := .type "ValueError") (by rfl) T.ver (by decide +kernel) rfl) pa_nil))))))) (pe_ix ix_list (pv 2) pe_int (fun _ _ => rfl)) pe_str))))))))), ?_⟩
    refine ⟨fun σ' H' => ∃ l, σ' = [some (.ref a), some (.ref l), none, none, none] ∧ Same H H' ∧ Mk H' l [("picture", b0), ("place", b1)], ?_, ?_⟩
    · have ha0 : H a = some (ExI (.ref D) none a) := ha
      have S0 : Same H H := Same.refl _
      refine ⟨.ref a, rfl, a, D, .ref Cc0, .ref Cc0, b0, rfl, ha0, T.ex, (fun u r => r), k0, by show 2 ≤ sizeLine; decide, fun t0 ht0 => ?_⟩
      have s0 := same_upd (o := .tup [V.str "picture", V.bl b0]) ht0
      have S1 := S0.trans s0
      have ha1 := s0 _ _ ha0
      have f0 := upd_at (o := .tup [V.str "picture", V.bl b0]) s0
      refine ⟨.ref a, rfl, a, D, .ref Cc1, .ref Cc1, b1, rfl, ha1, T.ex, (fun u r => r), k1, by show 2 ≤ sizeLine; decide, fun t1 ht1 => ?_⟩
      have s1 := same_upd (o := .tup [V.str "place", V.bl b1]) ht1
      have S2 := S1.trans s1
      have ha2 := s1 _ _ ha1
      have f0 := s1 _ _ f0
      have f1 := upd_at (o := .tup [V.str "place", V.bl b1]) s1
      refine ⟨by show 2 ≤ sizeLine; decide, fun l hl => ?_⟩
      have sl := same_upd (o := .lst [.ref t0, .ref t1]) hl
      have tl : Tps _ [.ref t0, .ref t1] [("picture", b0), ("place", b1)] := .cons (sl _ _ f0) (.cons (sl _ _ f1) (.nil))
      have ll := upd_at (o := .lst [.ref t0, .ref t1]) sl
      exact ⟨l, rfl, S2.trans sl, _, ll, tl⟩
    · rintro _ G1 ⟨l1, rfl, sm1, vs1, hv1, tp1⟩
      refine ⟨fun σ' H' => ∃ l, σ' = [some (.ref a), some (.ref l), none, none, none] ∧ Same H H' ∧ Mk H' l [("picture", b0), ("place", b1), ("shape", b2)], ?_, ?_⟩
      · have ha0 : G1 a = some (ExI (.ref D) none a) := sm1 _ _ ha
        have S0 : Same G1 G1 := Same.refl _
        refine ⟨.ref l1, rfl, .ref a, rfl, a, D, .ref Cc2, .ref Cc2, b2, rfl, ha0, T.ex, (fun u r => r), k2, by show 2 ≤ sizeLine; decide, fun t2 ht2 => ?_⟩
        have s2 := same_upd (o := .tup [V.str "shape", V.bl b2]) ht2
        have S1 := S0.trans s2
        have ha1 := s2 _ _ ha0
        have f2 := upd_at (o := .tup [V.str "shape", V.bl b2]) s2
        refine ⟨by show 1 ≤ sizeLine; decide, fun l hl => ?_⟩
        have sl := same_upd (o := .lst [.ref t2]) hl
        have tl : Tps _ [.ref t2] [("shape", b2)] := .cons (sl _ _ f2) (.nil)
        have ll := upd_at (o := .lst [.ref t2]) sl
        have hl0 := sl _ _ (S1 _ _ hv1)
        have tp0 := (tp1.same S1).same sl
        have ln0 := tp0.len
        refine ⟨l1, l, _, _, rfl, rfl, hl0, ll, ?_, fun p hp => ?_⟩
        · rw [ln0]
          show 3 ≤ sizeLine
          decide
        · have sp := same_upd (o := .lst (vs1 ++ [.ref t2])) hp
          exact ⟨p, rfl, ((sm1.trans S1).trans sl).trans sp, _, upd_at sp, (tp0.app tl).same sp⟩
      · rintro _ G2 ⟨l2, rfl, sm2, vs2, hv2, tp2⟩
        refine ⟨fun σ' H' => ∃ l, σ' = [some (.ref a), some (.ref l), none, none, none] ∧ Same H H' ∧ Mk H' l [("picture", b0), ("place", b1), ("shape", b2), ("sign", b3), ("word", b4), ("line", b5)], ?_, ?_⟩
        · have ha0 : G2 a = some (ExI (.ref D) none a) := sm2 _ _ ha
          have S0 : Same G2 G2 := Same.refl _
          refine ⟨.ref l2, rfl, .ref a, rfl, a, D, .ref Cc3, .ref Cc3, b3, rfl, ha0, T.ex, (fun u r => r), k3, by show 2 ≤ sizeLine; decide, fun t3 ht3 => ?_⟩
          have s3 := same_upd (o := .tup [V.str "sign", V.bl b3]) ht3
          have S1 := S0.trans s3
          have ha1 := s3 _ _ ha0
          have f3 := upd_at (o := .tup [V.str "sign", V.bl b3]) s3
          refine ⟨.ref a, rfl, a, D, .ref Cc4, .ref Cc4, b4, rfl, ha1, T.ex, (fun u r => r), k4, by show 2 ≤ sizeLine; decide, fun t4 ht4 => ?_⟩
          have s4 := same_upd (o := .tup [V.str "word", V.bl b4]) ht4
          have S2 := S1.trans s4
          have ha2 := s4 _ _ ha1
          have f3 := s4 _ _ f3
          have f4 := upd_at (o := .tup [V.str "word", V.bl b4]) s4
          refine ⟨.ref a, rfl, a, D, .ref Cc5, .ref Cc5, b5, rfl, ha2, T.ex, (fun u r => r), k5, by show 2 ≤ sizeLine; decide, fun t5 ht5 => ?_⟩
          have s5 := same_upd (o := .tup [V.str "line", V.bl b5]) ht5
          have S3 := S2.trans s5
          have ha3 := s5 _ _ ha2
          have f3 := s5 _ _ f3
          have f4 := s5 _ _ f4
          have f5 := upd_at (o := .tup [V.str "line", V.bl b5]) s5
          refine ⟨by show 3 ≤ sizeLine; decide, fun l hl => ?_⟩
          have sl := same_upd (o := .lst [.ref t3, .ref t4, .ref t5]) hl
          have tl : Tps _ [.ref t3, .ref t4, .ref t5] [("sign", b3), ("word", b4), ("line", b5)] := .cons (sl _ _ f3) (.cons (sl _ _ f4) (.cons (sl _ _ f5) (.nil)))
          have ll := upd_at (o := .lst [.ref t3, .ref t4, .ref t5]) sl
          have hl0 := sl _ _ (S3 _ _ hv2)
          have tp0 := (tp2.same S3).same sl
          have ln0 := tp0.len
          refine ⟨l2, l, _, _, rfl, rfl, hl0, ll, ?_, fun p hp => ?_⟩
          · rw [ln0]
            show 6 ≤ sizeLine
            decide
          · have sp := same_upd (o := .lst (vs2 ++ [.ref t3, .ref t4, .ref t5])) hp
            exact ⟨p, rfl, ((sm2.trans S3).trans sl).trans sp, _, upd_at sp, (tp0.app tl).same sp⟩
        · rintro _ G3 ⟨l3, rfl, sm3, vs3, hv3, tp3⟩
          refine ⟨fun σ' H' => ∃ l, σ' = [some (.ref a), some (.ref l), none, none, none] ∧ Same H H' ∧ Mk H' l [("picture", b0), ("place", b1), ("shape", b2), ("sign", b3), ("word", b4), ("line", b5), ("reading", b6), ("table", b7)], ?_, ?_⟩
          · have ha0 : G3 a = some (ExI (.ref D) none a) := sm3 _ _ ha
            have S0 : Same G3 G3 := Same.refl _
            refine ⟨.ref l3, rfl, .ref a, rfl, a, D, .ref Cc6, .ref Cc6, b6, rfl, ha0, T.ex, (fun u r => r), k6, by show 2 ≤ sizeLine; decide, fun t6 ht6 => ?_⟩
            have s6 := same_upd (o := .tup [V.str "reading", V.bl b6]) ht6
            have S1 := S0.trans s6
            have ha1 := s6 _ _ ha0
            have f6 := upd_at (o := .tup [V.str "reading", V.bl b6]) s6
            refine ⟨.ref a, rfl, a, D, .ref Cc7, .ref Cc7, b7, rfl, ha1, T.ex, (fun u r => r), k7, by show 2 ≤ sizeLine; decide, fun t7 ht7 => ?_⟩
            have s7 := same_upd (o := .tup [V.str "table", V.bl b7]) ht7
            have S2 := S1.trans s7
            have ha2 := s7 _ _ ha1
            have f6 := s7 _ _ f6
            have f7 := upd_at (o := .tup [V.str "table", V.bl b7]) s7
            refine ⟨by show 2 ≤ sizeLine; decide, fun l hl => ?_⟩
            have sl := same_upd (o := .lst [.ref t6, .ref t7]) hl
            have tl : Tps _ [.ref t6, .ref t7] [("reading", b6), ("table", b7)] := .cons (sl _ _ f6) (.cons (sl _ _ f7) (.nil))
            have ll := upd_at (o := .lst [.ref t6, .ref t7]) sl
            have hl0 := sl _ _ (S2 _ _ hv3)
            have tp0 := (tp3.same S2).same sl
            have ln0 := tp0.len
            refine ⟨l3, l, _, _, rfl, rfl, hl0, ll, ?_, fun p hp => ?_⟩
            · rw [ln0]
              show 8 ≤ sizeLine
              decide
            · have sp := same_upd (o := .lst (vs3 ++ [.ref t6, .ref t7])) hp
              exact ⟨p, rfl, ((sm3.trans S2).trans sl).trans sp, _, upd_at sp, (tp0.app tl).same sp⟩
          · rintro _ G4 ⟨l4, rfl, sm4, vs4, hv4, tp4⟩
            refine ⟨fun σ' H' => ∃ l, σ' = [some (.ref a), some (.ref l), none, none, none] ∧ Same H H' ∧ Mk H' l [("picture", b0), ("place", b1), ("shape", b2), ("sign", b3), ("word", b4), ("line", b5), ("reading", b6), ("table", b7), ("deed", b8), ("back", b9), ("many", b10)], ?_, ?_⟩
            · have ha0 : G4 a = some (ExI (.ref D) none a) := sm4 _ _ ha
              have S0 : Same G4 G4 := Same.refl _
              refine ⟨.ref l4, rfl, .ref a, rfl, a, D, .ref Cc8, .ref Cc8, b8, rfl, ha0, T.ex, (fun u r => r), k8, by show 2 ≤ sizeLine; decide, fun t8 ht8 => ?_⟩
              have s8 := same_upd (o := .tup [V.str "deed", V.bl b8]) ht8
              have S1 := S0.trans s8
              have ha1 := s8 _ _ ha0
              have f8 := upd_at (o := .tup [V.str "deed", V.bl b8]) s8
              refine ⟨.ref a, rfl, a, D, .ref Cc9, .ref Cc9, b9, rfl, ha1, T.ex, (fun u r => r), k9, by show 2 ≤ sizeLine; decide, fun t9 ht9 => ?_⟩
              have s9 := same_upd (o := .tup [V.str "back", V.bl b9]) ht9
              have S2 := S1.trans s9
              have ha2 := s9 _ _ ha1
              have f8 := s9 _ _ f8
              have f9 := upd_at (o := .tup [V.str "back", V.bl b9]) s9
              refine ⟨.ref a, rfl, a, D, .ref Cc10, .ref Cc10, b10, rfl, ha2, T.ex, (fun u r => r), k10, by show 2 ≤ sizeLine; decide, fun t10 ht10 => ?_⟩
              have s10 := same_upd (o := .tup [V.str "many", V.bl b10]) ht10
              have S3 := S2.trans s10
              have ha3 := s10 _ _ ha2
              have f8 := s10 _ _ f8
              have f9 := s10 _ _ f9
              have f10 := upd_at (o := .tup [V.str "many", V.bl b10]) s10
              refine ⟨by show 3 ≤ sizeLine; decide, fun l hl => ?_⟩
              have sl := same_upd (o := .lst [.ref t8, .ref t9, .ref t10]) hl
              have tl : Tps _ [.ref t8, .ref t9, .ref t10] [("deed", b8), ("back", b9), ("many", b10)] := .cons (sl _ _ f8) (.cons (sl _ _ f9) (.cons (sl _ _ f10) (.nil)))
              have ll := upd_at (o := .lst [.ref t8, .ref t9, .ref t10]) sl
              have hl0 := sl _ _ (S3 _ _ hv4)
              have tp0 := (tp4.same S3).same sl
              have ln0 := tp0.len
              refine ⟨l4, l, _, _, rfl, rfl, hl0, ll, ?_, fun p hp => ?_⟩
              · rw [ln0]
                show 11 ≤ sizeLine
                decide
              · have sp := same_upd (o := .lst (vs4 ++ [.ref t8, .ref t9, .ref t10])) hp
                exact ⟨p, rfl, ((sm4.trans S3).trans sl).trans sp, _, upd_at sp, (tp0.app tl).same sp⟩
            · rintro _ G5 ⟨l5, rfl, sm5, vs5, hv5, tp5⟩
              refine ⟨fun σ' H' => ∃ l, σ' = [some (.ref a), some (.ref l), none, none, none] ∧ Same H H' ∧ Mk H' l [("picture", b0), ("place", b1), ("shape", b2), ("sign", b3), ("word", b4), ("line", b5), ("reading", b6), ("table", b7), ("deed", b8), ("back", b9), ("many", b10), ("text", b11)], ?_, ?_⟩
              · have ha0 : G5 a = some (ExI (.ref D) none a) := sm5 _ _ ha
                have S0 : Same G5 G5 := Same.refl _
                refine ⟨.ref l5, rfl, .ref a, rfl, a, D, .ref Cc11, .ref Cc11, b11, rfl, ha0, T.ex, (fun u r => r), k11, by show 2 ≤ sizeLine; decide, fun t11 ht11 => ?_⟩
                have s11 := same_upd (o := .tup [V.str "text", V.bl b11]) ht11
                have S1 := S0.trans s11
                have ha1 := s11 _ _ ha0
                have f11 := upd_at (o := .tup [V.str "text", V.bl b11]) s11
                refine ⟨by show 1 ≤ sizeLine; decide, fun l hl => ?_⟩
                have sl := same_upd (o := .lst [.ref t11]) hl
                have tl : Tps _ [.ref t11] [("text", b11)] := .cons (sl _ _ f11) (.nil)
                have ll := upd_at (o := .lst [.ref t11]) sl
                have hl0 := sl _ _ (S1 _ _ hv5)
                have tp0 := (tp5.same S1).same sl
                have ln0 := tp0.len
                refine ⟨l5, l, _, _, rfl, rfl, hl0, ll, ?_, fun p hp => ?_⟩
                · rw [ln0]
                  show 12 ≤ sizeLine
                  decide
                · have sp := same_upd (o := .lst (vs5 ++ [.ref t11])) hp
                  exact ⟨p, rfl, ((sm5.trans S1).trans sl).trans sp, _, upd_at sp, (tp0.app tl).same sp⟩
              · rintro _ G6 ⟨l6, rfl, sm6, vs6, hv6, tp6⟩
                have ln := tp6.len
                have ln' : vs6.length = 12 := ln
                refine ⟨.ref l6, rfl, l6, rfl, ⟨_, SqL.of hv6⟩, fun Dd hDd => lc_list (K := K) (a := l6) (xs := vs6) (fun i H2 => Same G6 H2 ∧ H2 Dd = some (.lst (((([("picture", b0), ("place", b1), ("shape", b2), ("sign", b3), ("word", b4), ("line", b5), ("reading", b6), ("table", b7), ("deed", b8), ("back", b9), ("many", b10), ("text", b11)] : List (Str × Bool)).take i).filter (·.2)).map fun p => V.str p.1))) ⟨same_upd hDd, upd_same⟩ (fun i H2 _ z => SqL.of (z.1 _ _ hv6)) ?_ ?_⟩
                · rintro i x H2 hi ⟨sm, h2⟩
                  obtain ⟨t, w1, b1, rfl, hw1, ht⟩ := tp6.get hi
                  have hil : i < 12 := by
                    rcases Nat.lt_or_ge i vs6.length with z | z
                    · omega
                    · rw [List.getElem?_eq_none z] at hi
                      cases hi
                  refine ⟨t, [.str w1, .bl b1], rfl, SqT.of (sm _ _ ht), rfl, .str w1, [.bl b1], rfl, .bl b1, [], rfl, rfl, rfl, .bl b1, rfl, b1, rfl, ?_⟩
                  have tk := take_snoc hw1
                  cases b1 with
                  | false =>
                    refine iteF ⟨sm, ?_⟩
                    rw [tk, List.filter_append, List.map_append]
                    simpa using h2
                  | true =>
                    refine iteT ⟨.str w1, rfl, _, h2, ?_, ?_, ?_⟩
                    · rw [List.length_map]
                      refine Nat.lt_of_le_of_lt (List.length_filter_le _ _) ?_
                      rw [List.length_take]
                      exact small1000 (by omega)
                    · exact fun b o e => by
                        rw [upd_ne (ne_of_none e hDd)]
                        exact sm _ _ e
                    · rw [upd_same, tk, List.filter_append, List.map_append]
                      rfl
                · rintro H2 ⟨sm, h2⟩
                  have e12 : (([("picture", b0), ("place", b1), ("shape", b2), ("sign", b3), ("word", b4), ("line", b5), ("reading", b6), ("table", b7), ("deed", b8), ("back", b9), ("many", b10), ("text", b11)] : List (Str × Bool)).take vs6.length) = ([("picture", b0), ("place", b1), ("shape", b2), ("sign", b3), ("word", b4), ("line", b5), ("reading", b6), ("table", b7), ("deed", b8), ("back", b9), ("many", b10), ("text", b11)] : List (Str × Bool)) := by
                    rw [ln']
                    rfl
                  rw [e12, hw] at h2
                  refine ⟨.ref Dd, rfl, Dd, _, rfl, .inl (SqL.of h2), rfl, _, rfl, iteT ?_⟩
                  refine ⟨.ref a, rfl, a, D, .ty "ValueError", .type "ValueError", true, rfl, (sm6.trans sm) _ _ ha, T.ex, (fun u r => r), T.vk, true, rfl, iteT ?_⟩
                  exact ⟨.ref Dd, rfl, Dd, _, 0, .str w0, rfl, rfl, SqL.of h2, atI_nat (j := 0) rfl, q _ (sm6.trans sm)⟩
end
end Dt
/-! lambdas as values: made, kept under watch, called through a def -/
namespace L2X
open PySem PySem.Spec PyProof.Rows L2 LamX
/-- the lambda of these cells stands at f, its code at c -/
def CloO (q : Str) (pr : Arguments) (body : Expr) (sc : Scope) (cl : List (Str × Addr)) (c f : Addr) : HO :=
  .ext fun h => ∃ pm ctv, h.get? f = some (PySem.W.kla_obj "<lambda>" q pr body sc cl pm c ctv)
theorem cloO_ok {P : Program} {w : World} {H : Hp} {h : Heap} {q : Str} {pr : Arguments} {body : Expr} {sc : Scope} {cl : List (Str × Addr)} {c f : Addr} {pm ctv : Value}
    (e : h.get? f = some (PySem.W.kla_obj "<lambda>" q pr body sc cl pm c ctv)) : ObjOk P w H h f (CloO q pr body sc cl c f) := by
  refine ⟨⟨pm, ctv, e⟩, ⟨_, e⟩, ?_⟩
  rintro h1 h2 ⟨pm', ctv', e'⟩ k
  exact ⟨pm', ctv', k _ e'⟩
section
variable {X : Cx}
def lamQ (X : Cx) : Str := X.env.qual ++ "<lambda>"
/-- what the making of a lambda asks, and what comes of it -/
def tLamV (T : List (Addr × Str)) (X : Cx) (pr : Arguments) (body : Expr) (sc : Scope) : TE := fun _ H Q =>
  Tabs T H ∧ ∀ (f c : Addr) (H1 : Hp), ExtN H H1 → Tabs T H1 → H1 c = some (CodeO c (lamQ X)) → H1 f = none → H f = none →
    (∀ b q' pr' body' sc' cl' c', H1 b = some (CloO q' pr' body' sc' cl' c' b) → c ≠ b) → Q (.ref f) (upd H1 f (CloO (lamQ X) pr body sc (cloFrom X.env.cells sc.names []) c f))
theorem pe_lamV {T : List (Addr × Str)} {c P : Addr} {pr : Arguments} {body : Expr} {sc : Scope} {pos : Pos} (TB : TabB X.base X.mg c P) (hcode : X.env.code = .ref c) (hm : (P, lamQ X) ∈ T)
    (hu : ∀ p ∈ T, p.1 = P → p.2 = lamQ X) (L : LamS X.env.scope sc) (hdef : defaultsOf pr X.env = ([], [])) : PE X (.Lambda pr body sc pos) (tLamV T X pr body sc) := by
  constructor
  rintro pins s σ H Q I ⟨hT, h⟩
  obtain ⟨ps, hP, trip, known⟩ := hT _ hm
  have clOk := closure_ok (L.has I.ok)
  have globs : s.heap.Ns mainGlobals X.mg := I.mod.glob.keeps I.bk
  have code0 := TB.code.keeps I.bk
  have blt0 : s.heap.BuiltinsAt X.mg P := TB.bm.keeps I.bk
  have atP : s.heap.get? P = some { cls := .none, data := .fields ps } := I.hok P _ hP
  -- the end of both ways: the def object is new
  have fin : ∀ (h' : Heap) (tk : Nat) (c' : Addr) (pm ctv : Value) (H1 : Hp), s.heap.objs.size ≤ h'.objs.size →
      Inv X pins σ H1 { s with heap := h'.push (PySem.W.kla_obj "<lambda>" (lamQ X) pr body sc (cloFrom X.env.cells sc.names []) pm c' ctv), toks := tk } →
      ExtN H H1 → Tabs T H1 → H1 c' = some (CodeO c' (lamQ X)) → H1 h'.objs.size = none →
      EP X pins σ Q (.ref h'.objs.size) { s with heap := h'.push (PySem.W.kla_obj "<lambda>" (lamQ X) pr body sc (cloFrom X.env.cells sc.names []) pm c' ctv), toks := tk } := by
    intro h' tk c' pm ctv H1 big J ext tabs hc n1
    have got : (h'.push (PySem.W.kla_obj "<lambda>" (lamQ X) pr body sc (cloFrom X.env.cells sc.names []) pm c' ctv)).get? h'.objs.size = _ := Heap.get?_push_size _ rfl
    have older : ∀ {b : Addr} {o : Obj}, s.heap.get? b = some o → b ≠ h'.objs.size := fun e => Nat.ne_of_lt (Nat.lt_of_lt_of_le (Heap.lt_size e) big)
    have n0 : X.s_0.heap.get? h'.objs.size = none := Heap.get?_none_of_le (Nat.le_trans I.sz big)
    have nL : h'.objs.size ≠ X.env.locals := Nat.ne_of_gt (Nat.lt_of_lt_of_le I.lt big)
    have np : ∀ p ∈ X.pn ++ pins, p.1 ≠ h'.objs.size := fun p hp => older (I.pin p hp).1
    have apart : ∀ b q' pr' body' sc' cl' c2, H1 b = some (CloO q' pr' body' sc' cl' c2 b) → c' ≠ b := by
      rintro b q' pr' body' sc' cl' c2 hb rfl
      obtain ⟨⟨pm2, ct2, e1⟩, _⟩ := J.hok c' _ hb
      obtain ⟨⟨oc, vs, t, e2, e3, _⟩, _⟩ := J.hok c' _ hc
      rw [e1] at e2
      cases e2
      cases e3
    refine ⟨.ref h'.objs.size, _, adopt J got (fun v z => ?_) n1 nL n0 np (cloO_ok got), rfl, h _ c' H1 ext tabs hc n1 (I.hok.fresh big) apart⟩
    cases z
  refine PySem.W.kla_eval hdef ?_
  cases among : codeAmong pos ps.toList with
  | some cv =>
    obtain ⟨c', rfl, hc'⟩ := known pos cv among
    refine PySem.W.kla_makeFunctionHit (mg := X.mg) (c := c) (P := P) (ps := ps) clOk I.ok.glob globs hcode code0 atP trip among blt0 ?_
    intro ctv h' tk keeps big
    exact fin h' tk c' _ ctv H big (I.kept fun b o e => Heap.get?_push_of_some _ (keeps b o e)) (ExtN.refl H) hT hc' (I.hok.fresh big)
  | none =>
    refine PySem.W.kla_makeFunction (mg := X.mg) (c := c) (P := P) (ps := ps) clOk I.ok.glob globs hcode code0 atP trip among TB.gP blt0 ?_
    intro c' ctv h' tk keeps ge lt rec tab
    obtain ⟨c2, oc, vs, t, e2, hoc, hd, hv⟩ := rec
    cases e2
    have big : s.heap.objs.size ≤ h'.objs.size := Nat.le_of_lt (Nat.lt_of_le_of_lt ge lt)
    have nc : H c' = none := I.hok.fresh ge
    have nPc : P ≠ c' := ne_of_none hP nc
    have J := inv_table (t' := tk) (more := #[rawInt pos.line, rawInt pos.col, .ref c']) (q := lamQ X) I hP
      (h' := h'.push (PySem.W.kla_obj "<lambda>" (lamQ X) pr body sc (cloFrom X.env.cells sc.names []) ((X.mg "__name__").getD .none) c' ctv))
      (fun b o hb e => Heap.get?_push_of_some _ (keeps b o hb e)) (Heap.get?_push_of_some _ tab) ge ⟨oc, vs, t, Heap.get?_push_of_some _ hoc, hd, hv⟩
    have ext : ExtN H (upd (upd H P (.tbl (ps ++ #[rawInt pos.line, rawInt pos.col, .ref c']))) c' (CodeO c' (lamQ X))) := by
      intro b o e notTab
      have nb : b ≠ P := by
        rintro rfl
        rw [hP] at e
        cases e
        exact notTab ps rfl
      rw [upd_ne (ne_of_none e nc), upd_ne nb]
      exact e
    have lst : (ps ++ #[rawInt pos.line, rawInt pos.col, .ref c']).toList = ps.toList ++ [rawInt pos.line, rawInt pos.col, .ref c'] := by simp
    refine fin h' tk c' _ ctv _ big J ext ?_ upd_same ?_
    · intro p hp
      by_cases hb : p.1 = P
      · refine ⟨ps ++ #[rawInt pos.line, rawInt pos.col, .ref c'], ?_, ?_, ?_⟩
        · rw [hb, upd_ne nPc, upd_same]
        · rw [lst]
          exact PySem.TriplesOk_snoc _ _ _ _ trip
        · intro p' cv hcv
          rw [hu p hp hb]
          rw [lst] at hcv
          cases among_app _ trip hcv with
          | inl z =>
            obtain ⟨c0, e1, e2⟩ := known p' cv z
            exact ⟨c0, e1, ext _ _ e2 codeO_ne⟩
          | inr z => exact ⟨c', z, upd_same⟩
      · obtain ⟨ps', a1, a2, a3⟩ := hT p hp
        refine ⟨ps', ?_, a2, ?_⟩
        · rw [upd_ne (ne_of_none a1 nc), upd_ne hb]
          exact a1
        · intro p' cv hcv
          obtain ⟨c0, e1, e2⟩ := a3 p' cv hcv
          exact ⟨c0, e1, ext _ _ e2 codeO_ne⟩
    · have n1 : h'.objs.size ≠ c' := Nat.ne_of_gt lt
      have n2 : h'.objs.size ≠ P := Nat.ne_of_gt (Nat.lt_of_lt_of_le (Heap.lt_size atP) big)
      rw [upd_ne n1, upd_ne n2]
      exact I.hok.fresh big
/-- a def that calls what it gets, a; TT: what it makes of the lambda's reading (with room for calls of its own) -/
def GivesR (X : Cx) (k : Nat) (Ng : List Str) (x : Str) (sg : Scope) (g : Addr) (cdg : Value) (bg : List Stmt) (a : Str) (q : Str) (TT : (XK → Hp → VK → Prop) → Hp → VK → Prop) : Prop :=
  ∀ (f c : Addr) (s : Shared) (H : Hp) (Q : VK) (tl : XK → Hp → VK → Prop), Room k (X.A.deeper (envOfC x sg s.heap.objs.size g cdg)) →
    (∀ (W : WX) (pn : List (Addr × Obj)) (xe : Value → Shared → Prop) (E : XK) (q1 q2 : Pos),
      Takes ((cxOf L2.CX0 X.prog X.w X.K X.mg X.base Ng x sg g cdg X.A X.stack s H L2.E0).tr pn xe) W → (∀ cls d σ' H', E cls d H' → W cls d σ' H') →
      PE ((cxOf L2.CX0 X.prog X.w X.K X.mg X.base Ng x sg g cdg X.A X.stack s H L2.E0).tr pn xe) (.Call (.Name a q1) [] [] q2)
        (fun σZ HZ Q => σZ[0]? = some (some (.ref f)) ∧ HZ c = some (CodeO c q) ∧ tl E HZ Q)) →
    H c = some (CodeO c q) → TT tl H Q →
    ∃ t, PSs (cxOf L2.CX0 X.prog X.w X.K X.mg X.base Ng x sg g cdg X.A X.stack s H L2.E0).nox bg t ∧ t { nx := fun _ H' => Q .non H', rt := Q } (L2.start Ng [.ref f]) H
/-- f(w) in a comprehension's block, w one of the frame's own lambdas, f a def that calls what it gets: the reading -/
def tCloCall {ι : Type} (X : Cx) (iw : Nat) (pr : ι → Arguments) (body : ι → Expr) (sc : ι → Scope) (t : ι → XK → TE) (TT : (XK → Hp → VK → Prop) → Hp → VK → Prop) (σ0 : L2.St) : TE := fun τ H Q =>
  ∃ (j : ι) (f c : Addr), τ[iw]? = some (some (.ref f)) ∧ H f = some (CloO (lamQ X) (pr j) (body j) (sc j) (cloFrom X.env.cells (sc j).names []) c f) ∧ H c = some (CodeO c (lamQ X)) ∧ c ≠ f ∧
    TT (fun E H' Q' => t j E σ0 H' Q') (delH H f) Q
theorem pe_clocall {ι : Type} {pins : List (Addr × Obj)} {σ0 : L2.St} {s1 : Shared} {H1 : Hp} {csc : Scope} {L : Addr} {cl : List (Str × Addr)} {fp : List Addr} (I1 : Inv X pins σ0 H1 s1) (hfp : ∀ b ∈ fp, FpOk X pins H1 b)
    {pr : ι → Arguments} {body : ι → Expr} {sc : ι → Scope} {t : ι → XK → TE} {TT : (XK → Hp → VK → Prop) → Hp → VK → Prop} {iw : Nat} {x a y : Str} {g : Addr} {k : Nat} {pg : Arguments} {bg : List Stmt} {sg : Scope} {dV kV doc pm cdv ct oc : Value} {an od : Option Addr}
    {osl : Array (Option Value)} {Ng : List Str} {p p' pos : Pos}
    (hg : Gl (Bk X csc s1 H1 L cl fp) x) (hm : X.mg x = some (.ref g)) (hk : PySem.W.keepIn X.K (.ref g) = true)
    (lk : X.K.lookup g = some ⟨oc, od, .func (PySem.W.fnOf x x pg bg sg dV kV doc pm an cdv ct), osl⟩) (hcg : PySem.W.codeIn X.K cdv x = true) (hb : L2.Binds X.K (PySem.W.fnOf x x pg bg sg dV kV doc pm an cdv ct) [a] [])
    (Sg : FnScope Ng [a] sg) (hNg : Ng[0]? = some a) (hva : Vis sg a) (hG : GivesR X (k + 1) Ng x sg g cdv bg a (lamQ X) TT) (hr : Room (k + 2) X.A)
    (hL : ∀ j, LamS X.env.scope (sc j)) (hbind : ∀ (j : ι) (q : Str) (cl : List (Str × Addr)) (pm cv ctv : Value), bindArgs (PySem.W.kla_fn "<lambda>" q (pr j) (body j) (sc j) cl pm cv ctv) ⟨[], []⟩ = pure [])
    (hbody : ∀ (j : ι) (A : Around) (outer : List Env) (s : Shared) (H : Hp) (E : XK) (f c : Addr), Room k (A.deeper (lamEnv X (sc j) s.heap.objs.size f c)) → PE (lamCx X A outer s H E (sc j) f c) (body j) (t j E))
    (hw : PE (Bk X csc s1 H1 L cl fp) (.Name y p') (tVar iw))
    (hdb : (x == ("__debug__" : Str)) = false := by decide) (hd : (a == ("__debug__" : Str)) = false := by decide) (hcd : (a == ("__classdict__" : Str)) = false := by decide) :
    PE (Bk X csc s1 H1 L cl fp) (.Call (.Name x p) [.Name y p'] [] pos) (tCloCall X iw pr body sc t TT σ0) := by
  constructor
  rintro pj s τ H Q B ⟨j, f, c, slot, clo, code, neC, h⟩
  refine wpAny_Call_Name_kw (ld_glob B hg hm ?_ hdb)
  have args : PA (Bk X csc s1 H1 L cl fp) [.Name y p'] (tCons (tVar iw) tNil) := pa_cons hw pa_nil
  refine PySem.W.callWith_K (h₀ := X.base) B.ok.mod.kin hk (thn (args.run pos pj s τ H (fun vs G => vs = [.ref f] ∧ G = H) B ⟨.ref f, slot, rfl, rfl⟩) ?_) (by rfl) (by rfl)
  rintro us s2 ⟨vs, G, B2, rel, rfl, rfl⟩
  refine ⟨B2.kIn, ?_⟩
  cases rel with
  | cons r0 rn =>
    cases rn
    cases r0
    have B3 := letgo B2 clo
    obtain ⟨⟨pm', ctv', got⟩, _⟩ := B2.hok f _ clo
    have offF : f ∉ frs X.stack := by
      intro hm'
      have z := B2.stkFree f hm'
      rw [clo] at z
      cases z
    have Iout : Inv X pins σ0 (delH G f) s2 := out_of I1 hfp B3
    have rc : codeAny (model X.prog X.w) X.A (.call (.ref g) ⟨[.ref f], []⟩) (CR L2.CX0 X.stack X.prog X.w (delH G f) s2 Q L2.E0) s2 := by
      refine run_ofS (N := Ng) (ps := [a]) (us := [.ref f]) (vs := [.ref f]) lk hcg Sg hr B3.env0 (hb s2 [.ref f] B3.kIn rfl) (.cons rfl .nil) rfl ?_
      intro hr'
      obtain ⟨t', ht', hq'⟩ := hG f c s2 (delH G f) Q (fun E H' Q' => t j E σ0 H' Q') hr'
        (fun W pn xe E q1 q2 tk hW => pe_act (i := 0) Iout (hL j) got delH_same offF (hbind j _ _ _ _ _) tk hW hr' (fun A outer s H hr2 => hbody j A outer s H E f c hr2) hNg hva hd hcd)
        (by rw [delH_ne neC]; exact code) h
      exact ⟨t', ht'.nox, hq'⟩
    refine wpAny_call (codeAny_mono rc ?_)
    rintro r s3 hq
    cases r with
    | error e => exact (show False from hq).elim
    | ok fl =>
      cases fl with
      | ret u => exact B3.after hq
      | next => exact False.elim hq
      | brk => exact False.elim hq
      | cont => exact False.elim hq
end
end L2X
namespace Dt
open PySem PySem.Spec PyProof.Rows L2 L2X LamX
theorem takesLen {X : Cx} {W : WX} (tk : Takes X W) : Takes X (fun cls d σ H => σ.length = X.N.length → W cls d σ H) := by
  rintro u s' ⟨a, B, sI, pins, σ, H, cls, d, e, I, nb, up, sky, na, os, ag, w⟩
  exact tk u s' ⟨a, B, sI, pins, σ, H, cls, d, e, I, nb, up, sky, na, os, ag, w I.len⟩
abbrev sRef : Stmt := topS 46
theorem scRef : FnScope ["work", "error", "e"] ["work"] (defScope sRef) := ⟨rfl, rfl, rfl, by decide +kernel, rfl, by decide +kernel, by decide +kernel⟩
/-- what _law_refused makes of a work that is refused by the class at D: the word w0 -/
def TRef (D : Addr) (w0 : Str) : (XK → Hp → VK → Prop) → Hp → VK → Prop := fun tl H Q => ∀ R : VK,
  tl (fun cls d H' => cls = .ref D ∧ d = none ∧ ∀ H'', Same H' H'' → Q (.str w0) H'') H R
theorem ref_gives {X : Cx} {k : Nat} {q w0 : Str} {g fW CD D : Addr} {fdW : FuncData} {cdg : Value}
    (GW : FnOk X.prog X.w X.K X.mg X.base CX0 (k + 1) fW fdW ["e"] (spWord D w0)) (mW : X.mg "_law_word" = some (.ref fW)) (kW : PySem.W.keepIn X.K (.ref fW) = true) (bW : Binds X.K fdW ["e"] [])
    (mD : X.mg "DotError" = some (.ref CD)) (exm : PySem.W.exmOne X.K (.ref D) (.ref CD) = some true) :
    GivesR X (k + 1) ["work", "error", "e"] "_law_refused" (defScope sRef) g cdg (defBody sRef) "work" q (TRef D w0) := by
  intro f c s H Q tl hr act hc h
  have nd := scRef.nd
  refine ⟨_, pss_cons (ps_set (i := 1) nd rfl (.inl rfl) pe_non)
    (C8.pss_cut (ps_try_keep (i := 2) (c := .ref CD) (ts := fun a cls d => tAsg (tVar 2) (gName 1))
        (tb := fun W Dn σ H => ∃ Ech : XK, (∀ cls d σ' H', Ech cls d H' → σ'.length = 3 → W cls d σ' H') ∧ σ[0]? = some (some (.ref f)) ∧ H c = some (CodeO c q) ∧ tl Ech H (fun _ H' => Dn.nx σ H'))
        rfl rfl rfl nd rfl rfl ⟨rfl, by decide, .inl mD⟩ (fun W pn xe tk _ => ?_) (fun a oe cls d pn _ _ => pss_one (ps_set (i := 1) nd rfl (.inl rfl) (pv 2))))
      (pss_one (ps_ret (pe_ifExp (pt_cmp (pc_isN (pv 1))) pe_str (pe_call GW hr (by rfl) mW kW bW .nil pass0 (pa_cons (pv 1) pa_nil)))))), ?_⟩
  · constructor
    rintro pins s' σ H' Dn I ⟨Ech, hW, h1, h2, h3⟩
    exact (pss_one (ps_expr (act _ pn xe Ech _ _ (takesLen tk) hW))).run pins s' σ H' Dn I ⟨h1, h2, h3⟩
  · refine ⟨fun σ' H' => ∃ a y0, σ' = [y0, some (.ref a), none] ∧ H' a = some (ExI (.ref D) none a) ∧ ∀ H'', Same H' H'' → Q (.str w0) H'', ?_, ?_⟩
    · refine ⟨_, ?_, rfl, hc, h _⟩
      rintro cls d σ' H' ⟨rfl, rfl, hq⟩ hlen
      refine ⟨exm, fun a ha => ?_⟩
      match σ', hlen with
      | [y0, y1, y2], _ => exact ⟨.ref a, rfl, a, y0, rfl, upd_same, fun H'' sm => hq H'' ((same_upd ha).trans sm)⟩
    · rintro σ' H' ⟨a, y0, rfl, ha, hq⟩
      refine ⟨.ref a, rfl, _, rfl, iteF ?_⟩
      exact ⟨.ref a, rfl, a, rfl, ha, hq⟩
end Dt
/-! a lambda handed straight to a def that calls what it gets, with room for calls of its own; list.count of data -/
namespace L2X
open PySem PySem.Spec PyProof.Rows L2 LamX
section
variable {X : Cx}
theorem pe_lamcallR {T : List (Addr × Str)} {TT : (XK → Hp → VK → Prop) → Hp → VK → Prop} {x a : Str} {g c P : Addr} {k : Nat} {pg : Arguments} {bg : List Stmt} {sg : Scope} {dV kV doc pm cdv ct oc : Value} {an od : Option Addr} {osl : Array (Option Value)} {Ng : List Str}
    {params : Arguments} {body : Expr} {scope : Scope} {t : XK → TE} {p lpos pos : Pos} (hg : Gl X x) (hm : X.mg x = some (.ref g)) (hk : PySem.W.keepIn X.K (.ref g) = true)
    (lk : X.K.lookup g = some ⟨oc, od, .func (PySem.W.fnOf x x pg bg sg dV kV doc pm an cdv ct), osl⟩) (hcg : PySem.W.codeIn X.K cdv x = true) (hb : L2.Binds X.K (PySem.W.fnOf x x pg bg sg dV kV doc pm an cdv ct) [a] []) (Sg : FnScope Ng [a] sg) (hNg : Ng[0]? = some a) (hva : Vis sg a)
    (hG : GivesR X (k + 1) Ng x sg g cdv bg a (lamQ X) TT)
    (TB : TabB X.base X.mg c P) (hcode : X.env.code = .ref c) (hmT : (P, lamQ X) ∈ T) (hu : ∀ p ∈ T, p.1 = P → p.2 = lamQ X) (hr : Room (k + 2) X.A) (L : LamS X.env.scope scope) (hdef : defaultsOf params X.env = ([], []))
    (hbind : ∀ (q : Str) (cl : List (Str × Addr)) (pm cv ctv : Value), bindArgs (PySem.W.kla_fn "<lambda>" q params body scope cl pm cv ctv) ⟨[], []⟩ = pure [])
    (hbody : ∀ (A : Around) (outer : List Env) (s : Shared) (H : Hp) (E : XK) (f c' : Addr), Room k (A.deeper (lamEnv X scope s.heap.objs.size f c')) → PE (lamCx X A outer s H E scope f c') body (t E))
    (hdb : (x == ("__debug__" : Str)) = false := by decide) (hd : (a == ("__debug__" : Str)) = false := by decide) (hcd : (a == ("__classdict__" : Str)) = false := by decide) :
    PE X (.Call (.Name x p) [.Lambda params body scope lpos] [] pos) (tLam T TT t) := by
  constructor
  rintro pins s σ H Q I ⟨hT, h⟩
  refine wpAny_Call_Name_kw (ld_glob I hg hm ?_ hdb)
  refine PySem.W.callWith_K (h₀ := X.base) I.ok.mod.kin hk ?_ (by rfl) (by rfl)
  show wpAny _ _ (spliced ((false, eval (.Lambda params body scope lpos) X.env) :: backTo pos (starEach [] X.env))) _ _ s
  refine Calls.spliced_cons (lam_make2 I TB hcode hmT hu hT hdef (L.has I.ok) fun f c' pm' ctv H1 s' I1 eN T1 hf hfn hfr hco => ?_)
  refine Calls.spliced_nil ⟨I1.kIn, ?_⟩
  have rc : codeAny (model X.prog X.w) X.A (.call (.ref g) ⟨[.ref f], []⟩) (CR L2.CX0 X.stack X.prog X.w H1 s' Q L2.E0) s' := by
    refine run_ofS (N := Ng) (ps := [a]) (us := [.ref f]) (vs := [.ref f]) lk hcg Sg hr I1.env0 (hb s' [.ref f] I1.kIn rfl) (.cons rfl .nil) rfl ?_
    intro hr'
    obtain ⟨t', ht', hq'⟩ := hG f c' s' H1 Q (fun E H' Q' => t E σ H' Q') hr'
      (fun W pn xe E p1 p2 tk hW => pe_act (i := 0) I1 L hf hfn hfr (hbind _ _ _ _ _) tk hW hr' (fun A outer s H hr2 => hbody A outer s H E f c' hr2) hNg hva hd hcd) hco (h H1 eN T1)
    exact ⟨t', ht'.nox, hq'⟩
  refine wpAny_call (codeAny_mono rc ?_)
  rintro r s2 hq
  cases r with
  | error e => exact (show False from hq).elim
  | ok fl =>
    cases fl with
    | ret u => exact I1.after hq
    | next => exact False.elim hq
    | brk => exact False.elim hq
    | cont => exact False.elim hq
/-- l.count(x) of data -/
def rCountD (K : PySem.W.Frag) : V → List V → Hp → VK → Prop := fun x xs H Q => ∃ (a : Addr) (y : V) (d : PyData) (ds : List PyData), x = V.ref a ∧ xs = [y] ∧ Dp K H (V.ref a) (.list ds) ∧ Dp K H y d ∧
  SeqAt.shaped (.list ds) = true ∧ SeqAt.shaped d = true ∧ Q (.int (ds.countP fun z => PyData.eqv z d : Nat)) H
theorem mt_countD (hu : X.A.units + 65 < cLine) : MtR X "list.count" (rCountD X.K) := by
  intro pins s σ H x xs v us Q I rx rxs h
  obtain ⟨a, y, d, ds, rfl, rfl, hl, hy, sl, sd, q⟩ := h
  cases rx
  obtain ⟨uy, rfl, ry⟩ := rxs.one
  obtain ⟨bs, r1⟩ := Dp.reads I d y uy hy ry
  have hxs : PyData.canLayAll0 ds = true := SeqAt.canLay_of_shaped sl
  have hroom : X.A.units + 1 + min (PyData.depthAll ds) d.depth < cLine := room_in_shaped sd hu
  cases hl with
  | lst hs ha =>
    obtain ⟨its, rv, ⟨⟨cls, dd, data, sls⟩, n, ho, hc, hdn, hdt⟩, hlen⟩ := I.list hs
    simp only at hc hdt
    subst hc hdt
    obtain ⟨as, h4⟩ := Dp.readsAll I ds _ its ha rv
    have hmap : its.map (SeqAt.readOf s.heap) = ds := SeqAt.readsAll_map ds its as hxs h4
    refine call_meets PySem.F.slot_list_count ⟨_, ho, rfl⟩ PySem.F.entry_list_count (PySem.F.args_list_count_2 _ _)
      (SeqAt.list_countAt a its.toArray n dd sls uy (fun u => PyData.eqv (SeqAt.readOf s.heap u) d)) ⟨ho, SeqAt.items_eqAt (vs := its.toArray) (show ReadsAll s.heap its.toArray.toList ds as from h4) r1 hxs (SeqAt.canLay_of_shaped sd) hroom, ?_⟩
    have ec : its.toArray.toList.countP (fun u => PyData.eqv (SeqAt.readOf s.heap u) d) = ds.countP fun z => PyData.eqv z d := by
      rw [← hmap, List.countP_map]
      rfl
    refine ⟨.int (ds.countP fun z => PyData.eqv z d : Nat), H, I.tok _, ⟨s.toks, ?_⟩, q⟩
    show Value.int ((its.toArray.toList.countP (fun u => PyData.eqv (SeqAt.readOf s.heap u) d) : Nat) : Int) s.toks = Value.int ((ds.countP fun z => PyData.eqv z d : Nat) : Int) s.toks
    rw [ec]
end
end L2X
/-! the end of a law whose own body asks who is around it: the law is run at its caller alone -/
namespace L2X
open PySem PySem.Spec PyProof.Rows L2 LamX
abbrev tabO : Obj := { cls := .none, data := .fields #[] }
abbrev lstO (vs : List Value) : Obj := { cls := .type "list", data := .seq vs.toArray }
/-- what is under watch when the law begins: the tables; the script, if the written part has it not -/
def beginH (K : PySem.W.Frag) (cs : List (Addr × Addr)) (a : Addr) (vs : List Value) (ns : List Int) : Hp := fun b =>
  if b ∈ cs.map (·.2) then some (.tbl #[]) else if b = a ∧ K.lookup a = none then some (.frz (lstO vs) (.lst (ns.map V.int))) else none
section
variable {P : Program} {w : World} {K : PySem.W.Frag} {mg mb : Str → Option Value} {fa a : Addr} {cs : List (Addr × Addr)} {s : Shared} {vs : List Value} {ns : List Int}
theorem begin_tab {p : Addr × Addr} (hp : p ∈ cs) : beginH K cs a vs ns p.2 = some (.tbl #[]) := by
  unfold beginH
  exact if_pos (List.mem_map.mpr ⟨p, hp, rfl⟩)
theorem begin_some {b : Addr} {u : HO} (e : beginH K cs a vs ns b = some u) : (b ∈ cs.map (·.2) ∧ u = .tbl #[]) ∨ (b = a ∧ K.lookup a = none ∧ u = .frz (lstO vs) (.lst (ns.map V.int))) := by
  unfold beginH at e
  split at e
  · rename_i h
    exact .inl ⟨h, (Option.some.inj e).symm⟩
  · split at e
    · rename_i h
      exact .inr ⟨h.1, h.2, (Option.some.inj e).symm⟩
    · cases e
theorem begin_none (hT : ∀ p ∈ cs, s.heap.get? p.2 = some tabO) (ha : s.heap.get? a = some (lstO vs)) {b : Addr} {o : Obj} (e : s.heap.get? b = some o) (n1 : o ≠ tabO) (n2 : o ≠ lstO vs) : beginH K cs a vs ns b = none := by
  cases q : beginH K cs a vs ns b with
  | none => rfl
  | some u =>
    exfalso
    rcases begin_some q with ⟨hm, _⟩ | ⟨rfl, _, _⟩
    · obtain ⟨p, hp, rfl⟩ := List.mem_map.mp hm
      rw [hT p hp] at e
      exact n1 (Option.some.inj e).symm
    · rw [ha] at e
      exact n2 (Option.some.inj e).symm
theorem law_callG (KX : K.In s.heap) (hns : s.heap.Ns mainGlobals mg) (hb : s.heap.Ns builtinsNs mb) (hbb : ∀ x : Str, x ≠ "__name__" → mb x = bootBuiltins x) (hlim : s.heap.NoLimit) (hg : s.gens = #[])
    (hT : ∀ p ∈ cs, s.heap.get? p.2 = some tabO) (nT : ∀ p ∈ cs, K.lookup p.2 = none) (C : ∀ p ∈ cs, PySem.W.CodeHd s.heap p.1 p.2)
    (hbm : ∃ (bm : Addr) (ob : Obj), mg "__builtins__" = some (.ref bm) ∧ bm ≠ builtinsNs ∧ s.heap.get? bm = some ob ∧ ob.cls = .type "module" ∧ ob.dict = some builtinsNs ∧ ob.data = .plain)
    (ha : s.heap.get? a = some (lstO vs)) (hi : IntsAre vs ns) (hl : ns.length ≤ sizeLine)
    (run : ∀ (base : Heap) (H : Hp), K.In base → base.Ns mainGlobals mg → (∀ p ∈ cs, TabB base mg p.1 p.2) → (∀ p ∈ cs, H p.2 = some (.tbl #[])) → SqL K H a (ns.map V.int) → Env0 P w K mg base callerA [] s H →
      codeAny (model P w) callerA (.call (.ref fa) ⟨[.ref a], []⟩) (CR L2.CX0 [] P w H s (fun v _ => v = .bl true) L2.E0) s) :
    codeAny (model P w) callerA (.call (.ref fa) ⟨[.ref a], []⟩) (fun r s' => r = .ok (.ret (.bool true)) ∧ OldK s.heap s'.heap ∧ s'.os = s.os ∧ AllBare s'.gens) s := by
  have rv := vals_ints hi
  have lv := hi.length
  generalize eH : beginH K cs a vs ns = H
  have tabs : ∀ p ∈ cs, H p.2 = some (.tbl #[]) := fun p hp => by rw [← eH]; exact begin_tab hp
  have off : ∀ {b : Addr} {o : Obj}, s.heap.get? b = some o → o ≠ tabO → o ≠ lstO vs → H b = none := fun e n1 n2 => by rw [← eH]; exact begin_none hT ha e n1 n2
  have isT : ∀ {b : Addr}, b ∈ cs.map (·.2) → s.heap.get? b = some tabO := by
    intro b hm
    obtain ⟨p, hp, rfl⟩ := List.mem_map.mp hm
    exact hT p hp
  have aT : a ∉ cs.map (·.2) := by
    intro hm
    have z := isT hm
    rw [ha] at z
    cases z
  -- the ground
  have nsK : ∀ {b : Addr} {m : Str → Option Value}, s.heap.Ns b m → (hidT s.heap H).Ns b m := by
    rintro b m ⟨o, es, ep, e, d, r⟩
    refine ⟨o, es, ep, hidT_get e (off e ?_ ?_), d, r⟩ <;> (rintro rfl; cases d)
  have inK : K.In (hidT s.heap H) := by
    intro b o e
    refine hidT_get (KX b o e) ?_
    cases q : H b with
    | none => rfl
    | some u =>
      exfalso
      rw [← eH] at q
      rcases begin_some q with ⟨hm, _⟩ | ⟨rfl, hk, _⟩
      · obtain ⟨p, hp, rfl⟩ := List.mem_map.mp hm
        rw [nT p hp] at e
        cases e
      · rw [hk] at e
        cases e
  have mod : L2.Mod K mg (hidT s.heap H) := by
    obtain ⟨mc, h1, h2⟩ := hlim
    exact ⟨inK, nsK hns, ⟨mb, nsK hb, hbb⟩, ⟨mc, nsK h1, h2⟩⟩
  have tabB : ∀ p ∈ cs, TabB (hidT s.heap H) mg p.1 p.2 := by
    intro p hp
    have tp := hT p hp
    obtain ⟨og, es, ep, gg, gd, _⟩ := id hns
    constructor
    · obtain ⟨o, us, file, tf, flags, tg, inF, text, tt, e1, r1, r2, r3, r4, r5, r6, r7, r8, hne⟩ := C p hp
      refine ⟨o, us, file, tf, flags, tg, inF, text, tt, hidT_get e1 (off e1 ?_ ?_), r1, r2, r3, r4, r5, r6, r7, r8, hne⟩
      · rintro rfl
        cases r2
        simp at r3
      · rintro rfl
        cases r2
    · obtain ⟨bm, ob, b1, b2, b3, b4, b5, b6⟩ := hbm
      refine ⟨bm, ob, b1, b2, ?_, ?_, hidT_get b3 (off b3 ?_ ?_), b4, b5, b6⟩
      · rintro rfl
        rw [gg] at b3
        cases b3
        rw [gd] at b6
        cases b6
      · rintro rfl
        rw [tp] at b3
        cases b3
        cases b6
      · rintro rfl
        cases b6
      · rintro rfl
        cases b6
    · intro z
      rw [z, tp] at gg
      cases gg
      cases gd
  have hokH : HOk P w H s.heap := by
    intro b u e
    rw [← eH] at e
    rcases begin_some e with ⟨hm, rfl⟩ | ⟨rfl, _, rfl⟩
    · exact isT hm
    · exact ⟨ha, by rw [List.length_map]; exact hl, vs, _, rv, ha⟩
  have sq : SqL K H a (ns.map V.int) := by
    cases hk : K.lookup a with
    | some o =>
      have z := KX a o hk
      rw [ha] at z
      cases z
      exact .inr ⟨_, vs.toArray, _, hk, rfl, rfl, rfl, by rw [List.size_toArray, lv]; exact hl, by simpa using rv⟩
    | none =>
      refine .inl (.inr ⟨lstO vs, ?_⟩)
      rw [← eH]
      unfold beginH
      rw [if_neg aT, if_pos ⟨rfl, hk⟩]
  have e0 : Env0 P w K mg (hidT s.heap H) callerA [] s H :=
    by
    constructor
    · rfl
    · exact mod
    · exact fun b o e => of_hidT e
    · exact Nat.le_of_eq (hidT_size _ _)
    · trivial
    · exact fun b hb => nomatch (show b ∈ ([] : List Addr) from hb)
    · exact hokH
    · exact .of_eq hg
  refine codeAny_mono (run _ H inK (nsK hns) tabB tabs sq e0) ?_
  rintro r s' h
  cases r with
  | error e => exact (show False from h).elim
  | ok fl =>
    cases fl with
    | next => exact False.elim h
    | brk => exact False.elim h
    | cont => exact False.elim h
    | ret u =>
      obtain ⟨v, H', os, bare, un, hok', rr, rfl⟩ := h
      obtain rfl : u = Value.bool true := rr
      have stay : ∀ b o, b ∉ cs.map (·.2) → s.heap.get? b = some o → s'.heap.get? b = some o := by
        intro b o nb e
        cases q : H b with
        | none => exact un.keep b o e q (fun z => nomatch z) (fun z => nomatch z)
        | some u =>
          have q2 := q
          rw [← eH] at q2
          rcases begin_some q2 with ⟨hm, _⟩ | ⟨rfl, _, rfl⟩
          · exact absurd hm nb
          · obtain ⟨z, _⟩ := hok' _ _ (un.frzs _ _ _ q)
            rw [ha] at e
            cases e
            exact z
      have grow : ∀ p ∈ cs, ∃ more : Array Value, s'.heap.get? p.2 = some { cls := .none, data := .fields more } := by
        intro p hp
        obtain ⟨more, z⟩ := un.tbls p.2 #[] (tabs p hp)
        exact ⟨_, hok' p.2 _ z⟩
      refine ⟨rfl, ⟨fun b o e => ?_, fun b o e => ?_⟩, os, bare⟩
      · by_cases hb : b ∈ cs.map (·.2)
        · obtain ⟨p, hp, rfl⟩ := List.mem_map.mp hb
          obtain ⟨more, hm⟩ := grow p hp
          rw [hT p hp] at e
          cases e
          exact .inr (.inl ⟨((C p hp).tab (hT p hp)).isCodeTable, rfl, #[], more, rfl, by rw [Array.empty_append]; exact hm⟩)
        · exact .inl (stay b o hb e)
      · by_cases hb : b ∈ cs.map (·.2)
        · obtain ⟨p, hp, rfl⟩ := List.mem_map.mp hb
          obtain ⟨more, hm⟩ := grow p hp
          exact ⟨_, hm⟩
        · exact ⟨o, stay b o hb e⟩
end
end L2X
/-! kept exceptions, with or without a field -/
namespace L2X
open PySem PySem.Spec PyProof.Rows L2
/-- a kept exception stands at a, of the class at D; its dict, if it has one -/
def KX (H : Hp) (a D : Addr) (d : Option Addr) : Prop := H a = some (ExI (.ref D) d a) ∧ (d = none ∨ ∃ dd fs, d = some dd ∧ H dd = some (.xd fs))
theorem KX.same {H H' : Hp} {a D : Addr} {d : Option Addr} (h : KX H a D d) (s : Same H H') : KX H' a D d :=
  ⟨s _ _ h.1, h.2.imp id fun ⟨dd, fs, e, q⟩ => ⟨dd, fs, e, s _ _ q⟩⟩
theorem kx_kit {X : Cx} {pins : List (Addr × Obj)} {σ : L2.St} {H : Hp} {s : Shared} {a D : Addr} {d : Option Addr} (I : Inv X pins σ H s) (C : ExcC X.K D) (h : KX H a D d) :
    ∃ Pp : Heap → Prop, PySem.W.KitX X.K (.ref a) (.ref D) Pp ∧ Pp s.heap := by
  obtain ⟨ha, hd⟩ := h
  obtain ⟨⟨oe, got, ⟨zc, zd⟩, vs, hv⟩, _⟩ := I.hok a _ ha
  rcases hd with rfl | ⟨dd, fs, rfl, hd⟩
  · have J : PySem.W.InstAt s.heap a oe D none := ⟨got, zc, by unfold PySem.W.notCls; rw [hv], by rw [zd]; trivial⟩
    exact ⟨_, PySem.W.handS_kitx_exc C.hg C.hk C.hs C.hd C.ha C.hn C.ht C.hm, J⟩
  · have hx : ObjOk X.prog X.w H s.heap dd (.xd fs) := I.hok dd _ hd
    obtain ⟨mA, hns, _⟩ := hx
    obtain ⟨od, ho, _⟩ := lookIn_ns hns
    have J : PySem.W.InstAt s.heap a oe D (some od) := ⟨got, zc, by unfold PySem.W.notCls; rw [hv] <;> rfl, by rw [zd]; exact ho⟩
    have hcl : (PySem.W.clsIn X.K D).isSome = true := by
      cases hc : PySem.W.clsIn X.K D with
      | some cd => rfl
      | none =>
        have := C.hd
        unfold PySem.W.hasDictIn at this
        rw [hc] at this
        cases this
    exact ⟨_, PySem.W.kitx_exc hcl C.hg C.hk C.hs C.ha C.hn C.ht C.hm, J⟩
/-- isinstance(e, c), e a kept exception -/
def rIsY (K : PySem.W.Frag) : List V → Hp → VK → Prop := fun xs H Q => ∃ (a D : Addr) (d : Option Addr) (c : V) (cv : Value) (b : Bool), xs = [.ref a, c] ∧ KX H a D d ∧ ExcC K D ∧ (∀ u, RelV c u → u = cv) ∧ PySem.W.kitOne K (.ref D) cv = some b ∧ Q (.bl b) H
theorem call_isY {X : Cx} : CallR X (.builtin "isinstance") (rIsY X.K) := by
  intro pins s σ H xs us Q I r h
  obtain ⟨a, D, d, c, cv, b, rfl, ha, C, hcv, e, q⟩ := h
  cases r with
  | cons rx rr =>
    cases rr with
    | cons rt rr =>
      cases rr
      cases rx
      have ec := hcv _ rt
      subst ec
      obtain ⟨Pp, Z, p⟩ := kx_kit I C ha
      exact PySem.W.kia_one Z I.kIn p e (fun z => nomatch z) fun tk => ⟨.bl b, H, I.kept (t' := tk) fun _ _ z => z, rfl, q⟩
/-- .. of a tuple of classes -/
def rIsYT (K : PySem.W.Frag) : List V → Hp → VK → Prop := fun xs H Q => ∃ (a D : Addr) (d : Option Addr) (tp : Addr) (cs : List V) (us : List Value) (b : Bool), xs = [.ref a, .ref tp] ∧ KX H a D d ∧ ExcC K D ∧ H tp = some (.tup cs) ∧ Paired ClsV cs us ∧ PySem.W.kitAny K (.ref D) us = some b ∧ Q (.bl b) H
theorem call_isYT {X : Cx} : CallR X (.builtin "isinstance") (rIsYT X.K) := by
  intro pins s σ H xs us Q I r h
  obtain ⟨a, D, d, tp, cs, ws, b, rfl, ha, C, hT, k, e, q⟩ := h
  obtain ⟨u1, u2, rfl, r1, r2⟩ := vals2 r
  cases (show u1 = Value.ref a from r1)
  cases (show u2 = Value.ref tp from r2)
  obtain ⟨Pp, Z, p⟩ := kx_kit I C ha
  obtain ⟨_, its, rv, o, h1, h2, n, h3⟩ := (show ObjOk X.prog X.w H s.heap tp (.tup cs) from I.hok tp _ hT)
  have e3 := ClsV.all k rv
  subst e3
  obtain ⟨oc, od, dt, sl⟩ := o
  simp only at h2 h3
  subst h2 h3
  exact PySem.W.kia_tup Z I.kIn p h1 e (fun z => nomatch z) fun tk => ⟨.bl b, H, I.tok tk, rfl, q⟩
/-- the field of a kept exception -/
def tYf (C : Addr) (f : Str) (te : TE) : TE := fun σ H Q => te σ H fun x H1 => ∃ (a dd : Addr) (fs : List (Str × V)) (v : V), x = .ref a ∧ H1 a = some (ExI (.ref C) (some dd) a) ∧ H1 dd = some (.xd fs) ∧ fs.lookup f = some v ∧ Q v H1
theorem pe_yf {X : Cx} {C : Addr} {e : Expr} {te : TE} {pos : Pos} {n : Str} (T : XfC X.K C) (hno : PySem.W.findIn X.K (.ref C) n = some none) (he : PE X e te) (hb : attributeBase e n X.env (eval e X.env) = eval e X.env := by rfl) :
    PE X (.Attribute e n pos) (tYf C n te) := by
  refine ⟨fun pins s σ H Q I h => ?_⟩
  refine attr_of hb (thn (he.run pins s σ H _ I h) fun u s1 hh => ?_)
  obtain ⟨x, H1, I1, rx, a, dd, fs, v, ex, ea, ed, l, q⟩ := hh
  subst ex
  obtain rfl : u = Value.ref a := rx
  obtain ⟨⟨oe, got, ⟨zc, zd⟩, vs, hv⟩, _⟩ := I1.hok a _ ea
  have hx : ObjOk X.prog X.w H1 s1.heap dd (.xd fs) := I1.hok dd _ ed
  obtain ⟨mA, hns, hr⟩ := hx
  obtain ⟨od, ho, hl⟩ := lookIn_ns hns
  obtain ⟨u, hu, ru⟩ := RelO.some_of (v := v) (o := mA n) (by rw [← l]; exact hr n)
  have J : PySem.W.InstAt s1.heap a oe C (some od) := ⟨got, zc, by unfold PySem.W.notCls; rw [hv] <;> rfl, by rw [zd]; exact ho⟩
  exact HandSPX.exc_get I1.kIn J T.ga T.gg T.exC (PySem.W.findObj_own T.hdC hno rfl (by rw [hl, hu])) (handed_of ru) ⟨v, H1, I1.tok _, ru, q⟩
end L2X
namespace Dt
open PySem PySem.Spec PyProof.Rows L2 L2X
open SX (S)
/-! ### TooMany and its field -/
abbrev sTM : Stmt := inClass (topS 13) 0
theorem scTM : FnScope ["self", "most"] ["self", "most"] (defScope sTM) := ⟨rfl, rfl, rfl, by decide +kernel, rfl, by decide +kernel, by decide +kernel⟩
def spTM (C : Addr) : Sp := fun vs H Q _ => ∃ (a : Addr) (v : V), vs = [.ref a, v] ∧ H a = some (exo a C none) ∧ ∀ dx, H dx = none → dx ≠ a → Q .non (upd (upd H dx (exd dx [("most", v)])) a (exo a C (some dx)))
/-- the class TooMany as the top has made it -/
structure Ttm (K : PySem.W.Frag) (mg : Str → Option Value) (C : Addr) : Prop where
  g : mg "TooMany" = some (.ref C)
  o : OexC K C
  no : PySem.W.findIn K (.ref C) "most" = some none
  fi : ∃ fI fd, PySem.W.findIn K (.ref C) "__init__" = some (some (.ref fI)) ∧ PySem.W.typeIn K (.ref fI) = some (.type "function") ∧ Fun K "__init__" "TooMany.__init__" sTM fI fd ∧ Binds K fd ["self", "most"] []
/-- it leaves with this in its field -/
def RaiseM (E : XK) (C : Addr) (v : V) (H : Hp) : Prop := ∀ d H', Same H H' → H d = none → H' d = some (.xd [("most", v)]) → E (.ref C) (some d) H'
theorem RaiseM.same {E : XK} {C : Addr} {v : V} {H H' : Hp} (h : RaiseM E C v H) (s : Same H H') : RaiseM E C v H' := fun d H2 s2 n e => h d H2 (s.trans s2) (s.free n) e
theorem raiseM_by {E : XK} {C : Addr} {v : V} {H : Hp} (h : RaiseM E C v H) : [v].length ≤ 1000 ∧ ∀ a, H a = none → spTM C (.ref a :: ([v] ++ [])) (upd H a (exo a C none))
    (fun u H2 => u = .non ∧ ∃ (d : Addr) (fs : List (Str × V)), H2 a = some (exo a C (some d)) ∧ H2 d = some (exd d fs) ∧ H d = none ∧ E (.ref C) (some d) (upd (del H2 a) d (.xd fs))) (fun _ _ _ => False) := by
  refine ⟨by show 1 ≤ 1000; decide, fun a ha => ⟨a, v, rfl, upd_same, fun dx hd ne => ⟨rfl, dx, [("most", v)], upd_same, ?_, ?_, ?_⟩⟩⟩
  · rw [upd_ne ne, upd_same]
  · rw [upd_ne ne] at hd
    exact hd
  · rw [upd_ne ne] at hd
    refine h dx _ (fun b o e => ?_) hd upd_same
    rw [upd_ne (ne_of_none e hd), del_ne (ne_of_none e ha), upd_ne (ne_of_none e ha), upd_ne (ne_of_none e hd), upd_ne (ne_of_none e ha)]
    exact e
section
variable {P : Program} {w : World} {K : PySem.W.Frag} {mg : Str → Option Value} {base : Heap} {C : Addr}
theorem ok_tm {f : Addr} {fd : FuncData} {k : Nat} (F : Fun K "__init__" "TooMany.__init__" sTM f fd) (o : OexC K C) (no : PySem.W.findIn K (.ref C) "most" = some none) : FnOk P w K mg base CX0 (k + 1) f fd ["self", "most"] (spTM C) := by
  refine F.ok scTM (fun vs H Q E h => ?_) (fun cdv A outer s H vs Q E hr h => ?_)
  · obtain ⟨a, v, rfl, _⟩ := h
    rfl
  · obtain ⟨a, v, rfl, ha, q⟩ := h
    refine ⟨_, pss_one (ps_ost (pv 0) (pv 1)), ?_⟩
    exact ⟨v, rfl, .ref a, rfl, a, C, rfl, o, no, .inl ⟨ha, fun dx hd ne => q dx hd ne⟩⟩
end
end Dt
namespace L2X
open PySem PySem.Spec PyProof.Rows L2
end L2X
namespace Dt
open PySem PySem.Spec PyProof.Rows L2 L2X
open SX (S)
def spWordK (D : Addr) (w0 : Str) : Sp := fun vs H Q _ => ∃ a d, vs = [.ref a] ∧ KX H a D d ∧ ∀ H', Same H H' → Q (.str w0) H'
section
variable {P : Program} {w : World} {K : PySem.W.Frag} {mg : Str → Option Value} {base : Heap} {D : Addr} {w0 : Str}
theorem ok_wordK {f : Addr} {fd : FuncData} {k : Nat} (F : Fun K "_law_word" "_law_word" sWord f fd) (T : Tw K mg D w0) : FnOk P w K mg base CX0 (k + 1) f fd ["e"] (spWordK D w0) := by
  refine F.ok scWord (fun vs H Q E h => ?_) (fun cdv A outer s H vs Q E hr h => ?_)
  · obtain ⟨a, _, rfl, _⟩ := h
    rfl
  · obtain ⟨a, dd0, rfl, ha, q⟩ := h
    have nd := scWord.nd
    obtain ⟨b0, b1, b2, b3, b4, b5, b6, b7, b8, b9, b10, b11, ⟨Cc0, g0, k0⟩, ⟨Cc1, g1, k1⟩, ⟨Cc2, g2, k2⟩, ⟨Cc3, g3, k3⟩, ⟨Cc4, g4, k4⟩, ⟨Cc5, g5, k5⟩, ⟨Cc6, g6, k6⟩, ⟨Cc7, g7, k7⟩, ⟨Cc8, g8, k8⟩, ⟨Cc9, g9, k9⟩, ⟨Cc10, g10, k10⟩, ⟨Cc11, g11, k11⟩, hw⟩ := T.kit
    refine ⟨_, C8.pss_cut (ps_set (i := 1) nd rfl (.inl rfl) (pe_lst (pa_cons (pe_tup (pa_cons pe_str (pa_cons (pe_callB call_isY (by rfl) T.isi PyProof.Rows.boot_isinstance (pa_cons (pv 0) (pa_cons (pe_glob (v := .ref Cc0) (by rfl) g0 rfl) pa_nil))) pa_nil))) (pa_cons (pe_tup (pa_cons pe_str (pa_cons (pe_callB call_isY (by rfl) T.isi PyProof.Rows.boot_isinstance (pa_cons (pv 0) (pa_cons (pe_glob (v := .ref Cc1) (by rfl) g1 rfl) pa_nil))) pa_nil))) pa_nil)))) (
      C8.pss_cut (ps_set (i := 1) nd rfl (.inl rfl) (pe_op op_cat (pv 1) (pe_lst (pa_cons (pe_tup (pa_cons pe_str (pa_cons (pe_callB call_isY (by rfl) T.isi PyProof.Rows.boot_isinstance (pa_cons (pv 0) (pa_cons (pe_glob (v := .ref Cc2) (by rfl) g2 rfl) pa_nil))) pa_nil))) pa_nil)))) (
      C8.pss_cut (ps_set (i := 1) nd rfl (.inl rfl) (pe_op op_cat (pv 1) (pe_lst (pa_cons (pe_tup (pa_cons pe_str (pa_cons (pe_callB call_isY (by rfl) T.isi PyProof.Rows.boot_isinstance (pa_cons (pv 0) (pa_cons (pe_glob (v := .ref Cc3) (by rfl) g3 rfl) pa_nil))) pa_nil))) (pa_cons (pe_tup (pa_cons pe_str (pa_cons (pe_callB call_isY (by rfl) T.isi PyProof.Rows.boot_isinstance (pa_cons (pv 0) (pa_cons (pe_glob (v := .ref Cc4) (by rfl) g4 rfl) pa_nil))) pa_nil))) (pa_cons (pe_tup (pa_cons pe_str (pa_cons (pe_callB call_isY (by rfl) T.isi PyProof.Rows.boot_isinstance (pa_cons (pv 0) (pa_cons (pe_glob (v := .ref Cc5) (by rfl) g5 rfl) pa_nil))) pa_nil))) pa_nil)))))) (
      C8.pss_cut (ps_set (i := 1) nd rfl (.inl rfl) (pe_op op_cat (pv 1) (pe_lst (pa_cons (pe_tup (pa_cons pe_str (pa_cons (pe_callB call_isY (by rfl) T.isi PyProof.Rows.boot_isinstance (pa_cons (pv 0) (pa_cons (pe_glob (v := .ref Cc6) (by rfl) g6 rfl) pa_nil))) pa_nil))) (pa_cons (pe_tup (pa_cons pe_str (pa_cons (pe_callB call_isY (by rfl) T.isi PyProof.Rows.boot_isinstance (pa_cons (pv 0) (pa_cons (pe_glob (v := .ref Cc7) (by rfl) g7 rfl) pa_nil))) pa_nil))) pa_nil))))) (
      C8.pss_cut (ps_set (i := 1) nd rfl (.inl rfl) (pe_op op_cat (pv 1) (pe_lst (pa_cons (pe_tup (pa_cons pe_str (pa_cons (pe_callB call_isY (by rfl) T.isi PyProof.Rows.boot_isinstance (pa_cons (pv 0) (pa_cons (pe_glob (v := .ref Cc8) (by rfl) g8 rfl) pa_nil))) pa_nil))) (pa_cons (pe_tup (pa_cons pe_str (pa_cons (pe_callB call_isY (by rfl) T.isi PyProof.Rows.boot_isinstance (pa_cons (pv 0) (pa_cons (pe_glob (v := .ref Cc9) (by rfl) g9 rfl) pa_nil))) pa_nil))) (pa_cons (pe_tup (pa_cons pe_str (pa_cons (pe_callB call_isY (by rfl) T.isi PyProof.Rows.boot_isinstance (pa_cons (pv 0) (pa_cons (pe_glob (v := .ref Cc10) (by rfl) g10 rfl) pa_nil))) pa_nil))) pa_nil)))))) (
      C8.pss_cut (ps_set (i := 1) nd rfl (.inl rfl) (pe_op op_cat (pv 1) (pe_lst (pa_cons (pe_tup (pa_cons pe_str (pa_cons (pe_callB call_isY (by rfl) T.isi PyProof.Rows.boot_isinstance (pa_cons (pv 0) (pa_cons (pe_glob (v := .ref Cc11) (by rfl) g11 rfl) pa_nil))) pa_nil))) pa_nil)))) (
      pss_cons (ps_setLc (i := 2) (own := [("word", 3), ("is_it", 4)]) (g := gTup K 2 (gCons (gName 3) (gCons (gName 4) gNil))) (by rfl) nd rfl rfl (sw_true rfl rfl rfl (by decide +kernel)) (pi_list (pv 1)) (blkOk_by (N := ["e", "marks", "met", "word", "is_it"]) (sc := defScope sWord) (by decide +kernel)) (fun _ _ _ _ _ => pg_tup rfl (pgs_cons (pg_name (i := 3) nd rfl (Or.inl rfl)) (pgs_cons (pg_name (i := 4) nd rfl (Or.inl rfl)) pgs_nil))) (fun _ _ _ _ _ => pts_one (pt_val (pv 4))) (fun _ _ _ _ _ => pv 3)) (
      pss_one (ps_ret (pe_ifExp (PW.pt (pw_and (pt_cmpR op_eq (pe_callB call_len_seq (by rfl) T.len PySem.boot_len (pa_cons (pv 2) pa_nil)) pe_int (nomark _)) (pw_and1 (pt_val (pe_callB call_isY (by rfl) T.isi PyProof.Rows.boot_isinstance (pa_cons (pv 0) (pa_cons (pe_bltn (v := .ty "ValueError") (u := .type "ValueError") (by rfl) T.ver (by decide +kernel) rfl) pa_nil))))))) (pe_ix ix_list (pv 2) pe_int (fun _ _ => rfl)) pe_str))))))))), ?_⟩
    refine ⟨fun σ' H' => ∃ l, σ' = [some (.ref a), some (.ref l), none, none, none] ∧ Same H H' ∧ Mk H' l [("picture", b0), ("place", b1)], ?_, ?_⟩
    · have ha0 : KX H a D dd0 := ha
      have S0 : Same H H := Same.refl _
      refine ⟨.ref a, rfl, a, D, dd0, .ref Cc0, .ref Cc0, b0, rfl, ha0, T.ex, (fun u r => r), k0, by show 2 ≤ sizeLine; decide, fun t0 ht0 => ?_⟩
      have s0 := same_upd (o := .tup [V.str "picture", V.bl b0]) ht0
      have S1 := S0.trans s0
      have ha1 := ha0.same s0
      have f0 := upd_at (o := .tup [V.str "picture", V.bl b0]) s0
      refine ⟨.ref a, rfl, a, D, dd0, .ref Cc1, .ref Cc1, b1, rfl, ha1, T.ex, (fun u r => r), k1, by show 2 ≤ sizeLine; decide, fun t1 ht1 => ?_⟩
      have s1 := same_upd (o := .tup [V.str "place", V.bl b1]) ht1
      have S2 := S1.trans s1
      have ha2 := ha1.same s1
      have f0 := s1 _ _ f0
      have f1 := upd_at (o := .tup [V.str "place", V.bl b1]) s1
      refine ⟨by show 2 ≤ sizeLine; decide, fun l hl => ?_⟩
      have sl := same_upd (o := .lst [.ref t0, .ref t1]) hl
      have tl : Tps _ [.ref t0, .ref t1] [("picture", b0), ("place", b1)] := .cons (sl _ _ f0) (.cons (sl _ _ f1) (.nil))
      have ll := upd_at (o := .lst [.ref t0, .ref t1]) sl
      exact ⟨l, rfl, S2.trans sl, _, ll, tl⟩
    · rintro _ G1 ⟨l1, rfl, sm1, vs1, hv1, tp1⟩
      refine ⟨fun σ' H' => ∃ l, σ' = [some (.ref a), some (.ref l), none, none, none] ∧ Same H H' ∧ Mk H' l [("picture", b0), ("place", b1), ("shape", b2)], ?_, ?_⟩
      · have ha0 : KX G1 a D dd0 := ha.same sm1
        have S0 : Same G1 G1 := Same.refl _
        refine ⟨.ref l1, rfl, .ref a, rfl, a, D, dd0, .ref Cc2, .ref Cc2, b2, rfl, ha0, T.ex, (fun u r => r), k2, by show 2 ≤ sizeLine; decide, fun t2 ht2 => ?_⟩
        have s2 := same_upd (o := .tup [V.str "shape", V.bl b2]) ht2
        have S1 := S0.trans s2
        have ha1 := ha0.same s2
        have f2 := upd_at (o := .tup [V.str "shape", V.bl b2]) s2
        refine ⟨by show 1 ≤ sizeLine; decide, fun l hl => ?_⟩
        have sl := same_upd (o := .lst [.ref t2]) hl
        have tl : Tps _ [.ref t2] [("shape", b2)] := .cons (sl _ _ f2) (.nil)
        have ll := upd_at (o := .lst [.ref t2]) sl
        have hl0 := sl _ _ (S1 _ _ hv1)
        have tp0 := (tp1.same S1).same sl
        have ln0 := tp0.len
        refine ⟨l1, l, _, _, rfl, rfl, hl0, ll, ?_, fun p hp => ?_⟩
        · rw [ln0]
          show 3 ≤ sizeLine
          decide
        · have sp := same_upd (o := .lst (vs1 ++ [.ref t2])) hp
          exact ⟨p, rfl, ((sm1.trans S1).trans sl).trans sp, _, upd_at sp, (tp0.app tl).same sp⟩
      · rintro _ G2 ⟨l2, rfl, sm2, vs2, hv2, tp2⟩
        refine ⟨fun σ' H' => ∃ l, σ' = [some (.ref a), some (.ref l), none, none, none] ∧ Same H H' ∧ Mk H' l [("picture", b0), ("place", b1), ("shape", b2), ("sign", b3), ("word", b4), ("line", b5)], ?_, ?_⟩
        · have ha0 : KX G2 a D dd0 := ha.same sm2
          have S0 : Same G2 G2 := Same.refl _
          refine ⟨.ref l2, rfl, .ref a, rfl, a, D, dd0, .ref Cc3, .ref Cc3, b3, rfl, ha0, T.ex, (fun u r => r), k3, by show 2 ≤ sizeLine; decide, fun t3 ht3 => ?_⟩
          have s3 := same_upd (o := .tup [V.str "sign", V.bl b3]) ht3
          have S1 := S0.trans s3
          have ha1 := ha0.same s3
          have f3 := upd_at (o := .tup [V.str "sign", V.bl b3]) s3
          refine ⟨.ref a, rfl, a, D, dd0, .ref Cc4, .ref Cc4, b4, rfl, ha1, T.ex, (fun u r => r), k4, by show 2 ≤ sizeLine; decide, fun t4 ht4 => ?_⟩
          have s4 := same_upd (o := .tup [V.str "word", V.bl b4]) ht4
          have S2 := S1.trans s4
          have ha2 := ha1.same s4
          have f3 := s4 _ _ f3
          have f4 := upd_at (o := .tup [V.str "word", V.bl b4]) s4
          refine ⟨.ref a, rfl, a, D, dd0, .ref Cc5, .ref Cc5, b5, rfl, ha2, T.ex, (fun u r => r), k5, by show 2 ≤ sizeLine; decide, fun t5 ht5 => ?_⟩
          have s5 := same_upd (o := .tup [V.str "line", V.bl b5]) ht5
          have S3 := S2.trans s5
          have ha3 := ha2.same s5
          have f3 := s5 _ _ f3
          have f4 := s5 _ _ f4
          have f5 := upd_at (o := .tup [V.str "line", V.bl b5]) s5
          refine ⟨by show 3 ≤ sizeLine; decide, fun l hl => ?_⟩
          have sl := same_upd (o := .lst [.ref t3, .ref t4, .ref t5]) hl
          have tl : Tps _ [.ref t3, .ref t4, .ref t5] [("sign", b3), ("word", b4), ("line", b5)] := .cons (sl _ _ f3) (.cons (sl _ _ f4) (.cons (sl _ _ f5) (.nil)))
          have ll := upd_at (o := .lst [.ref t3, .ref t4, .ref t5]) sl
          have hl0 := sl _ _ (S3 _ _ hv2)
          have tp0 := (tp2.same S3).same sl
          have ln0 := tp0.len
          refine ⟨l2, l, _, _, rfl, rfl, hl0, ll, ?_, fun p hp => ?_⟩
          · rw [ln0]
            show 6 ≤ sizeLine
            decide
          · have sp := same_upd (o := .lst (vs2 ++ [.ref t3, .ref t4, .ref t5])) hp
            exact ⟨p, rfl, ((sm2.trans S3).trans sl).trans sp, _, upd_at sp, (tp0.app tl).same sp⟩
        · rintro _ G3 ⟨l3, rfl, sm3, vs3, hv3, tp3⟩
          refine ⟨fun σ' H' => ∃ l, σ' = [some (.ref a), some (.ref l), none, none, none] ∧ Same H H' ∧ Mk H' l [("picture", b0), ("place", b1), ("shape", b2), ("sign", b3), ("word", b4), ("line", b5), ("reading", b6), ("table", b7)], ?_, ?_⟩
          · have ha0 : KX G3 a D dd0 := ha.same sm3
            have S0 : Same G3 G3 := Same.refl _
            refine ⟨.ref l3, rfl, .ref a, rfl, a, D, dd0, .ref Cc6, .ref Cc6, b6, rfl, ha0, T.ex, (fun u r => r), k6, by show 2 ≤ sizeLine; decide, fun t6 ht6 => ?_⟩
            have s6 := same_upd (o := .tup [V.str "reading", V.bl b6]) ht6
            have S1 := S0.trans s6
            have ha1 := ha0.same s6
            have f6 := upd_at (o := .tup [V.str "reading", V.bl b6]) s6
            refine ⟨.ref a, rfl, a, D, dd0, .ref Cc7, .ref Cc7, b7, rfl, ha1, T.ex, (fun u r => r), k7, by show 2 ≤ sizeLine; decide, fun t7 ht7 => ?_⟩
            have s7 := same_upd (o := .tup [V.str "table", V.bl b7]) ht7
            have S2 := S1.trans s7
            have ha2 := ha1.same s7
            have f6 := s7 _ _ f6
            have f7 := upd_at (o := .tup [V.str "table", V.bl b7]) s7
            refine ⟨by show 2 ≤ sizeLine; decide, fun l hl => ?_⟩
            have sl := same_upd (o := .lst [.ref t6, .ref t7]) hl
            have tl : Tps _ [.ref t6, .ref t7] [("reading", b6), ("table", b7)] := .cons (sl _ _ f6) (.cons (sl _ _ f7) (.nil))
            have ll := upd_at (o := .lst [.ref t6, .ref t7]) sl
            have hl0 := sl _ _ (S2 _ _ hv3)
            have tp0 := (tp3.same S2).same sl
            have ln0 := tp0.len
            refine ⟨l3, l, _, _, rfl, rfl, hl0, ll, ?_, fun p hp => ?_⟩
            · rw [ln0]
              show 8 ≤ sizeLine
              decide
            · have sp := same_upd (o := .lst (vs3 ++ [.ref t6, .ref t7])) hp
              exact ⟨p, rfl, ((sm3.trans S2).trans sl).trans sp, _, upd_at sp, (tp0.app tl).same sp⟩
          · rintro _ G4 ⟨l4, rfl, sm4, vs4, hv4, tp4⟩
            refine ⟨fun σ' H' => ∃ l, σ' = [some (.ref a), some (.ref l), none, none, none] ∧ Same H H' ∧ Mk H' l [("picture", b0), ("place", b1), ("shape", b2), ("sign", b3), ("word", b4), ("line", b5), ("reading", b6), ("table", b7), ("deed", b8), ("back", b9), ("many", b10)], ?_, ?_⟩
            · have ha0 : KX G4 a D dd0 := ha.same sm4
              have S0 : Same G4 G4 := Same.refl _
              refine ⟨.ref l4, rfl, .ref a, rfl, a, D, dd0, .ref Cc8, .ref Cc8, b8, rfl, ha0, T.ex, (fun u r => r), k8, by show 2 ≤ sizeLine; decide, fun t8 ht8 => ?_⟩
              have s8 := same_upd (o := .tup [V.str "deed", V.bl b8]) ht8
              have S1 := S0.trans s8
              have ha1 := ha0.same s8
              have f8 := upd_at (o := .tup [V.str "deed", V.bl b8]) s8
              refine ⟨.ref a, rfl, a, D, dd0, .ref Cc9, .ref Cc9, b9, rfl, ha1, T.ex, (fun u r => r), k9, by show 2 ≤ sizeLine; decide, fun t9 ht9 => ?_⟩
              have s9 := same_upd (o := .tup [V.str "back", V.bl b9]) ht9
              have S2 := S1.trans s9
              have ha2 := ha1.same s9
              have f8 := s9 _ _ f8
              have f9 := upd_at (o := .tup [V.str "back", V.bl b9]) s9
              refine ⟨.ref a, rfl, a, D, dd0, .ref Cc10, .ref Cc10, b10, rfl, ha2, T.ex, (fun u r => r), k10, by show 2 ≤ sizeLine; decide, fun t10 ht10 => ?_⟩
              have s10 := same_upd (o := .tup [V.str "many", V.bl b10]) ht10
              have S3 := S2.trans s10
              have ha3 := ha2.same s10
              have f8 := s10 _ _ f8
              have f9 := s10 _ _ f9
              have f10 := upd_at (o := .tup [V.str "many", V.bl b10]) s10
              refine ⟨by show 3 ≤ sizeLine; decide, fun l hl => ?_⟩
              have sl := same_upd (o := .lst [.ref t8, .ref t9, .ref t10]) hl
              have tl : Tps _ [.ref t8, .ref t9, .ref t10] [("deed", b8), ("back", b9), ("many", b10)] := .cons (sl _ _ f8) (.cons (sl _ _ f9) (.cons (sl _ _ f10) (.nil)))
              have ll := upd_at (o := .lst [.ref t8, .ref t9, .ref t10]) sl
              have hl0 := sl _ _ (S3 _ _ hv4)
              have tp0 := (tp4.same S3).same sl
              have ln0 := tp0.len
              refine ⟨l4, l, _, _, rfl, rfl, hl0, ll, ?_, fun p hp => ?_⟩
              · rw [ln0]
                show 11 ≤ sizeLine
                decide
              · have sp := same_upd (o := .lst (vs4 ++ [.ref t8, .ref t9, .ref t10])) hp
                exact ⟨p, rfl, ((sm4.trans S3).trans sl).trans sp, _, upd_at sp, (tp0.app tl).same sp⟩
            · rintro _ G5 ⟨l5, rfl, sm5, vs5, hv5, tp5⟩
              refine ⟨fun σ' H' => ∃ l, σ' = [some (.ref a), some (.ref l), none, none, none] ∧ Same H H' ∧ Mk H' l [("picture", b0), ("place", b1), ("shape", b2), ("sign", b3), ("word", b4), ("line", b5), ("reading", b6), ("table", b7), ("deed", b8), ("back", b9), ("many", b10), ("text", b11)], ?_, ?_⟩
              · have ha0 : KX G5 a D dd0 := ha.same sm5
                have S0 : Same G5 G5 := Same.refl _
                refine ⟨.ref l5, rfl, .ref a, rfl, a, D, dd0, .ref Cc11, .ref Cc11, b11, rfl, ha0, T.ex, (fun u r => r), k11, by show 2 ≤ sizeLine; decide, fun t11 ht11 => ?_⟩
                have s11 := same_upd (o := .tup [V.str "text", V.bl b11]) ht11
                have S1 := S0.trans s11
                have ha1 := ha0.same s11
                have f11 := upd_at (o := .tup [V.str "text", V.bl b11]) s11
                refine ⟨by show 1 ≤ sizeLine; decide, fun l hl => ?_⟩
                have sl := same_upd (o := .lst [.ref t11]) hl
                have tl : Tps _ [.ref t11] [("text", b11)] := .cons (sl _ _ f11) (.nil)
                have ll := upd_at (o := .lst [.ref t11]) sl
                have hl0 := sl _ _ (S1 _ _ hv5)
                have tp0 := (tp5.same S1).same sl
                have ln0 := tp0.len
                refine ⟨l5, l, _, _, rfl, rfl, hl0, ll, ?_, fun p hp => ?_⟩
                · rw [ln0]
                  show 12 ≤ sizeLine
                  decide
                · have sp := same_upd (o := .lst (vs5 ++ [.ref t11])) hp
                  exact ⟨p, rfl, ((sm5.trans S1).trans sl).trans sp, _, upd_at sp, (tp0.app tl).same sp⟩
              · rintro _ G6 ⟨l6, rfl, sm6, vs6, hv6, tp6⟩
                have ln := tp6.len
                have ln' : vs6.length = 12 := ln
                refine ⟨.ref l6, rfl, l6, rfl, ⟨_, SqL.of hv6⟩, fun Dd hDd => lc_list (K := K) (a := l6) (xs := vs6) (fun i H2 => Same G6 H2 ∧ H2 Dd = some (.lst (((([("picture", b0), ("place", b1), ("shape", b2), ("sign", b3), ("word", b4), ("line", b5), ("reading", b6), ("table", b7), ("deed", b8), ("back", b9), ("many", b10), ("text", b11)] : List (Str × Bool)).take i).filter (·.2)).map fun p => V.str p.1))) ⟨same_upd hDd, upd_same⟩ (fun i H2 _ z => SqL.of (z.1 _ _ hv6)) ?_ ?_⟩
                · rintro i x H2 hi ⟨sm, h2⟩
                  obtain ⟨t, w1, b1, rfl, hw1, ht⟩ := tp6.get hi
                  have hil : i < 12 := by
                    rcases Nat.lt_or_ge i vs6.length with z | z
                    · omega
                    · rw [List.getElem?_eq_none z] at hi
                      cases hi
                  refine ⟨t, [.str w1, .bl b1], rfl, SqT.of (sm _ _ ht), rfl, .str w1, [.bl b1], rfl, .bl b1, [], rfl, rfl, rfl, .bl b1, rfl, b1, rfl, ?_⟩
                  have tk := take_snoc hw1
                  cases b1 with
                  | false =>
                    refine iteF ⟨sm, ?_⟩
                    rw [tk, List.filter_append, List.map_append]
                    simpa using h2
                  | true =>
                    refine iteT ⟨.str w1, rfl, _, h2, ?_, ?_, ?_⟩
                    · rw [List.length_map]
                      refine Nat.lt_of_le_of_lt (List.length_filter_le _ _) ?_
                      rw [List.length_take]
                      exact small1000 (by omega)
                    · exact fun b o e => by
                        rw [upd_ne (ne_of_none e hDd)]
                        exact sm _ _ e
                    · rw [upd_same, tk, List.filter_append, List.map_append]
                      rfl
                · rintro H2 ⟨sm, h2⟩
                  have e12 : (([("picture", b0), ("place", b1), ("shape", b2), ("sign", b3), ("word", b4), ("line", b5), ("reading", b6), ("table", b7), ("deed", b8), ("back", b9), ("many", b10), ("text", b11)] : List (Str × Bool)).take vs6.length) = ([("picture", b0), ("place", b1), ("shape", b2), ("sign", b3), ("word", b4), ("line", b5), ("reading", b6), ("table", b7), ("deed", b8), ("back", b9), ("many", b10), ("text", b11)] : List (Str × Bool)) := by
                    rw [ln']
                    rfl
                  rw [e12, hw] at h2
                  refine ⟨.ref Dd, rfl, Dd, _, rfl, .inl (SqL.of h2), rfl, _, rfl, iteT ?_⟩
                  refine ⟨.ref a, rfl, a, D, dd0, .ty "ValueError", .type "ValueError", true, rfl, ha.same (sm6.trans sm), T.ex, (fun u r => r), T.vk, true, rfl, iteT ?_⟩
                  exact ⟨.ref Dd, rfl, Dd, _, 0, .str w0, rfl, rfl, SqL.of h2, atI_nat (j := 0) rfl, q _ (sm6.trans sm)⟩
end
end Dt
/-! a caught exception kept behind the first of several clauses (as S1T, for k08) -/
namespace L2X
open PySem PySem.Spec PyProof.Rows L2
/-- the wish of a clause 'except x as n' that takes all that comes, and behind which the exception is kept -/
def wKeep2 (K : PySem.W.Frag) (c : Value) (i : Nat) (ts : Addr → Value → Option Addr → TS) (D : Ends) : WX := fun cls d σ H =>
  PySem.W.exmOne K cls c = some true ∧ ∀ a, H a = none → ts a cls d { nx := fun σ' H' => D.nx (σ'.set i none) H', rt := fun _ _ => False } (σ.set i (some (.ref a))) H
section
variable {X : Cx} {x n : Str} {c : Value} {i : Nat} {body sr : List Stmt} {hds : List ExceptHandler} {b0 : Stmt} {np p1 p2 : Pos} {tb : WX → TS} {ts : Addr → Value → Option Addr → TS}
/-- what the watch over a try's body does with an exception -/
def Watch2 (X : Cx) (pins : List (Addr × Obj)) (D : Ends) (hds : List ExceptHandler) : Value → Shared → Prop := fun e sa =>
  wpAny (model X.prog X.w) X.A (noteFrame e X.env)
    (fun _ sb => wpAny (model X.prog X.w) X.A (setFlight e none)
      (fun _ sc => wpAny (model X.prog X.w) X.A (handleBy e X.env hds) (SP X pins D) X.xe sc) X.xe sb) X.xe sa
theorem watched2 {pins : List (Addr × Obj)} {D : Ends} (st : X.stack = X.env :: X.outer) (fr : X.env.frame = some X.env.locals) (hex : X.ex = []) (hN : X.N.Nodup) (hi : X.N[i]? = some n) (hln : X.env.kindOf n = some .local) (hc : Names X x c) (ok : X.Ok)
    (hsu : ∀ (a : Addr) (oe : Obj) (cls : Value) (d : Option Addr) (pn : List (Addr × Obj)), Zc cls d oe → (∃ vs, oe.data = .fields vs) → PSs (X.suite a ((a, oe) :: pn)) (b0 :: sr) (ts a cls d)) :
    Takes (X.tr (X.pn ++ pins) (Watch2 X pins D (.ExceptHandler (some (.Name x np)) (some n) (b0 :: sr) p2 :: hds))) (wKeep2 X.K c i ts D) := by
  rintro u t ⟨a, B, sI, pj, τ, G, cls, d, rfl, Jt, toB, up, sky, na, os, ag, caught, suiteOk⟩
  have J : Inv X pins τ G sI := Jt.ofTry ok
  have fs : X.A.frames = some (X.env :: X.outer) := ok.frames.trans (congrArg some st)
  have sky' : Sky B (X.env :: X.outer) a (Zc cls d) X.env.locals t.heap := st ▸ sky
  unfold Watch2
  apply Sky.land Zc.steady fs fr sky'
  intro h3 fly up3
  have J3 : Inv X pins τ G { t with heap := h3 } := J.landed toB fly.1 (up.trans up3) os ag
  obtain ⟨oe3, vs3, got3, cls3, dat3⟩ := fly.there
  have noFrame : a ∉ frs (X.env :: X.outer) := by
    intro hm
    obtain ⟨_, o', e', nf⟩ := fly.2.2.1.mem hm
    rw [got3] at e'
    cases e'
    exact nf _ dat3
  have neL : a ≠ X.env.locals := fun z => noFrame (List.mem_filterMap.mpr ⟨X.env, List.mem_cons_self, by rw [fr, z]⟩)
  have neF : a ∉ X.fs := by
    intro hm
    obtain ⟨e, he, q⟩ := List.mem_filterMap.mp hm
    exact noFrame (List.mem_filterMap.mpr ⟨e, List.mem_cons_of_mem _ he, q⟩)
  have notI : sI.heap.get? a = none := by
    cases e : sI.heap.get? a with
    | none => rfl
    | some o =>
      have z := toB a o e (by rw [st]; exact noFrame)
      rw [fly.2.1] at z
      cases z
  have not0 : X.s_0.heap.get? a = none := by
    cases e : X.s_0.heap.get? a with
    | none => rfl
    | some o =>
      obtain ⟨o', z⟩ := J.base.there a o e (by rw [hex]; exact fun z => nomatch z)
      rw [notI] at z
      cases z
  have notPin : ∀ p ∈ X.pn ++ pins, p.1 ≠ a := by
    rintro p hp rfl
    have z := (J.pin p hp).1
    rw [notI] at z
    cases z
  have S3 := J3.suite got3 dat3 na neL neF
  apply wpAny_handleBy_cons (codeAny_handlers_test _) (by intro q; cases q)
  have lookT : PySem.W.Looks (model X.prog X.w) h3 (typeOf (.ref a)) cls := by
    intro A Q E s k q
    exact wpAny_typeOf_ref (k _ _ got3) (cls3.1 ▸ q)
  have lookM := PySem.W.exm_one (M := model X.prog X.w) J3.kIn lookT caught
  have named : ∀ {Q E : Value → Shared → Prop}, Q c { t with heap := h3 } → wpAny (model X.prog X.w) (X.A.mark (some (.ref a))) (eval (.Name x np) X.env) Q E { t with heap := h3 } := by
    intro Q E q
    rcases hc with ⟨hg, hdb, hm | ⟨hm, hv, hnn⟩⟩
    · exact ld_glob (X := X.suite a ((a, oe3) :: (X.pn ++ pins))) S3 hg hm q hdb
    · exact ld_blt (X := X.suite a ((a, oe3) :: (X.pn ++ pins))) S3 hg hm hv q hnn hdb
  apply named
  apply lookM.here
  refine codeAny_handlers_suite_as ?_
  apply HandSPX.lands_againZ fly
  intro h4 fly4 up4
  have J4 : Inv X pins τ G { t with heap := h4 } := J.landed toB fly4.1 ((up.trans up3).trans up4) os ag
  obtain ⟨oe4, vs4, got4, cls4, dat4⟩ := fly4.there
  have S4 := J4.suite got4 dat4 na neL neF
  refine store_ok (X := X.suite a ((a, oe4) :: (X.pn ++ pins))) (v := .ref a) S4 hN hi (.inl hln) rfl (fun s5 S5 => ?_) (.inr hln)
  refine wpAny_mono ((hsu a oe4 cls d (X.pn ++ pins) cls4 ⟨_, dat4⟩).run [] s5 _ G _ S5 (suiteOk a na)) ?_ (fun _ _ z => False.elim z)
  rintro f s6 hsp
  cases f with
  | next =>
    obtain ⟨τ6, G6, S6, q6⟩ := hsp
    have pinned : Inv X ((a, oe4) :: pins) τ6 G6 s6 := by
      refine (S6.unsuite ok).pins_of fun p hp => ?_
      have z := S6.pin p
      cases List.mem_cons.mp hp with
      | inl e => exact z (by rw [e]; exact List.mem_append_left _ List.mem_cons_self)
      | inr e => exact z (List.mem_append_left _ (List.mem_cons_of_mem _ (List.mem_append_right _ e)))
    refine gone_ok pinned hN hi hln fun s7 J7 => ?_
    have z := J7.pin (a, oe4) (List.mem_append_right _ List.mem_cons_self)
    have J8 : Inv X pins (τ6.set i none) G6 s7 := J7.pins_of fun p hp => J7.pin p (List.mem_append_right _ (List.mem_cons_of_mem _ hp))
    exact ⟨_, _, J8, q6⟩
  | brk =>
    obtain ⟨τ6, G6, S6, q6⟩ := hsp
    exact q6.elim
  | cont =>
    obtain ⟨τ6, G6, S6, q6⟩ := hsp
    exact q6.elim
  | ret u =>
    obtain ⟨v6, τ6, G6, S6, r6, q6⟩ := hsp
    exact q6.elim
/-- try: body / except x as n: suite, n's exception kept under watch behind it -/
theorem ps_try_keep2 (st : X.stack = X.env :: X.outer) (fr : X.env.frame = some X.env.locals) (hex : X.ex = []) (hN : X.N.Nodup) (hi : X.N[i]? = some n) (hln : X.env.kindOf n = some .local) (hc : Names X x c)
    (hb : ∀ (W : WX) (pn : List (Addr × Obj)) (xe : Value → Shared → Prop), Takes (X.tr pn xe) W → PassesOwn (model X.prog X.w) X.A X.env xe → PSs (X.tr pn xe) body (tb W))
    (hsu : ∀ (a : Addr) (oe : Obj) (cls : Value) (d : Option Addr) (pn : List (Addr × Obj)), Zc cls d oe → (∃ vs, oe.data = .fields vs) → PSs (X.suite a ((a, oe) :: pn)) (b0 :: sr) (ts a cls d)) :
    PS X (.Try body (.ExceptHandler (some (.Name x np)) (some n) (b0 :: sr) p2 :: hds) [] [] p1) (fun D σ H => tb (wKeep2 X.K c i ts D) D σ H) := by
  constructor
  intro pins s σ H D I h
  apply wpAny_Try_except
  have run := (hb (wKeep2 X.K c i ts D) (X.pn ++ pins) (Watch2 X pins D (.ExceptHandler (some (.Name x np)) (some n) (b0 :: sr) p2 :: hds)) (watched2 st fr hex hN hi hln hc I.ok hsu) PassesOwn.looking).run [] s σ H D (I.toTry _) h
  refine wpAny_mono run ?_ (fun _ _ z => z)
  rintro f t hsp
  cases f with
  | next =>
    obtain ⟨τ, G, J, q⟩ := hsp
    exact wpAny_execs_nil ⟨τ, G, J.ofTry I.ok, q⟩
  | brk =>
    obtain ⟨τ, G, J, q⟩ := hsp
    exact ⟨τ, G, J.ofTry I.ok, q⟩
  | cont =>
    obtain ⟨τ, G, J, q⟩ := hsp
    exact ⟨τ, G, J.ofTry I.ok, q⟩
  | ret u =>
    obtain ⟨v, τ, G, J, r, q⟩ := hsp
    exact ⟨v, τ, G, J.ofTry I.ok, r, q⟩
end
end L2X
namespace Dt
open PySem PySem.Spec PyProof.Rows L2 L2X LamX
open SX (S)
/-! ### a work refused with a field: its word, and what it says -/
/-- what _law_refused makes of it -/
def TRefK (D : Addr) (w0 : Str) : (XK → Hp → VK → Prop) → Hp → VK → Prop := fun tl H Q => ∀ R : VK,
  tl (fun cls d H' => cls = .ref D ∧ (∃ dd fs, d = some dd ∧ H' dd = some (.xd fs)) ∧ ∀ H'', Same H' H'' → Q (.str w0) H'') H R
theorem ref_givesK {X : Cx} {k : Nat} {q w0 : Str} {g fW CD D : Addr} {fdW : FuncData} {cdg : Value}
    (GW : FnOk X.prog X.w X.K X.mg X.base CX0 (k + 1) fW fdW ["e"] (spWordK D w0)) (mW : X.mg "_law_word" = some (.ref fW)) (kW : PySem.W.keepIn X.K (.ref fW) = true) (bW : Binds X.K fdW ["e"] [])
    (mD : X.mg "DotError" = some (.ref CD)) (exm : PySem.W.exmOne X.K (.ref D) (.ref CD) = some true) :
    GivesR X (k + 1) ["work", "error", "e"] "_law_refused" (defScope sRef) g cdg (defBody sRef) "work" q (TRefK D w0) := by
  intro f c s H Q tl hr act hc h
  have nd := scRef.nd
  refine ⟨_, pss_cons (ps_set (i := 1) nd rfl (.inl rfl) pe_non)
    (C8.pss_cut (ps_try_keep (i := 2) (c := .ref CD) (ts := fun a cls d => tAsg (tVar 2) (gName 1))
        (tb := fun W Dn σ H => ∃ Ech : XK, (∀ cls d σ' H', Ech cls d H' → σ'.length = 3 → W cls d σ' H') ∧ σ[0]? = some (some (.ref f)) ∧ H c = some (CodeO c q) ∧ tl Ech H (fun _ H' => Dn.nx σ H'))
        rfl rfl rfl nd rfl rfl ⟨rfl, by decide, .inl mD⟩ (fun W pn xe tk _ => ?_) (fun a oe cls d pn _ _ => pss_one (ps_set (i := 1) nd rfl (.inl rfl) (pv 2))))
      (pss_one (ps_ret (pe_ifExp (pt_cmp (pc_isN (pv 1))) pe_str (pe_call GW hr (by rfl) mW kW bW .nil pass0 (pa_cons (pv 1) pa_nil)))))), ?_⟩
  · constructor
    rintro pins s' σ H' Dn I ⟨Ech, hW, h1, h2, h3⟩
    exact (pss_one (ps_expr (act _ pn xe Ech _ _ (takesLen tk) hW))).run pins s' σ H' Dn I ⟨h1, h2, h3⟩
  · refine ⟨fun σ' H' => ∃ a y0 d, σ' = [y0, some (.ref a), none] ∧ KX H' a D d ∧ ∀ H'', Same H' H'' → Q (.str w0) H'', ?_, ?_⟩
    · refine ⟨_, ?_, rfl, hc, h _⟩
      rintro cls d σ' H' ⟨rfl, ⟨dd, fs, rfl, hd⟩, hq⟩ hlen
      refine ⟨exm, fun a ha => ?_⟩
      match σ', hlen with
      | [y0, y1, y2], _ => exact ⟨.ref a, rfl, a, y0, _, rfl, ⟨upd_same, .inr ⟨dd, fs, rfl, same_upd ha _ _ hd⟩⟩, fun H'' sm => hq H'' ((same_upd ha).trans sm)⟩
    · rintro σ' H' ⟨a, y0, d, rfl, ha, hq⟩
      refine ⟨.ref a, rfl, _, rfl, iteF ?_⟩
      exact ⟨.ref a, rfl, a, d, rfl, ha, hq⟩
abbrev sAt : Stmt := topS 47
theorem scAt : FnScope ["work", "found", "e"] ["work"] (defScope sAt) := ⟨rfl, rfl, rfl, by decide +kernel, rfl, by decide +kernel, by decide +kernel⟩
/-- what _law_at makes of it: a list of what stands in the field -/
def TAt (D : Addr) : (XK → Hp → VK → Prop) → Hp → VK → Prop := fun tl H Q => ∀ R : VK,
  tl (fun cls d H' => cls = .ref D ∧ (∃ dd v, d = some dd ∧ H' dd = some (.xd [("at", v)]) ∧ ∀ l H'', Same H' H'' → H'' l = some (.lst [v]) → Q (.ref l) H'')) H R
theorem at_gives {X : Cx} {k : Nat} {q : Str} {g D : Addr} {cdg : Value} (N : Tns X.K X.mg D) (TS : XfC X.K D) (exm : PySem.W.exmOne X.K (.ref D) (.ref D) = some true) :
    GivesR X (k + 1) ["work", "found", "e"] "_law_at" (defScope sAt) g cdg (defBody sAt) "work" q (TAt D) := by
  intro f c s H Q tl hr act hc h
  have nd := scAt.nd
  generalize X.K = K at *
  generalize X.mg = mg at *
  refine ⟨_, pss_cons (ps_set (i := 1) nd rfl (.inl rfl) pe_non)
    (C8.pss_cut (ps_try_keep2 (i := 2) (c := .ref D)
        (tb := fun W Dn σ H => ∃ Ech : XK, (∀ cls d σ' H', Ech cls d H' → σ'.length = 3 → W cls d σ' H') ∧ σ[0]? = some (some (.ref f)) ∧ H c = some (CodeO c q) ∧ tl Ech H (fun _ H' => Dn.nx σ H'))
        rfl rfl rfl nd rfl rfl ⟨rfl, by decide, .inl N.g⟩ (fun W pn xe tk _ => ?_) (fun a oe cls d pn hz hf => pss_one (ps_set (i := 1) nd rfl (.inl rfl) (pe_lst (pa_cons (pe_xf (C := D) TS N.no hz hf (pv 2)) pa_nil)))))
      (pss_one (ps_ret (pv 1)))), ?_⟩
  · constructor
    rintro pins s' σ H' Dn I ⟨Ech, hW, h1, h2, h3⟩
    exact (pss_one (ps_expr (act _ pn xe Ech _ _ (takesLen tk) hW))).run pins s' σ H' Dn I ⟨h1, h2, h3⟩
  · refine ⟨fun σ' H' => ∃ y0 u, σ' = [y0, some u, none] ∧ Q u H', ?_, ?_⟩
    · refine ⟨_, ?_, rfl, hc, h _⟩
      rintro cls d σ' H' ⟨rfl, dd, v, rfl, hd, hq⟩ hlen
      refine ⟨exm, fun a ha => ?_⟩
      match σ', hlen with
      | [y0, y1, y2], _ =>
        refine ⟨.ref a, rfl, rfl, rfl, dd, _, v, rfl, hd, (by simp [List.lookup]), by show 1 ≤ sizeLine; decide, fun l hl => ?_⟩
        exact ⟨y0, .ref l, rfl, hq l _ (same_upd hl) upd_same⟩
    · rintro σ' H' ⟨y0, u, rfl, hq⟩
      exact ⟨u, rfl, hq⟩
end Dt

namespace Dt
open PySem PySem.Spec PyProof.Rows L2 L2X
open SX (S)
/-! ### tuples cut and put together, whatever objects they are -/
theorem rep_anyI {K : PySem.W.Frag} {H : Hp} {a : Addr} {x : V} {i : Int} {k : Nat} {Q : VK} (e : i = (k : Int)) (h : H a = some (.tup [x])) (h1 : 1 ≤ k) (h2 : k ≤ 1000) (q : ∀ z H2, Same H H2 → H2 z = some (.tup (List.replicate k x)) → Q (.ref z) H2) :
    rRepA K (.ref a) (.int i) H Q := by
  rw [e]
  exact rep_any h h1 h2 q
theorem cutS_butlast {l : List Nat} (h : 1 ≤ l.length) : cutS (S l) none (some (-1)) = S (l.take (l.length - 1)) := by
  unfold cutS
  have e : HT.sIx (S l).length (S l).length (some (-1)) = l.length - 1 := by
    rw [SX.S_len]
    show (if (-1 : Int) < 0 then ((-1 : Int) + (l.length : Int)).toNat else min (-1 : Int).toNat l.length) = _
    rw [if_pos (by decide)]
    omega
  rw [e]
  show (⟨((l.drop 0).take (l.length - 1 - 0)).toArray⟩ : Str) = _
  rw [List.drop_zero, Nat.sub_zero]
theorem cutS_tail (l : List Nat) : cutS (S l) (some 1) none = S (l.drop 1) := by
  unfold cutS
  have e : HT.sIx (S l).length 0 (some 1) = min 1 l.length := by
    rw [SX.S_len]
    exact HT.sIx_nat l.length 0 1
  rw [e, HT.sIx_none, SX.S_len]
  cases l with
  | nil => rfl
  | cons c r =>
    have m : min 1 (c :: r).length = 1 := by
      rw [List.length_cons]
      omega
    rw [m]
    show (⟨(List.take ((c :: r).length - 1) r).toArray⟩ : Str) = _
    rw [List.length_cons, Nat.add_sub_cancel, List.take_length]
    rfl
/-! ### what stays through draws -/
theorem tyB_dn {K : PySem.W.Frag} {d g c : Addr} {H H' : Hp} {x : V} {T : String} (s : Dn d g H H') (D : Dr H d g c) (D' : Dr H' d g c) (t : TyB K H x T) : TyB K H' x T := by
  obtain ⟨⟨r, tt, h1⟩, ⟨gs, h2, _⟩, _, _⟩ := D
  obtain ⟨⟨r', tt', h1'⟩, ⟨gs', h2', _⟩, _, _⟩ := D'
  cases t with
  | non => exact .non
  | bl b => exact .bl b
  | int i => exact .int i
  | str x => exact .str x
  | byt b => exact .byt b
  | @lst a xs h =>
    rcases h with (h | ⟨o, h⟩) | h
    · by_cases e : a = g
      · rw [e]
        exact .lst (SqL.of h2')
      · exact .lst (SqL.of (s _ _ h (ne_of h h1 (by intro z; cases z)) e))
    · exact .lst (.inl (.inr ⟨o, s _ _ h (ne_of h h1 (by intro z; cases z)) (ne_of h h2 (by intro z; cases z))⟩))
    · exact .lst (.inr h)
  | @tup a xs h =>
    rcases h with (h | ⟨o, h⟩) | h
    · exact .tup (SqT.of (s _ _ h (ne_of h h1 (by intro z; cases z)) (ne_of h h2 (by intro z; cases z))))
    · exact .tup (.inl (.inr ⟨o, s _ _ h (ne_of h h1 (by intro z; cases z)) (ne_of h h2 (by intro z; cases z))⟩))
    · exact .tup (.inr h)
  | @dK a kvs h =>
    by_cases e : a = d
    · rw [e]
      exact .dK h1'
    · exact .dK (s _ _ h e (ne_of h h2 (by intro z; cases z)))
theorem sqT_dn {K : PySem.W.Frag} {d g c a : Addr} {H H' : Hp} {xs : List V} (s : Dn d g H H') (D : Dr H d g c) (h : SqT K H a xs) : SqT K H' a xs := by
  obtain ⟨⟨r, tt, h1⟩, ⟨gs, h2, _⟩, _, _⟩ := D
  rcases h with (h | ⟨o, h⟩) | h
  · exact SqT.of (s _ _ h (ne_of h h1 (by intro z; cases z)) (ne_of h h2 (by intro z; cases z)))
  · exact .inl (.inr ⟨o, s _ _ h (ne_of h h1 (by intro z; cases z)) (ne_of h h2 (by intro z; cases z))⟩)
  · exact .inr h
theorem Kn.dn {K : PySem.W.Frag} {d g c : Addr} {H H' : Hp} {x : V} (h : Kn K H x) (s : Dn d g H H') (D : Dr H d g c) (D' : Dr H' d g c) : Kn K H' x := by
  obtain ⟨⟨T, t, ok⟩, z⟩ := h
  exact ⟨⟨T, tyB_dn s D D' t, ok⟩, z⟩
theorem Asked.dn {K : PySem.W.Frag} {d g c : Addr} {H H' : Hp} {x : V} {b : Bool} (h : Asked K H x b) (s : Dn d g H H') (D : Dr H d g c) (D' : Dr H' d g c) : Asked K H' x b := by
  rcases h with ⟨T, t, ok, ne, e⟩ | ⟨a, xs, e, h1, h2, e2⟩
  · exact .inl ⟨T, tyB_dn s D D' t, ok, ne, e⟩
  · exact .inr ⟨a, xs, e, sqT_dn s D h1, fun l y hy => (h2 l y hy).dn s D D', e2⟩
theorem tyB_same {K : PySem.W.Frag} {H H' : Hp} {x : V} {T : String} (t : TyB K H x T) (s : Same H H') : TyB K H' x T := by
  cases t with
  | non => exact .non
  | bl b => exact .bl b
  | int i => exact .int i
  | str x => exact .str x
  | byt b => exact .byt b
  | lst h => exact .lst (s.seq h)
  | tup h => exact .tup (sameT s h)
  | dK h => exact .dK (s _ _ h)
theorem asked_same {K : PySem.W.Frag} {H H' : Hp} {x : V} {b : Bool} (h : Asked K H x b) (s : Same H H') : Asked K H' x b := by
  rcases h with ⟨T, t, ok, ne, e⟩ | ⟨a, xs, e, h1, h2, e2⟩
  · exact .inl ⟨T, tyB_same t s, ok, ne, e⟩
  · exact .inr ⟨a, xs, e, sameT s h1, fun l y hy => (h2 l y hy).same s, e2⟩
def Bad0 (K : PySem.W.Frag) (H : Hp) (o : V) : Prop := Kn K H o ∧ rowOk o = false
def Bad1 (K : PySem.W.Frag) (H : Hp) (wide : Nat) (o : V) : Prop := Kn K H o ∧ (rowOk o = false ∨ lenV o ≠ (wide : Int))
theorem kn_str {K : PySem.W.Frag} {H : Hp} {z : Str} (h : z.length ≤ sizeLine) : Kn K H (.str z) := ⟨⟨"str", .str z, rfl⟩, fun y e => by cases e; exact h⟩
/-! ### _law_odd_picture -/
def spOdd (K : PySem.W.Frag) : Sp := fun vs H Q _ => ∃ (d g c a : Addr) (high wide : Nat) (rs : List (List Nat)), vs = [.ref d, .ref a] ∧ Dr H d g c ∧ PicR high wide rs ∧ H a = some (.tup (rs.map rv)) ∧
  ∀ x H', Asked K H' x false → Dr H' d g c → Dn d g H H' → Q x H'
section
variable {P : Program} {w : World} {K : PySem.W.Frag} {mg : Str → Option Value} {base : Heap}
end
end Dt

namespace L2X
open PySem PySem.Spec PyProof.Rows L2
/-- repr(a), a data, where no repr runs around -/
theorem call_reprD {X : Cx} (hgd : X.A.guards = some []) (hu : X.A.units + 64 < cLine) : CallR X (.builtin "repr") (fun xs H Q => ∃ a d, xs = [.ref a] ∧ Dp X.K H (.ref a) d ∧ d.showable = true ∧ d.hasDict = false ∧ d.depth ≤ 60 ∧ d.shown.length ≤ sizeLine ∧ Q (.str d.shown) H) := by
  intro pins s σ H xs us Q I r h
  obtain ⟨a, d, rfl, dp, hs, hd, hdp, hz, q⟩ := h
  obtain ⟨u, rfl, rx⟩ := vals1 r
  obtain ⟨as, rd⟩ := Dp.reads I d (.ref a) u dp rx
  cases rx
  exact repr_of_reads' rd hs (fun z => by rw [hd] at z; cases z) hgd (by omega) (fun b o e => e) (fun h' t tk keep => ⟨.str d.shown, H, I.kept (t' := tk) keep, ⟨_, rfl⟩, q⟩) hz
end L2X
namespace Dt
open PySem PySem.Spec PyProof.Rows L2 L2X LamX
/-! ### kinds stay -/
structure Kd (H H' : Hp) : Prop where
  tup : ∀ b xs, H b = some (.tup xs) → H' b = some (.tup xs)
  frz : ∀ b o u, H b = some (.frz o u) → H' b = some (.frz o u)
  lst : ∀ b xs, H b = some (.lst xs) → ∃ ys, H' b = some (.lst ys)
  dct : ∀ b ks, H b = some (.dK ks) → ∃ ls, H' b = some (.dK ls)
theorem Kd.refl {H : Hp} : Kd H H := ⟨fun _ _ e => e, fun _ _ _ e => e, fun _ xs e => ⟨xs, e⟩, fun _ ks e => ⟨ks, e⟩⟩
theorem Kd.trans {H H1 H2 : Hp} (a : Kd H H1) (b : Kd H1 H2) : Kd H H2 where
  tup := fun x xs e => b.tup _ _ (a.tup _ _ e)
  frz := fun x o u e => b.frz _ _ _ (a.frz _ _ _ e)
  lst := fun x xs e => by
    obtain ⟨ys, z⟩ := a.lst _ _ e
    exact b.lst _ _ z
  dct := fun x ks e => by
    obtain ⟨ys, z⟩ := a.dct _ _ e
    exact b.dct _ _ z
theorem Kd.same {H H' : Hp} (s : Same H H') : Kd H H' := ⟨fun _ _ e => s _ _ e, fun _ _ _ e => s _ _ e, fun _ xs e => ⟨xs, s _ _ e⟩, fun _ ks e => ⟨ks, s _ _ e⟩⟩
theorem Kd.ext {H H' : Hp} (s : ExtN H H') : Kd H H' := ⟨fun _ _ e => s _ _ e (fun _ z => nomatch z), fun _ _ _ e => s _ _ e (fun _ z => nomatch z), fun _ xs e => ⟨xs, s _ _ e (fun _ z => nomatch z)⟩, fun _ ks e => ⟨ks, s _ _ e (fun _ z => nomatch z)⟩⟩
theorem Kd.list {H : Hp} {l : Addr} {xs ys : List V} (h : H l = some (.lst xs)) : Kd H (upd H l (.lst ys)) where
  tup := fun b zs e => by rw [upd_ne (ne_of e h (by intro z; cases z))]; exact e
  frz := fun b o u e => by rw [upd_ne (ne_of e h (by intro z; cases z))]; exact e
  lst := fun b zs e => by
    by_cases hb : b = l
    · rw [hb]
      exact ⟨ys, upd_same⟩
    · exact ⟨zs, by rw [upd_ne hb]; exact e⟩
  dct := fun b ks e => ⟨ks, by rw [upd_ne (ne_of e h (by intro z; cases z))]; exact e⟩
theorem Kd.del {H : Hp} {f : Addr} {φ : Heap → Prop} (h : H f = some (.ext φ)) : Kd H (delH H f) where
  tup := fun b zs e => by rw [delH_ne (ne_of e h (by intro z; cases z))]; exact e
  frz := fun b o u e => by rw [delH_ne (ne_of e h (by intro z; cases z))]; exact e
  lst := fun b zs e => ⟨zs, by rw [delH_ne (ne_of e h (by intro z; cases z))]; exact e⟩
  dct := fun b ks e => ⟨ks, by rw [delH_ne (ne_of e h (by intro z; cases z))]; exact e⟩
theorem Kd.sqT {K : PySem.W.Frag} {H H' : Hp} {a : Addr} {xs : List V} (k : Kd H H') (h : SqT K H a xs) : SqT K H' a xs := by
  rcases h with (h | ⟨o, h⟩) | h
  · exact SqT.of (k.tup _ _ h)
  · exact .inl (.inr ⟨o, k.frz _ _ _ h⟩)
  · exact .inr h
theorem Kd.ty {K : PySem.W.Frag} {H H' : Hp} {x : V} {T : String} (k : Kd H H') (t : TyB K H x T) : TyB K H' x T := by
  cases t with
  | non => exact .non
  | bl b => exact .bl b
  | int i => exact .int i
  | str x => exact .str x
  | byt b => exact .byt b
  | lst h =>
    rcases h with (h | ⟨o, h⟩) | h
    · obtain ⟨ys, z⟩ := k.lst _ _ h
      exact .lst (SqL.of z)
    · exact .lst (.inl (.inr ⟨o, k.frz _ _ _ h⟩))
    · exact .lst (.inr h)
  | tup h => exact .tup (k.sqT h)
  | dK h =>
    obtain ⟨ls, z⟩ := k.dct _ _ h
    exact .dK z
theorem Kd.kn {K : PySem.W.Frag} {H H' : Hp} {x : V} (k : Kd H H') (h : Kn K H x) : Kn K H' x := by
  obtain ⟨⟨T, t, ok⟩, z⟩ := h
  exact ⟨⟨T, k.ty t, ok⟩, z⟩
theorem Kd.asked {K : PySem.W.Frag} {H H' : Hp} {x : V} {b : Bool} (k : Kd H H') (h : Asked K H x b) : Asked K H' x b := by
  rcases h with ⟨T, t, ok, ne, e⟩ | ⟨a, xs, e, h1, h2, e2⟩
  · exact .inl ⟨T, k.ty t, ok, ne, e⟩
  · exact .inr ⟨a, xs, e, k.sqT h1, fun l y hy => k.kn (h2 l y hy), e2⟩
theorem Dr.ext {H H' : Hp} {d g c : Addr} (D : Dr H d g c) (s : ExtN H H') : Dr H' d g c := by
  obtain ⟨⟨r, t, h1⟩, ⟨gs, h2, h3⟩, ⟨cs, h4, h5⟩, h6⟩ := D
  exact ⟨⟨r, t, s _ _ h1 (fun _ z => nomatch z)⟩, ⟨gs, s _ _ h2 (fun _ z => nomatch z), h3⟩, ⟨cs, s _ _ h4 (fun _ z => nomatch z), h5⟩, h6⟩
theorem Dr.del {H : Hp} {d g c f : Addr} {φ : Heap → Prop} (D : Dr H d g c) (h : H f = some (.ext φ)) : Dr (delH H f) d g c := by
  obtain ⟨⟨r, t, h1⟩, ⟨gs, h2, h3⟩, ⟨cs, h4, h5⟩, h6⟩ := D
  exact ⟨⟨r, t, by rw [delH_ne (ne_of h1 h (by intro z; cases z))]; exact h1⟩, ⟨gs, by rw [delH_ne (ne_of h2 h (by intro z; cases z))]; exact h2, h3⟩, ⟨cs, by rw [delH_ne (ne_of h4 h (by intro z; cases z))]; exact h4, h5⟩, h6⟩
theorem Dr.new3 {d g c p : Addr} {H : Hp} (D : Dr H d g c) (hn : H p = none) : p ≠ d ∧ p ≠ g ∧ p ≠ c := by
  obtain ⟨h1, h2⟩ := D.new hn
  obtain ⟨_, _, ⟨cs, h4, _⟩, _⟩ := D
  exact ⟨h1, h2, fun z => by rw [z, h4] at hn; cases hn⟩
theorem Dn.tabs {d g c : Addr} {H H' : Hp} {T : List (Addr × Str)} (s : Dn d g H H') (D : Dr H d g c) (h : Tabs T H) : Tabs T H' := by
  obtain ⟨⟨r, t, h1⟩, ⟨gs, h2, _⟩, _, _⟩ := D
  intro p hp
  obtain ⟨ps, e1, e2, e3⟩ := h p hp
  refine ⟨ps, s _ _ e1 (ne_of e1 h1 (by intro z; cases z)) (ne_of e1 h2 (by intro z; cases z)), e2, fun pos cv hc => ?_⟩
  obtain ⟨c0, e4, e5⟩ := e3 pos cv hc
  exact ⟨c0, e4, s _ _ e5 (ne_of e5 h1 (by intro z; unfold CodeO at z; cases z)) (ne_of e5 h2 (by intro z; unfold CodeO at z; cases z))⟩
end Dt
namespace L2X
open PySem PySem.Spec PyProof.Rows L2 LamX
/-- repr of none, or of a data, where no repr runs around -/
theorem call_reprO {X : Cx} (hgd : X.A.guards = some []) (hu : X.A.units + 64 < cLine) : CallR X (.builtin "repr") (fun xs H Q => (xs = [.non] ∧ Q (.str "None") H) ∨ ∃ a d, xs = [.ref a] ∧ Dp X.K H (.ref a) d ∧ d.showable = true ∧ d.hasDict = false ∧ d.depth ≤ 60 ∧ d.shown.length ≤ sizeLine ∧ Q (.str d.shown) H) := by
  intro pins s σ H xs us Q I r h
  rcases h with ⟨rfl, q⟩ | ⟨a, d, rfl, dp, hs, hd, hdp, hz, q⟩
  · obtain ⟨u, rfl, rx⟩ := vals1 r
    cases rx
    exact P.repr_of_none ⟨.str "None", H, I.tok _, ⟨_, rfl⟩, q⟩
  · obtain ⟨u, rfl, rx⟩ := vals1 r
    obtain ⟨as, rd⟩ := Dp.reads I d (.ref a) u dp rx
    cases rx
    exact repr_of_reads' rd hs (fun z => by rw [hd] at z; cases z) hgd (by omega) (fun b o e => e) (fun h' t tk keep => ⟨.str d.shown, H, I.kept (t' := tk) keep, ⟨_, rfl⟩, q⟩) hz
def rLenO (C : Addr) (sp : Sp) : List V → Hp → VK → Prop := fun xs H Q => ∃ (a dx : Addr) (fs : List (Str × V)), xs = [.ref a] ∧ H a = some (.ins C dx fs) ∧ sp [.ref a] H (fun v H' => ∃ n : Nat, v = .int n ∧ n < 1000000 ∧ Q (.int n) H') E0
theorem call_lenO {X : Cx} {k : Nat} {f C : Addr} {fd : FuncData} {sp : Sp} (F : FnOk X.prog X.w X.K X.mg X.base CX0 k f fd ["self"] sp) (hr : Room (k + 1) X.A) (hm : Meth X.K C "__len__" f) (hb : Binds X.K fd ["self"] []) : CallR X (.builtin "len") (rLenO C sp) := by
  intro pins s σ H xs us Q I r h
  obtain ⟨a, dx, fs, rfl, ea, q⟩ := h
  obtain ⟨u, rfl, ru⟩ := vals1 r
  obtain rfl : u = Value.ref a := ru
  obtain ⟨mA, O, _⟩ := ins_get I.hok ea
  obtain ⟨od, J, _⟩ := O.look
  obtain ⟨m, fr⟩ := I.fr
  refine PySem.W.len_K fr I.ok.mod.kin J hm.at_ hm.fn (wpAny_call (codeAny_mono (F.run X.A.in1 X.stack s H ⟨[.ref a], []⟩ [.ref a] [.ref a] _ E0 hr.in1 I.env0.in1 (hb _ [.ref a] I.kIn rfl) (.cons rfl .nil) q) fun r s' hq => ?_))
  cases r with
  | error e => exact hq.elim
  | ok fl =>
    cases fl with
    | ret u =>
      obtain ⟨v, H', I3, rv, n, rfl, hn, q3⟩ := I.after hq
      obtain ⟨t, rfl⟩ := rv
      exact ⟨⟨Int.natCast_nonneg n, by omega⟩, .int n, H', I3.tok _, ⟨_, rfl⟩, q3⟩
    | next => exact False.elim hq
    | brk => exact False.elim hq
    | cont => exact False.elim hq
end L2X
namespace Dt
open PySem PySem.Spec PyProof.Rows L2 L2X LamX
open SX (S)
/-! ### the law -/
abbrev sLaw : Stmt := topS 49
abbrev nLaw : List Str := ["script", "draw", "turn", "high", "shapes", "handed", "one", "other", "signs_due", "made", "odd", "third", "sign", "rows", "k"]
theorem scLaw : FnScope nLaw ["script"] (defScope sLaw) := ⟨rfl, rfl, rfl, by decide +kernel, rfl, by decide +kernel, by decide +kernel⟩
def noSc : Scope := { kind := .function, names := [], isGenerator := false, isCoroutine := false }
/-- the scope of the lambda in _law_refused(lambda: one.wide(odd)) != .. -/
def lamScA : Scope := match (defBody sLaw).getD 1 (.Pass ⟨0, 0, 0, 0⟩) with
  | .For _ _ b _ _ => (match b.getD 9 (.Pass ⟨0, 0, 0, 0⟩) with
    | .For _ _ b2 _ _ => (match b2.getD 0 (.Pass ⟨0, 0, 0, 0⟩) with
      | .If (.Compare (.Call _ [.Lambda _ _ sc _] _ _) _ _ _) _ _ _ => sc
      | _ => noSc)
    | _ => noSc)
  | _ => noSc
def lamScB : Scope := match (defBody sLaw).getD 1 (.Pass ⟨0, 0, 0, 0⟩) with
  | .For _ _ b _ _ => (match b.getD 9 (.Pass ⟨0, 0, 0, 0⟩) with
    | .For _ _ b2 _ _ => (match b2.getD 1 (.Pass ⟨0, 0, 0, 0⟩) with
      | .If (.Compare (.Call _ [.Call _ [.Lambda _ _ sc _] _ _] _ _) _ _ _) _ _ _ => sc
      | _ => noSc)
    | _ => noSc)
  | _ => noSc
theorem AlpAt.dn {C d g c : Addr} {H H' : Hp} {o : Addr} {high : Nat} {ss : List Sh} (h : AlpAt C H o high ss) (D : Dr H d g c) (s : Dn d g H H') : AlpAt C H' o high ss := by
  obtain ⟨dx, t, xs, h1, h2, h3⟩ := h
  have h3' := h3.dn D s
  obtain ⟨⟨_, _, hd⟩, ⟨gs, hg, _⟩, _, _⟩ := D
  exact ⟨dx, t, xs, s _ _ h1 (ne_of h1 hd (by intro z; cases z)) (ne_of h1 hg (by intro z; cases z)), s _ _ h2 (ne_of h2 hd (by intro z; cases z)) (ne_of h2 hg (by intro z; cases z)), h3'⟩
theorem AlpAt.updl {C l : Addr} {H : Hp} {o : Addr} {high : Nat} {ss : List Sh} {ys zs : List V} (h : AlpAt C H o high ss) (hl : H l = some (.lst ys)) : AlpAt C (upd H l (.lst zs)) o high ss := by
  obtain ⟨dx, t, xs, h1, h2, h3⟩ := h
  exact ⟨dx, t, xs, by rw [upd_ne (ne_of h1 hl (by intro z; cases z))]; exact h1, by rw [upd_ne (ne_of h2 hl (by intro z; cases z))]; exact h2, h3.updl hl⟩
theorem Tabs.updl {T : List (Addr × Str)} {H : Hp} {l : Addr} {xs ys : List V} (h : LamX.Tabs T H) (hl : H l = some (.lst xs)) : LamX.Tabs T (upd H l (.lst ys)) := by
  intro p hp
  obtain ⟨ps, e1, e2, e3⟩ := h p hp
  refine ⟨ps, by rw [upd_ne (ne_of e1 hl (by intro z; cases z))]; exact e1, e2, fun pos cv hc => ?_⟩
  obtain ⟨c0, e4, e5⟩ := e3 pos cv hc
  exact ⟨c0, e4, by rw [upd_ne (ne_of e5 hl (by intro z; unfold LamX.CodeO at z; cases z))]; exact e5⟩
theorem neD_self {d : PyData} (h : SeqAt.shaped d = true) : (!PyData.eqv d d) = false := by
  rw [SeqAt.eqv_refl d (SeqAt.canLay_of_shaped h)]
  rfl
theorem lay_intsL : ∀ cs : List Int, PyData.canLayAll0 (cs.map PyData.int) = true ∧ PyData.depthAll (cs.map PyData.int) ≤ 1
  | [] => ⟨by simp [PyData.canLayAll0], by simp [PyData.depthAll]⟩
  | c :: r => by
    obtain ⟨h1, h2⟩ := lay_intsL r
    refine ⟨?_, ?_⟩
    · rw [List.map_cons]
      simp [PyData.canLayAll0, PyData.canLay0, h1]
    · rw [List.map_cons]
      simp only [PyData.depthAll, PyData.depth]
      omega
theorem dp_intsL {K : PySem.W.Frag} {H : Hp} : ∀ cs : List Int, DpAll K H (cs.map V.int) (cs.map PyData.int)
  | [] => .nil
  | c :: r => .cons (.int c) (dp_intsL r)
theorem shaped_ints (cs : List Int) : SeqAt.shaped (.list (cs.map PyData.int)) = true := by
  obtain ⟨h1, h2⟩ := lay_intsL cs
  unfold SeqAt.shaped
  rw [Bool.and_eq_true, decide_eq_true_iff]
  refine ⟨by simp [PyData.canLay0, h1], ?_⟩
  simp only [PyData.depth]
  omega
theorem lay_strs : ∀ ws : List Str, (∀ z ∈ ws, PyData.strOk z = true) → PyData.canLayAll0 (ws.map PyData.str) = true ∧ PyData.depthAll (ws.map PyData.str) ≤ 1
  | [], _ => ⟨by simp [PyData.canLayAll0], by simp [PyData.depthAll]⟩
  | c :: r, h => by
    obtain ⟨h1, h2⟩ := lay_strs r fun z hz => h z (List.mem_cons_of_mem _ hz)
    have := h c List.mem_cons_self
    refine ⟨?_, ?_⟩
    · rw [List.map_cons]
      simp [PyData.canLayAll0, PyData.canLay0, h1, this]
    · rw [List.map_cons]
      simp only [PyData.depthAll, PyData.depth]
      omega
theorem dp_strs {K : PySem.W.Frag} {H : Hp} : ∀ ws : List Str, DpAll K H (ws.map V.str) (ws.map PyData.str)
  | [] => .nil
  | c :: r => .cons (.str c) (dp_strs r)
/-- what is told of an alphabet -/
def toldD (high : Nat) (ss : List Sh) (ws : List Str) : PyData := .tuple [.int high, .list (ss.map sD), .list (ws.map PyData.str), .int ss.length]
theorem toldD_shaped {high : Nat} {ss : List Sh} {ws : List Str} (G : ∀ s ∈ ss, Good high 8 s) (hw : ∀ z ∈ ws, z ∈ sgT ss) : SeqAt.shaped (toldD high ss ws) = true := by
  obtain ⟨h1, h2, _⟩ := lay_sh ss G
  obtain ⟨h3, h4⟩ := lay_strs ws fun z hz => by
    obtain ⟨s, hs, rfl⟩ := List.mem_map.mp (hw z hz)
    unfold PyData.strOk
    have := (G s hs).s1
    simp
    omega
  unfold toldD SeqAt.shaped
  rw [Bool.and_eq_true, decide_eq_true_iff]
  refine ⟨by simp [PyData.canLay0, PyData.canLayAll0, h1, h3], ?_⟩
  simp only [PyData.depth, PyData.depthAll]
  omega
/-- two alphabets of the shapes that stand at l -/
structure Q7 (CA d g c : Addr) (TL : List (Addr × Str)) (l : Addr) (zs : List V) (high : Nat) (ss : List Sh) (o o2 : Addr) (H : Hp) : Prop where
  hl : H l = some (.lst zs)
  S : Shs H zs ss
  al : AlpAt CA H o high ss
  al2 : AlpAt CA H o2 high ss
  D : Dr H d g c
  T : Tabs TL H
theorem Q7.same {CA d g c : Addr} {TL : List (Addr × Str)} {l : Addr} {zs : List V} {high : Nat} {ss : List Sh} {o o2 : Addr} {H H' : Hp} (q : Q7 CA d g c TL l zs high ss o o2 H) (s : Same H H') : Q7 CA d g c TL l zs high ss o o2 H' :=
  ⟨s _ _ q.hl, q.S.same s, q.al.same s, q.al2.same s, q.D.same s, q.T.ext s⟩
theorem Q7.updl {CA d g c m : Addr} {TL : List (Addr × Str)} {l : Addr} {zs : List V} {high : Nat} {ss : List Sh} {o o2 : Addr} {H : Hp} {xs ys : List V} (q : Q7 CA d g c TL l zs high ss o o2 H) (hm : H m = some (.lst xs)) (nl : l ≠ m) (nd : m ≠ d) (ng : m ≠ g) (nc : m ≠ c) : Q7 CA d g c TL l zs high ss o o2 (upd H m (.lst ys)) :=
  ⟨by rw [upd_ne nl]; exact q.hl, q.S.updl hm, q.al.updl hm, q.al2.updl hm, q.D.upd nd ng nc, Tabs.updl q.T hm⟩
theorem Q7.dn {CA d g c : Addr} {TL : List (Addr × Str)} {l : Addr} {zs : List V} {high : Nat} {ss : List Sh} {o o2 : Addr} {H H' : Hp} (q : Q7 CA d g c TL l zs high ss o o2 H) (nd : l ≠ d) (ng : l ≠ g) (D' : Dr H' d g c) (s : Dn d g H H') : Q7 CA d g c TL l zs high ss o o2 H' :=
  ⟨s _ _ q.hl nd ng, q.S.dn q.D s, q.al.dn q.D s, q.al2.dn q.D s, D', Dn.tabs s q.D q.T⟩
theorem ShAt.extN {H H' : Hp} {x : V} {s : Sh} (h : ShAt H x s) (e : ExtN H H') : ShAt H' x s :=
  let ⟨t, p, a, b, c⟩ := h; ⟨t, p, a, e _ _ b (fun _ z => nomatch z), e _ _ c (fun _ z => nomatch z)⟩
theorem Shs.extN {H H' : Hp} {xs : List V} {ss : List Sh} (h : Shs H xs ss) (e : ExtN H H') : Shs H' xs ss := ⟨h.len, fun i x s a b => (h.at_ i x s a b).extN e⟩
theorem AlpAt.extN {C : Addr} {H H' : Hp} {o : Addr} {high : Nat} {ss : List Sh} (h : AlpAt C H o high ss) (e : ExtN H H') : AlpAt C H' o high ss :=
  let ⟨dx, t, xs, a, b, c⟩ := h; ⟨dx, t, xs, e _ _ a (fun _ z => nomatch z), e _ _ b (fun _ z => nomatch z), c.extN e⟩
theorem Q7.extN {CA d g c : Addr} {TL : List (Addr × Str)} {l : Addr} {zs : List V} {high : Nat} {ss : List Sh} {o o2 : Addr} {H H' : Hp} (q : Q7 CA d g c TL l zs high ss o o2 H) (e : ExtN H H') (T : Tabs TL H') : Q7 CA d g c TL l zs high ss o o2 H' :=
  ⟨e _ _ q.hl (fun _ z => nomatch z), q.S.extN e, q.al.extN e, q.al2.extN e, q.D.ext e, T⟩
/-! ### odd numbers -/
def OddI (H : Hp) (n : Nat) (x : V) : Prop := (∃ i : Int, x = .int i ∧ (i = -1 ∨ i = n)) ∨ x = .bl true ∨ x = .non ∨ x = .str "0" ∨ (∃ t, x = .ref t ∧ H t = some (.tup [.int 0])) ∨ (∃ t, x = .ref t ∧ H t = some (.lst [.int 0])) ∨ ∃ (high : Nat) (s : Sh), ShAt H x s ∧ Good high 8 s ∧ high ≤ 9
theorem OddI.extN {H H' : Hp} {n : Nat} {x : V} (h : OddI H n x) (e : ExtN H H') : OddI H' n x := by
  rcases h with h | h | h | h | ⟨t, a, b⟩ | ⟨t, a, b⟩ | ⟨high, s, a, b, c⟩
  · exact .inl h
  · exact .inr (.inl h)
  · exact .inr (.inr (.inl h))
  · exact .inr (.inr (.inr (.inl h)))
  · exact .inr (.inr (.inr (.inr (.inl ⟨t, a, e _ _ b (fun _ z => nomatch z)⟩))))
  · exact .inr (.inr (.inr (.inr (.inr (.inl ⟨t, a, e _ _ b (fun _ z => nomatch z)⟩)))))
  · exact .inr (.inr (.inr (.inr (.inr (.inr ⟨high, s, a.extN e, b, c⟩)))))
theorem OddI.same {H H' : Hp} {n : Nat} {x : V} (h : OddI H n x) (s : Same H H') : OddI H' n x := h.extN (ExtN.of s)
theorem OddI.kt {K : PySem.W.Frag} {H : Hp} {n : Nat} {x : V} (h : OddI H n x) : Kt K H x := by
  rcases h with ⟨i, rfl, _⟩ | rfl | rfl | rfl | ⟨t, rfl, b⟩ | ⟨t, rfl, b⟩ | ⟨high, s, ⟨t, p, rfl, b, _⟩, _, _⟩
  · exact kt_int _
  · exact kt_bl _
  · exact ⟨"NoneType", .non, rfl⟩
  · exact ⟨"str", .str _, rfl⟩
  · exact ⟨"tuple", .tup (SqT.of b), rfl⟩
  · exact ⟨"list", .lst (SqL.of b), rfl⟩
  · exact ⟨"tuple", .tup (SqT.of b), rfl⟩
theorem OddI.bt {H : Hp} {n : Nat} {x : V} (h : OddI H n x) : betw x 0 ((n : Int) - 1) = false := by
  rcases h with ⟨i, rfl, e⟩ | rfl | rfl | rfl | ⟨t, rfl, b⟩ | ⟨t, rfl, b⟩ | ⟨high, s, ⟨t, p, rfl, b, _⟩, _, _⟩
  · rw [betw_int]
    rcases e with rfl | rfl
    · rw [decide_eq_false (by omega)]
      rfl
    · rw [decide_eq_false (p := ((n : Int) ≤ (n : Int) - 1)) (by omega), Bool.and_false]
  · rfl
  · rfl
  · rfl
  · rfl
  · rfl
  · rfl
def ShowOk (d : PyData) : Prop := d.showable = true ∧ d.hasDict = false ∧ d.depth ≤ 60 ∧ d.shown.length ≤ sizeLine
theorem show_nat : ∀ n : Nat, n ≤ 16 → ShowOk (.list [.int (n : Int)]) := by
  have : ∀ n : Fin 17, (PyData.list [.int (n.val : Int)]).showable = true ∧ (PyData.list [.int (n.val : Int)]).hasDict = false ∧ (PyData.list [.int (n.val : Int)]).depth ≤ 60 ∧ (PyData.list [.int (n.val : Int)]).shown.length ≤ 1000 := by decide +kernel
  intro n h
  obtain ⟨a, b, c, e⟩ := this ⟨n, by omega⟩
  exact ⟨a, b, c, Nat.le_trans e (Nat.le_of_lt (small1000 (Nat.le_refl _)))⟩
theorem show_by {d : PyData} (h : d.showable = true ∧ d.hasDict = false ∧ d.depth ≤ 60 ∧ d.shown.length ≤ 1000) : ShowOk d := ⟨h.1, h.2.1, h.2.2.1, Nat.le_trans h.2.2.2 (Nat.le_of_lt (small1000 (Nat.le_refl _)))⟩
theorem rows_show : ∀ rs : List (List Nat), (∀ r ∈ rs, r.length ≤ 8 ∧ ∀ c ∈ r, c = 35 ∨ c = 46) → PyData.showableAll (rs.map rD) = true ∧ PyData.leavesShortAll 8 (rs.map rD) = true ∧ PyData.bulkAll (rs.map rD) ≤ rs.length * 64
  | [], _ => ⟨by simp [PyData.showableAll], by simp [PyData.leavesShortAll], by simp [PyData.bulkAll]⟩
  | r :: rs, h => by
    obtain ⟨a, b, c⟩ := rows_show rs fun m hm => h m (List.mem_cons_of_mem _ hm)
    obtain ⟨l8, sg⟩ := h r List.mem_cons_self
    have lv : ((S r).cps.toList.all fun c => decide (c < 16 ^ 8)) = true := by
      have e1 : (S r).cps.toList = r := by simp [S]
      rw [e1, List.all_eq_true]
      intro c hc
      rcases sg c hc with rfl | rfl <;> decide
    refine ⟨?_, ?_, ?_⟩
    · rw [List.map_cons]
      simp only [PyData.showableAll, a, rD, Bool.and_true, PyData.showable]
    · rw [List.map_cons]
      simp only [PyData.leavesShortAll, b, rD, Bool.and_true, PyData.leavesShort]
      exact lv
    · rw [List.map_cons, List.length_cons]
      simp only [PyData.bulkAll, rD, PyData.bulk]
      have lt : r.toArray.size = r.length := by simp
      omega
theorem show_sh {high : Nat} {s : Sh} (g : Good high 8 s) (h9 : high ≤ 9) : ShowOk (.list [sD s]) := by
  have p := g.pic
  obtain ⟨a, b, c⟩ := rows_show s.rs fun r hr => ⟨by rw [(p.row r hr).len]; exact g.w8, (p.row r hr).sg⟩
  obtain ⟨r1, r2⟩ := lay_rows s.rs fun l hl => (p.row l hl).sg
  have so : PyData.strOk ⟨#[s.sg]⟩ = true := by
    unfold PyData.strOk
    have := g.s1
    simp
    omega
  have lv : ((⟨#[s.sg]⟩ : Str).cps.toList.all fun c => decide (c < 16 ^ 8)) = true := by
    have := g.s1
    simp
    omega
  have lr := p.len
  refine ⟨?_, PyData.hasDict_of_canLay _ (by simp [PyData.canLay0, PyData.canLayAll0, sD, r1, so]), ?_, PyData.shown_fits_bulk (B := 8) (Nat.le_refl 8) (by decide) ?_ ?_⟩
  · simp only [PyData.showable, PyData.showableAll, sD, a, Bool.and_true]
  · simp only [PyData.depth, PyData.depthAll, sD]
    omega
  · simp only [PyData.leavesShort, PyData.leavesShortAll, sD, b, Bool.and_true]
    exact lv
  · simp only [PyData.bulk, PyData.bulkAll, sD]
    have : s.rs.length ≤ 9 := by omega
    have e1 : #[s.sg].size = 1 := rfl
    omega
theorem OddI.data {K : PySem.W.Frag} {H : Hp} {n : Nat} {x : V} (h : OddI H n x) (n16 : n ≤ 16) : ∃ dv, (∀ H', Same H H' → Dp K H' x dv) ∧ ShowOk (.list [dv]) := by
  rcases h with ⟨i, rfl, e⟩ | rfl | rfl | rfl | ⟨t, rfl, b⟩ | ⟨t, rfl, b⟩ | ⟨high, s, a, b, c⟩
  · rcases e with rfl | rfl
    · exact ⟨_, fun _ _ => .int _, show_by (by decide +kernel)⟩
    · exact ⟨_, fun _ _ => .int _, show_nat n n16⟩
  · exact ⟨_, fun _ _ => .bl _, show_by (by decide +kernel)⟩
  · exact ⟨_, fun _ _ => .non, show_by (by decide +kernel)⟩
  · exact ⟨_, fun _ _ => .str _, show_by (by decide +kernel)⟩
  · exact ⟨.tuple [.int 0], fun _ e => .tup (SqT.of (e _ _ b)) (.cons (.int _) .nil), show_by (by decide +kernel)⟩
  · exact ⟨.list [.int 0], fun _ e => .lst (SqL.of (e _ _ b)) (.cons (.int _) .nil), show_by (by decide +kernel)⟩
  · exact ⟨_, fun _ e => dp_sh (a.same e), show_sh b c⟩
section
variable {P : Program} {w : World} {K : PySem.W.Frag} {mg : Str → Option Value} {base : Heap} {C CA CS fa cc PP : Addr} {s : Shared} {H : Hp}
abbrev xLaw (P : Program) (w : World) (K : PySem.W.Frag) (mg : Str → Option Value) (base : Heap) (fa cc : Addr) (s : Shared) (H : Hp) : Cx := (cxOf CX0 P w K mg base nLaw "law" (defScope sLaw) fa (.ref cc) callerA [] s H E0).nox
structure LawFs (P : Program) (w : World) (K : PySem.W.Frag) (mg : Str → Option Value) (base : Heap) (C CA CS fI : Addr) (fdI : FuncData) : Prop where
  tx : Tx mg
  rp : mg "repr" = none
  so : mg "sorted" = none
  se : mg "set" = none
  ta : Tal K mg CA
  tns : Tns K mg CS
  xf : XfC K CS
  te : PySem.W.exmOne K (.ref CS) (.ref CS) = some true
  mka : L2.Mk K CA fI
  gi : FnOk P w K mg base CX0 7 fI fdI ["self", "high", "shapes"] (spAI CA)
  git : FnOk P w K mg base CX0 7 fI fdI ["self", "high", "shapes"] (spAIT CA)
  bi : Binds K fdI ["self", "high", "shapes"] []
  B : Pm P w K mg base CX0 8 "_law_begun" ["script"] (spBegun K)
  N : Pm P w K mg base CX0 8 "_law_next" ["draw", "below"] spNext
  S : Pm P w K mg base CX0 8 "_law_shapes" ["draw", "high", "most", "widest"] spSs1Q
  O : Pm P w K mg base CX0 8 "_law_otherwise" ["draw", "high", "shapes"] spLo
  ah : Mm P w K mg base 8 CA "high" ["self"] (spAH CA)
  as_ : Mm P w K mg base 8 CA "shapes" ["self"] (spAS CA)
  asg : Mm P w K mg base 8 CA "signs" ["self"] (spASg CA)
  aw : Mm P w K mg base 8 CA "wide" ["self", "number"] (spAW CA)
  awR : ∃ f fd, FnOk P w K mg base (L2.CX P w) 6 f fd ["self", "number"] (spANR K CA CS) ∧ Meth K CA "wide" f ∧ Binds K fd ["self", "number"] []
  aln : Mm P w K mg base 7 CA "__len__" ["self"] (spALn CA)
  aeq : ∃ f fd, FnOk P w K mg base CX0 7 f fd ["self", "other"] (spAEq CA) ∧ PySem.W.findIn K (.ref CA) "__eq__" = some (some (.ref f)) ∧ PySem.W.isFn K (.ref f) = true ∧ Binds K fd ["self", "other"] []
  ane : PySem.W.findIn K (.ref CA) "__ne__" = some (some (.builtin "object.__ne__"))
  aob : PySem.W.subIn K (.ref CA) (.type "object") = some true
  wd : Pm P w K mg base CX0 7 "_law_word" ["e"] (spWordK CS "shape")
  CD : ∃ a, mg "DotError" = some (.ref a) ∧ PySem.W.exmOne K (.ref CS) (.ref a) = some true
  R : Df K mg "_law_refused" sRef ["work"]
  A : Df K mg "_law_at" sAt ["work"]
theorem law_run {fI : Addr} {fdI : FuncData} {dV kV doc pm ct oc : Value} {an od : Option Addr} {osl : Array (Option Value)} {s : Shared} {H : Hp} {a : Addr} {ns : List Int}
    (lk : K.lookup fa = some ⟨oc, od, .func (PySem.W.fnOf "law" "law" (defArgs sLaw) (defBody sLaw) (defScope sLaw) dV kV doc pm an (.ref cc) ct), osl⟩) (hcd : PySem.W.codeIn K (.ref cc) "law" = true)
    (hb : ∀ (s : Shared) (u : Value), BindsTo s (PySem.W.fnOf "law" "law" (defArgs sLaw) (defBody sLaw) (defScope sLaw) dV kV doc pm an (.ref cc) ct) ⟨[u], []⟩ [("script", u)])
    (L : LawFs P w K mg base C CA CS fI fdI) (TB : TabB base mg cc PP) (hr9 : Room 9 callerA) (e0 : Env0 P w K mg base callerA [] s H) (hT : H PP = some (.tbl #[])) (hS : SqL K H a (ns.map V.int)) (hl : ns.length ≤ 63) :
    codeAny (model P w) callerA (.call (.ref fa) ⟨[.ref a], []⟩) (CR CX0 [] P w H s (fun v _ => v = .bl true) E0) s := by
  refine run_ofS (N := nLaw) (ps := ["script"]) (us := [.ref a]) (vs := [.ref a]) lk hcd scLaw hr9 e0 (hb s (.ref a)) (.cons rfl .nil) rfl fun hr8 => ?_
  have nd := scLaw.nd
  have hu64 : (callerA.deeper (envOfC "law" (defScope sLaw) s.heap.objs.size fa (.ref cc))).units + 64 < cLine := by
    have := hr8.un
    omega
  have X0 := L.tx
  have rp := L.rp
  have so := L.so
  have se := L.se
  have TA := L.ta
  have M := L.mka
  have GI := L.gi
  have GIT := L.git
  have bI := L.bi
  obtain ⟨fB, fdB, GB, mB, kB, bB⟩ := L.B.ex
  obtain ⟨fN, fdN, GN, mN, kN, bN⟩ := L.N.ex
  obtain ⟨fS, fdS, GS, mS, kS, bS⟩ := L.S.ex
  obtain ⟨fO, fdO, GO, mO, kO, bO⟩ := L.O.ex
  obtain ⟨fH, fdH, GH, mH, bH⟩ := L.ah.ex
  obtain ⟨fP, fdP, GP, mP, bP⟩ := L.as_.ex
  obtain ⟨fG, fdG, GG, mG, bG⟩ := L.asg.ex
  obtain ⟨fE, fdE, GE, mE, bE⟩ := L.aw.ex
  obtain ⟨fQ, fdQ, GQ, mQ, bQ⟩ := L.awR
  obtain ⟨fL, fdL, GL, mL, bL⟩ := L.aln.ex
  obtain ⟨fW, fdW, GW, mW, kW, bW⟩ := L.wd.ex
  obtain ⟨CD, mCD, exm⟩ := L.CD
  obtain ⟨fR, fdR, FR, mR, bR⟩ := L.R.ex
  obtain ⟨fT, fdT, FT, mT, bT⟩ := L.A.ex
  have kR := FR.kp
  have kT := FT.kp
  obtain ⟨ocR, odR, kVR, docR, pmR, anR, cdR, ctR, oslR, rfl, lkR, hcR⟩ := FR.ex
  obtain ⟨ocT, odT, kVT, docT, pmT, anT, cdT, ctT, oslT, rfl, lkT, hcT⟩ := FT.ex
  obtain ⟨fEq, fdEq, GEq, eq1, eq2, bEq⟩ := L.aeq
  have WQ : OwnQ (xLaw P w K mg base fa cc s H) 7 CA fEq fdEq ["self", "other"] (spAEq CA) := ⟨GEq, eq1, eq2, bEq⟩
  have hG : GivesR (xLaw P w K mg base fa cc s H) 7 ["work", "error", "e"] "_law_refused" (defScope sRef) fR cdR (defBody sRef) "work" (lamQ (xLaw P w K mg base fa cc s H)) (TRefK CS "shape") := ref_givesK (k := 6) GW mW kW bW mCD exm
  have hA : GivesR (xLaw P w K mg base fa cc s H) 7 ["work", "found", "e"] "_law_at" (defScope sAt) fT cdT (defBody sAt) "work" (lamQ (xLaw P w K mg base fa cc s H)) (TAt CS) := at_gives (k := 6) L.tns L.xf L.te
  have hr7 : Room 7 _ := hr8.mono (by decide)
  refine ⟨_, PSs.nox (C8.pss_cut (ps_set (i := 1) nd rfl (.inl rfl) (pe_call GB hr8 (by rfl) mB kB bB .nil pass0 (pa_cons (pv 0) pa_nil)))
      (pss_cons (ps_for PassesOwn.never rfl (pi_range1 rfl X0.range (pa_cons pe_int pa_nil)) (pg_name (i := 2) nd rfl (.inl rfl))
        (C8.pss_cut (ps_set (i := 3) nd rfl (.inl rfl) (pe_op op_add pe_int (pe_call GN hr8 (by rfl) mN kN bN .nil pass0 (pa_cons (pv 1) (pa_cons (pe_ix (r := rIxL K) ix_list (pe_lst (pa_cons pe_int (pa_cons pe_int pa_nil))) (pe_call GN hr8 (by rfl) mN kN bN .nil pass0 (pa_cons (pv 1) (pa_cons pe_int pa_nil))) (fun _ _ => rfl)) pa_nil)))))
        (C8.pss_cut (ps_set (i := 4) nd rfl (.inl rfl) (pe_call GS hr8 (by rfl) mS kS bS .nil pass0 (pa_cons (pv 1) (pa_cons (pv 3) (pa_cons pe_int (pa_cons pe_int pa_nil))))))
        (C8.pss_cut (ps_set (i := 5) nd rfl (.inl rfl) (pe_callTy call_list_of (by rfl) X0.list (by decide +kernel) (pa_cons (pv 4) pa_nil)))
        (C8.pss_cut (ps_asg (pe_tup (pa_cons (pe_make M GI hr8 (by rfl) TA.mC bI .nil pass0 (pa_cons (pv 3) (pa_cons (pv 5) pa_nil))) (pa_cons (pe_make M GIT hr8 (by rfl) TA.mC bI .nil pass0 (pa_cons (pv 3) (pa_cons (pe_callTy call_tuple_of (by rfl) X0.tuple (by decide +kernel) (pa_cons (pv 4) pa_nil)) pa_nil))) pa_nil))) (pg_tup rfl (pgs_cons (pg_name (i := 6) nd rfl (Or.inr rfl)) (pgs_cons (pg_name (i := 7) nd rfl (Or.inl rfl)) pgs_nil))))
        (C8.pss_cut (ps_expr (pe_bm PySem.F.plainAttrs_list PySem.F.slot_list_append PySem.F.type_list_append mt_append (pv 5) (pa_cons pe_non pa_nil)))
        (C8.pss_cut (ps_expr (pe_bm0 PySem.F.plainAttrs_list PySem.F.slot_list_reverse PySem.F.type_list_reverse mt_reverse (pv 5)))
        (C8.pss_cut (ps_expr (pe_bm0 PySem.F.plainAttrs_list PySem.F.slot_list_clear PySem.F.type_list_clear mt_clear (pe_meth0 (pv 6) TA.cl mP GP hr8 bP .nil pass0)))
        (C8.pss_cut (ps_set (i := 8) nd rfl (.inl rfl) (pe_callB (cr_sortS rfl hu64) (by rfl) so (by decide +kernel) (pa_cons (pe_callTy (cr_setOfS rfl) (by rfl) se (by decide +kernel) (pa_cons (pe_lc (own := [("sign", 12), ("rows", 13)]) (g := gTup K 2 (gCons (gName 12) (gCons (gName 13) gNil))) (tt := tYes) rfl nd (pi_list (pv 4)) (blkOk_by (N := nLaw) (sc := defScope sLaw) (by decide +kernel)) (fun _ _ _ _ _ => pg_tup rfl (pgs_cons (pg_name (i := 12) nd rfl (Or.inl rfl)) (pgs_cons (pg_name (i := 13) nd rfl (Or.inl rfl)) pgs_nil))) (fun _ _ _ _ _ => pts_nil) (fun _ _ _ _ _ => pv 12)) pa_nil)) pa_nil)))
        (C8.pss_cut (ps_for PassesOwn.never rfl (pi_list (pe_lst (pa_cons (pv 6) (pa_cons (pv 7) (pa_cons (pv 6) pa_nil))))) (pg_name (i := 9) nd rfl (Or.inr rfl))
          (C8.pss_cut (ps_if (pt_cmpR (op_neD hu64) (pe_tup (pa_cons (pe_meth0 (pv 9) TA.cl mH GH hr8 bH .nil pass0) (pa_cons (pe_meth0 (pv 9) TA.cl mP GP hr8 bP .nil pass0) (pa_cons (pe_meth0 (pv 9) TA.cl mG GG hr8 bG .nil pass0) (pa_cons (pe_callB (call_lenO GL hr8 mL bL) (by rfl) X0.len PySem.boot_len (pa_cons (pv 9) pa_nil)) pa_nil))))) (pe_tup (pa_cons (pv 3) (pa_cons (pv 4) (pa_cons (pv 8) (pa_cons (pe_callB call_len_seq (by rfl) X0.len PySem.boot_len (pa_cons (pv 4) pa_nil)) pa_nil))))) (nomark _)) (pss_one (ps_ret pe_bl)) pss_nil)
          (pss_one (ps_if (pt_cmpR (op_neD hu64) (pe_lc (own := [("k", 14)]) (g := gName 14) (tt := tYes) rfl nd (pi_range1 rfl X0.range (pa_cons (pe_callB call_len_seq (by rfl) X0.len PySem.boot_len (pa_cons (pv 4) pa_nil)) pa_nil)) (blkOk_by (N := nLaw) (sc := defScope sLaw) (by decide +kernel)) (fun _ _ _ _ _ => pg_name (i := 14) nd rfl (Or.inl rfl)) (fun _ _ _ _ _ => pts_nil) (fun _ _ _ _ _ => pe_meth (pv 9) TA.cl mE GE hr8 bE .nil pass0 (pa_cons (pv 14) pa_nil)))
              (pe_lc (own := [("sign", 12), ("rows", 13)]) (g := gTup K 2 (gCons (gName 12) (gCons (gName 13) gNil))) (tt := tYes) rfl nd (pi_list (pv 4)) (blkOk_by (N := nLaw) (sc := defScope sLaw) (by decide +kernel)) (fun _ _ _ _ _ => pg_tup rfl (pgs_cons (pg_name (i := 12) nd rfl (Or.inl rfl)) (pgs_cons (pg_name (i := 13) nd rfl (Or.inl rfl)) pgs_nil))) (fun _ _ _ _ _ => pts_nil) (fun _ _ _ _ _ => pe_callB call_len_str (by rfl) X0.len PySem.boot_len (pa_cons (pe_ix (r := rIxT K) ix_tup (pv 13) pe_int (fun _ _ => rfl)) pa_nil))) (nomark _)) (pss_one (ps_ret pe_bl)) pss_nil))))
        (C8.pss_cut (ps_for PassesOwn.never rfl (pi_list (pe_lst (pa_cons (pe_callB call_len_seq (by rfl) X0.len PySem.boot_len (pa_cons (pv 4) pa_nil)) (pa_cons (pe_un un_neg pe_int) (pa_cons pe_bl (pa_cons pe_non (pa_cons pe_str (pa_cons (pe_tup (pa_cons pe_int pa_nil)) (pa_cons (pe_lst (pa_cons pe_int pa_nil)) (pa_cons (pe_ix (r := rIxL K) ix_list (pv 4) pe_int (fun _ _ => rfl)) pa_nil)))))))))) (pg_name (i := 10) nd rfl (Or.inr rfl))
          (C8.pss_cut (ps_if (pt_cmpR op_ne (pe_lamcallR (k := 6) (T := [(PP, lamQ (xLaw P w K mg base fa cc s H))]) (TT := TRefK CS "shape") (t := fun E => tMeth CA "wide" (spANR K CA CS) [] E (tVar 6) (tCons (tVar 10) tNil)) (by rfl) mR kR lkR hcR bR scRef rfl (.inl rfl) hG TB rfl (List.mem_singleton.mpr rfl) (fun p hp _ => by rw [List.mem_singleton.mp hp]) hr8 (lamS_by (show lamSB (defScope sLaw) lamScA = true by decide +kernel)) rfl (fun _ _ _ _ _ => rfl) (fun A outer s H E f c hr => pe_meth (pv 6) TA.cl mQ GQ hr bQ .nil (passE (takes_of rfl rfl rfl rfl)) (pa_cons (pv 10) pa_nil))) pe_str (nomark _)) (pss_one (ps_ret pe_bl)) pss_nil)
          (pss_one (ps_if (pt_cmpR op_ne (pe_callB (call_reprO rfl hu64) (by rfl) rp (by decide +kernel) (pa_cons (pe_lamcallR (k := 6) (T := [(PP, lamQ (xLaw P w K mg base fa cc s H))]) (TT := TAt CS) (t := fun E => tMeth CA "wide" (spANR K CA CS) [] E (tVar 6) (tCons (tVar 10) tNil)) (by rfl) mT kT lkT hcT bT scAt rfl (.inl rfl) hA TB rfl (List.mem_singleton.mpr rfl) (fun p hp _ => by rw [List.mem_singleton.mp hp]) hr8 (lamS_by (show lamSB (defScope sLaw) lamScB = true by decide +kernel)) rfl (fun _ _ _ _ _ => rfl) (fun A outer s H E f c hr => pe_meth (pv 6) TA.cl mQ GQ hr bQ .nil (passE (takes_of rfl rfl rfl rfl)) (pa_cons (pv 10) pa_nil))) pa_nil)) (pe_callB (call_reprO rfl hu64) (by rfl) rp (by decide +kernel) (pa_cons (pe_lst (pa_cons (pv 10) pa_nil)) pa_nil)) (nomark _)) (pss_one (ps_ret pe_bl)) pss_nil))))
        (C8.pss_cut (ps_set (i := 11) nd rfl (.inl rfl) (pe_make M GI hr8 (by rfl) TA.mC bI .nil pass0 (pa_cons (pv 3) (pa_cons (pe_call GO hr8 (by rfl) mO kO bO .nil pass0 (pa_cons (pv 1) (pa_cons (pv 3) (pa_cons (pv 4) pa_nil)))) pa_nil))))
        (pss_one (ps_if (PW.pt (pw_or (pt_not (pt_cmpR (op_eqO WQ hr7) (pv 6) (pv 7) (nomark _))) (pw_or (pt_cmpR (op_neO WQ hr8 L.ane L.aob) (pv 6) (pv 7) (nomark _)) (pw_or (pt_cmpR (op_eqO WQ hr7) (pv 6) (pv 11) (nomark _)) (pw_or (pt_not (pt_cmpR (op_neO WQ hr8 L.ane L.aob) (pv 11) (pv 7) (nomark _))) (pw_or (pt_cmpR (op_eqO WQ hr7) (pv 6) (pv 4) (nomark _)) (pw_or1 (pt_cmpR (op_eqO WQ hr7) (pv 6) (pv 3) (nomark _))))))))) (pss_one (ps_ret pe_bl)) pss_nil))))))))))))))
      (pss_one (ps_ret pe_bl)))), ?_⟩
  have hTb : Tabs [(PP, lamQ (xLaw P w K mg base fa cc s H))] H := fun p hp => by
    rw [List.mem_singleton.mp hp]
    exact TabS.nil hT
  generalize hTT : [(PP, lamQ (xLaw P w K mg base fa cc s H))] = TL at hTb ⊢
  refine ⟨fun σ' H' => ∃ d g c, σ' = [some (.ref a), some (.ref d), none, none, none, none, none, none, none, none, none, none, none, none, none] ∧ Dr H' d g c ∧ Tabs TL H', ?_, ?_⟩
  · exact ⟨.ref a, rfl, a, ns, rfl, hS, hl, fun d g c H1 sm1 _ _ D1 => ⟨d, g, c, rfl, D1, hTb.ext sm1⟩⟩
  rintro _ H1 ⟨d, g, c, rfl, D1, T1⟩
  refine ⟨4, rfl, by decide, by decide, for_range (lo := 0) (n := 4) (fun i σ H' => ∃ y2 y3 y4 y5 y6 y7 y8 y9 y10 y11, σ = [some (.ref a), some (.ref d), y2, y3, y4, y5, y6, y7, y8, y9, y10, y11, none, none, none] ∧ Dr H' d g c ∧ Tabs TL H') ⟨none, none, none, none, none, none, none, none, none, none, rfl, D1, T1⟩ ?_ ?_⟩
  · rintro i σ H2 hi ⟨y2, y3, y4, y5, y6, y7, y8, y9, y10, y11, rfl, D2, T2⟩
    generalize (V.int (0 + (i : Int))) = tv
    -- high
    refine ⟨fun σ' H' => ∃ high : Nat, σ' = [some (.ref a), some (.ref d), some tv, some (.int high), y4, y5, y6, y7, y8, y9, y10, y11, none, none, none] ∧ 1 ≤ high ∧ high ≤ 9 ∧ Dr H' d g c ∧ Tabs TL H', ?_, ?_⟩
    · refine ⟨.ref d, rfl, by show 2 ≤ sizeLine; decide, fun t ht => ?_⟩
      have st := same_upd (o := .lst [V.int 3, V.int 9]) ht
      have Dt := D2.same st
      have nt := D2.new ht
      refine ⟨.ref d, rfl, d, g, c, 2, rfl, Dt, by decide, by decide, fun n H3 n0 n1 D3 dn3 => ?_⟩
      have h3 : H3 t = some (.lst [V.int 3, V.int 9]) := dn3 _ _ upd_same nt.1 nt.2
      have T3 := Dn.tabs dn3 Dt (T2.ext st)
      have fin : ∀ (M : Int) (m : Int) (H4 : Hp), 0 ≤ m → m < M → M ≤ 9 → Dr H4 d g c → Dn d g H3 H4 → ∃ high : Nat, ([some (.ref a), some (.ref d), some tv, some (.int (1 + m)), y4, y5, y6, y7, y8, y9, y10, y11, none, none, none] : L2.St) = [some (.ref a), some (.ref d), some tv, some (.int high), y4, y5, y6, y7, y8, y9, y10, y11, none, none, none] ∧ 1 ≤ high ∧ high ≤ 9 ∧ Dr H4 d g c ∧ Tabs TL H4 := fun M m H4 m0 m1 m9 D4 dn4 => ⟨(1 + m).toNat, by rw [show (((1 + m).toNat : Nat) : Int) = 1 + m by omega], by omega, by omega, D4, Dn.tabs dn4 D3 T3⟩
      rcases (by omega : n = 0 ∨ n = 1) with rfl | rfl
      · exact ⟨t, _, 0, .int 3, rfl, rfl, SqL.of h3, rfl, d, g, c, 3, rfl, D3, by decide, by decide, fun m H4 m0 m1 D4 dn4 => ⟨1, m, rfl, rfl, fin 3 m H4 m0 m1 (by decide) D4 dn4⟩⟩
      · exact ⟨t, _, 1, .int 9, rfl, rfl, SqL.of h3, rfl, d, g, c, 9, rfl, D3, by decide, by decide, fun m H4 m0 m1 D4 dn4 => ⟨1, m, rfl, rfl, fin 9 m H4 m0 m1 (by decide) D4 dn4⟩⟩
    rintro _ H3 ⟨high, rfl, h1, h9, D3, T3⟩
    -- shapes
    refine ⟨fun σ' H' => ∃ (l : Addr) (zs : List V) (ss : List Sh), σ' = [some (.ref a), some (.ref d), some tv, some (.int high), some (.ref l), y5, y6, y7, y8, y9, y10, y11, none, none, none] ∧ H' l = some (.lst zs) ∧ l ≠ d ∧ l ≠ g ∧ Shs H' zs ss ∧ GoodsQ high 8 ss ∧ 0 < ss.length ∧ ss.length ≤ 16 ∧ Dr H' d g c ∧ Tabs TL H', ?_, ?_⟩
    · exact ⟨.ref d, rfl, .int high, rfl, d, g, c, high, 16, 8, rfl, D3, h1, by omega, by decide, by decide, by decide, by decide, fun l zs ss H4 nl hl Ss Gs s0 s16 D4 dn4 => ⟨l, zs, ss, rfl, hl, (D3.new nl).1, (D3.new nl).2, Ss, Gs, s0, s16, D4, Dn.tabs dn4 D3 T3⟩⟩
    rintro _ H4 ⟨l, zs, ss, rfl, hl4, l1, l2, S4, G, p0, l16, D4, T4⟩
    -- handed
    refine ⟨fun σ' H' => ∃ m : Addr, σ' = [some (.ref a), some (.ref d), some tv, some (.int high), some (.ref l), some (.ref m), y6, y7, y8, y9, y10, y11, none, none, none] ∧ H4 m = none ∧ H' m = some (.lst zs) ∧ Same H4 H', ?_, ?_⟩
    · exact ⟨.ref l, rfl, l, zs, rfl, .inl (SqL.of hl4), fun m hm => ⟨m, rfl, hm, upd_same, same_upd hm⟩⟩
    rintro _ H5 ⟨m, rfl, nm, hm5, s45⟩
    have nmd := D4.new nm
    have nmc := D4.newc nm
    have nlm : l ≠ m := ne_of_none hl4 nm
    -- two alphabets
    refine ⟨fun σ' H' => ∃ o o2 : Addr, σ' = [some (.ref a), some (.ref d), some tv, some (.int high), some (.ref l), some (.ref m), some (.ref o), some (.ref o2), y8, y9, y10, y11, none, none, none] ∧ H' m = some (.lst zs) ∧ Q7 CA d g c TL l zs high ss o o2 H', ?_, ?_⟩
    · refine ⟨.int high, rfl, .ref m, rfl, fun o dx no ndx nxo => ?_⟩
      have s8 : Same H5 (upd (upd H5 dx (.own o)) o (.ins CA dx [])) := fun b u e => by
        rw [upd_ne (ne_of_none e no), upd_ne (ne_of_none e ndx)]
        exact e
      have S5 := S4.same s45
      refine ⟨o, dx, m, high, zs, ss, rfl, upd_same, h1, h9, s8 _ _ hm5, S5.same s8, G.toGoods, p0, l16, fun H8 al kp => ⟨rfl, ?_⟩⟩
      have s58 : Same H5 H8 := fun b u e => kp b u (s8 b u e) (ne_of_none e no)
      have s48 := s45.trans s58
      refine ⟨.int high, rfl, .ref l, rfl, l, zs, rfl, .inl ⟨SqL.of (s48 _ _ hl4), fun T hT' => fun o2 dx2 no2 ndx2 nxo2 => ?_⟩⟩
      have sT := same_upd (o := .tup zs) hT'
      have eT := upd_same (H := H8) (a := T) (o := .tup zs)
      generalize upd H8 T (.tup zs) = H9 at sT eT no2 ndx2 ⊢
      have s9 : Same H9 (upd (upd H9 dx2 (.own o2)) o2 (.ins CA dx2 [])) := fun b u e => by
        rw [upd_ne (ne_of_none e no2), upd_ne (ne_of_none e ndx2)]
        exact e
      refine ⟨o2, dx2, T, high, zs, ss, rfl, upd_same, h1, h9, s9 _ _ eT, (S4.same s48).same (sT.trans s9), G.toGoods, p0, l16, fun H10 al2 kp2 => ⟨rfl, by show 2 ≤ sizeLine; decide, fun t ht => ?_⟩⟩
      have s910 : Same H9 H10 := fun b u e => kp2 b u (s9 b u e) (ne_of_none e no2)
      have st := same_upd (o := .tup [V.ref o, V.ref o2]) ht
      have s8t := (sT.trans s910).trans st
      have s4t := s48.trans s8t
      exact ⟨t, _, rfl, SqT.of upd_same, rfl, _, _, rfl, _, _, rfl, rfl, o, o2, rfl, (s58.trans s8t) _ _ hm5, ⟨s4t _ _ hl4, S4.same s4t, al.same s8t, al2.same st, D4.same s4t, T4.ext s4t⟩⟩
    rintro _ H6 ⟨o, o2, rfl, hm6, q6⟩
    -- the list that was handed is of no more account
    refine ⟨fun σ' H' => ∃ ys, σ' = [some (.ref a), some (.ref d), some tv, some (.int high), some (.ref l), some (.ref m), some (.ref o), some (.ref o2), y8, y9, y10, y11, none, none, none] ∧ H' m = some (.lst ys) ∧ Q7 CA d g c TL l zs high ss o o2 H', ?_, ?_⟩
    · refine ⟨.ref m, rfl, .inl ⟨rfl, _, SqL.of hm6⟩, m, zs, .non, rfl, rfl, hm6, small1000 (by rw [S4.len]; omega), _, rfl, upd_same, q6.updl hm6 nlm nmd.1 nmd.2 nmc⟩
    rintro _ H7 ⟨ys, rfl, hm7, q7⟩
    refine ⟨fun σ' H' => σ' = [some (.ref a), some (.ref d), some tv, some (.int high), some (.ref l), some (.ref m), some (.ref o), some (.ref o2), y8, y9, y10, y11, none, none, none] ∧ Q7 CA d g c TL l zs high ss o o2 H', ?_, ?_⟩
    · exact ⟨.ref m, rfl, .inl ⟨rfl, _, SqL.of hm7⟩, m, ys, rfl, rfl, hm7, rfl, q7.updl hm7 nlm nmd.1 nmd.2 nmc⟩
    clear q6 q7 hm6 hm7
    rintro _ H8 ⟨rfl, q8⟩
    refine ⟨fun σ' H' => σ' = [some (.ref a), some (.ref d), some tv, some (.int high), some (.ref l), some (.ref m), some (.ref o), some (.ref o2), y8, y9, y10, y11, none, none, none] ∧ Q7 CA d g c TL l zs high ss o o2 H', ?_, ?_⟩
    · obtain ⟨dx, t, xs, ho, _, _⟩ := id q8.al
      exact ⟨.ref o, rfl, o, dx, _, rfl, ho, aF_no _ _ (by decide +kernel) (by decide +kernel), o, high, ss, rfl, q8.al, fun l' xs' H9 s9 nl' hl' S' => ⟨.inl ⟨rfl, _, SqL.of hl'⟩, l', xs', rfl, rfl, hl', rfl, q8.same (same_over s9 nl')⟩⟩
    rintro _ H9 ⟨rfl, q9⟩
    -- the signs that are due
    have lx : zs.length = ss.length := S4.len
    refine ⟨fun σ' H' => ∃ (p : Addr) (ws : List Str), σ' = [some (.ref a), some (.ref d), some tv, some (.int high), some (.ref l), some (.ref m), some (.ref o), some (.ref o2), some (.ref p), y9, y10, y11, none, none, none] ∧ H' p = some (.lst (ws.map V.str)) ∧ ws.Perm (allT (sgT ss)) ∧ ws.Pairwise (fun a b => a.cps.toList ≤ b.cps.toList) ∧ Q7 CA d g c TL l zs high ss o o2 H', ?_, ?_⟩
    · refine ⟨.ref l, rfl, l, rfl, ⟨_, SqL.of q9.hl⟩, fun D hD => lc_list (K := K) (a := l) (xs := zs) (fun j H2 => Same H9 H2 ∧ H2 D = some (.lst (((sgT ss).take j).map V.str))) ⟨same_upd hD, upd_same⟩ (fun j H2 _ z => SqL.of (z.1 _ _ q9.hl)) ?_ ?_⟩
      · rintro j x H2 hj ⟨sm, h2⟩
        have hj' : j < ss.length := by
          rw [← lx]
          exact (List.getElem?_eq_some_iff.mp hj).1
        have es : ss[j]? = some ss[j] := List.getElem?_eq_getElem hj'
        generalize ss[j] = sj at es
        obtain ⟨t2, p2, rfl, ht2, hp2⟩ := q9.S.at_ j x sj hj es
        have eg : (sgT ss)[j]? = some ⟨#[sj.sg]⟩ := by
          unfold sgT
          rw [List.getElem?_map, es]
          rfl
        refine ⟨t2, _, rfl, SqT.of (sm _ _ ht2), rfl, _, _, rfl, _, _, rfl, rfl, rfl, ch sj.sg, rfl, _, h2, ?_, same_over sm hD, ?_⟩
        · rw [List.length_map, List.length_take]
          exact small1000 (by omega)
        · rw [upd_same, take_snoc eg, List.map_append]
          rfl
      · rintro H2 ⟨sm, h2⟩
        have lg : (sgT ss).length = zs.length := by
          unfold sgT
          rw [List.length_map, lx]
        rw [← lg, List.take_length] at h2
        refine ⟨D, sgT ss, rfl, SqL.of h2, ?_, fun a' ha' => ⟨a', _, rfl, upd_same, fun p ws pm pw hp => ?_⟩⟩
        · rw [lg]
          exact Nat.lt_of_lt_of_le (show zs.length + 1 < 18 by omega) (by decide)
        have s1 := same_upd (o := SetSO w a' (allT (sgT ss))) ha'
        have s2 := same_upd (o := .lst (ws.map V.str)) hp
        exact ⟨p, ws, rfl, upd_same, pm, pw, q9.same (sm.trans (s1.trans s2))⟩
    rintro _ H10 ⟨p, ws, rfl, hp10, pm, pw, q10⟩
    have wmem : ∀ z ∈ ws, z ∈ sgT ss := fun z hz => (allT_mem _ z).mp (pm.mem_iff.mp hz)
    have wnd := toldD_shaped (high := high) (ws := ws) G.all wmem
    -- what is told of them
    refine ⟨fun σ' H' => ∃ y9, σ' = [some (.ref a), some (.ref d), some tv, some (.int high), some (.ref l), some (.ref m), some (.ref o), some (.ref o2), some (.ref p), y9, y10, y11, none, none, none] ∧ Q7 CA d g c TL l zs high ss o o2 H', ?_, ?_⟩
    · refine ⟨.ref o, rfl, .ref o2, rfl, .ref o, rfl, by show 3 ≤ sizeLine; decide, fun L hL => ?_⟩
      have sL := same_upd (o := .lst [V.ref o, V.ref o2, V.ref o]) hL
      have eL := upd_same (H := H10) (a := L) (o := .lst [V.ref o, V.ref o2, V.ref o])
      have q11 := q10.same sL
      have hp11 := sL _ _ hp10
      generalize upd H10 L (.lst [V.ref o, V.ref o2, V.ref o]) = H11 at eL q11 hp11 ⊢
      refine ⟨L, rfl, ⟨_, SqL.of eL⟩, for_list (fun i σ H4 => ∃ y9, σ = [some (.ref a), some (.ref d), some tv, some (.int high), some (.ref l), some (.ref m), some (.ref o), some (.ref o2), some (.ref p), y9, y10, y11, none, none, none] ∧ Same H11 H4) ⟨y9, rfl, Same.refl _⟩ (fun i σ H4 _ z => by
        obtain ⟨_, _, sm⟩ := z
        exact SqL.of (sm _ _ eL)) ?_ ?_⟩
      · rintro i x σ H4 hx ⟨y9, rfl, sm⟩
        obtain ⟨om, rfl, al⟩ : ∃ om, x = .ref om ∧ AlpAt CA H4 om high ss := by
          match i, hx with
          | 0, hx => cases hx; exact ⟨o, rfl, q11.al.same sm⟩
          | 1, hx => cases hx; exact ⟨o2, rfl, q11.al2.same sm⟩
          | 2, hx => cases hx; exact ⟨o, rfl, q11.al.same sm⟩
          | i + 3, hx => exact nomatch hx
        have q4 := q11.same sm
        have hp4 := sm _ _ hp11
        refine ⟨fun σ' H' => σ' = [some (.ref a), some (.ref d), some tv, some (.int high), some (.ref l), some (.ref m), some (.ref o), some (.ref o2), some (.ref p), some (.ref om), y10, y11, none, none, none] ∧ Same H4 H', ?_, ?_⟩
        · obtain ⟨dx, t, xs, ho, _, _⟩ := id al
          refine ⟨.ref om, rfl, om, dx, _, rfl, ho, aF_no _ _ (by decide +kernel) (by decide +kernel), om, high, ss, rfl, al, .ref om, rfl, om, dx, _, rfl, ho, aF_no _ _ (by decide +kernel) (by decide +kernel), om, high, ss, rfl, al, fun l3 xs3 H5 s5 nl3 hl3 S3 => ⟨.ref om, rfl, om, dx, _, rfl, s5 _ _ ho, aF_no _ _ (by decide +kernel) (by decide +kernel), om, high, ss, rfl, al.same s5, l16, fun l4 ws4 H6 s6 nl4 hl4 pm4 pw4 => ⟨.ref om, rfl, om, dx, _, rfl, (s5.trans s6) _ _ ho, om, high, ss, rfl, al.same (s5.trans s6), ss.length, rfl, by omega, by show 4 ≤ sizeLine; decide, fun t1 ht1 => ?_⟩⟩⟩
          have ew : ws4 = ws := sort_uniq (pm4.trans pm.symm) pw4 pw
          subst ew
          have s56 := s5.trans s6
          have st1 := same_upd (o := .tup [V.int high, V.ref l3, V.ref l4, V.int ss.length]) ht1
          have q1 := q4.same (s56.trans st1)
          refine ⟨.int high, rfl, .ref l, rfl, .ref p, rfl, .ref l, rfl, l, zs, rfl, .inl (SqL.of q1.hl), by show 4 ≤ sizeLine; decide, fun t2 ht2 => ?_⟩
          have st2 := same_upd (o := .tup [V.int high, V.ref l, V.ref p, V.int zs.length]) ht2
          have q2 := q1.same st2
          have s6t := (s6.trans st1).trans st2
          refine ⟨toldD high ss ws4, toldD high ss ws4, .tup (SqT.of (st2 _ _ upd_same)) (.cons (.int _) (.cons (.lst (SqL.of (s6t _ _ hl3)) (dp_shs (S3.same s6t))) (.cons (.lst (SqL.of ((st1.trans st2) _ _ hl4)) (dp_strs _)) (.cons (.int _) .nil)))), ?_, wnd, wnd, _, rfl, ?_⟩
          · have e1 := upd_same (H := upd H6 t1 (.tup [V.int high, V.ref l3, V.ref l4, V.int ss.length])) (a := t2) (o := .tup [V.int high, V.ref l, V.ref p, V.int zs.length])
            rw [lx] at e1 ⊢
            exact .tup (SqT.of e1) (.cons (.int _) (.cons (.lst (SqL.of (by have := q2.hl; rw [lx] at this; exact this)) (dp_shs (by have := q2.S; rw [lx] at this; exact this))) (.cons (.lst (SqL.of (by have := ((s56.trans st1).trans st2) _ _ hp4; rw [lx] at this; exact this)) (dp_strs _)) (.cons (.int _) .nil))))
          · rw [neD_self wnd]
            exact iteF ⟨rfl, (s56.trans st1).trans st2⟩
        rintro _ H5 ⟨rfl, s45'⟩
        have q5 := q4.same s45'
        have al5 := al.same s45'
        obtain ⟨dx, t, xs, ho, _, _⟩ := id al5
        refine ⟨.ref l, rfl, l, zs, rfl, .inl (SqL.of q5.hl), (zs.length : Int), rfl, by omega, by omega, fun D hD => lc_range (lo := 0) (n := zs.length) (fun j H' => Same H5 H' ∧ H' D = some (.lst (((ss.take j).map fun s => (s.w : Int)).map V.int))) ⟨same_upd hD, upd_same⟩ ?_ ?_⟩
        · rintro j H6 hj ⟨sm6, h6⟩
          have e0 : (0 : Int) + (j : Int) = (j : Int) := by omega
          rw [e0]
          have es : ss[j]? = some (ss[j]'(by omega)) := List.getElem?_eq_getElem (by omega)
          generalize ss[j]'(by omega) = sj at es
          refine ⟨rfl, .ref om, rfl, om, dx, _, rfl, sm6 _ _ ho, aF_no _ _ (by decide +kernel) (by decide +kernel), .int j, rfl, om, high, j, ss, sj, rfl, al5.same sm6, es, (G.all sj (List.mem_of_getElem? es)).pic, fun H7 s7 => ⟨_, s7 _ _ h6, ?_, same_over (sm6.trans s7) hD, ?_⟩⟩
          · rw [List.length_map, List.length_map, List.length_take]
            exact small1000 (by omega)
          · rw [upd_same, take_snoc es, List.map_append, List.map_append]
            rfl
        · rintro H6 ⟨sm6, h6⟩
          rw [lx, List.take_length] at h6
          have q6 := q5.same sm6
          refine ⟨.ref l, rfl, l, rfl, ⟨_, SqL.of q6.hl⟩, fun D2 hD2 => lc_list (K := K) (a := l) (xs := zs) (fun j H' => Same H6 H' ∧ H' D2 = some (.lst (((ss.take j).map fun s => (s.w : Int)).map V.int))) ⟨same_upd hD2, upd_same⟩ (fun j H' _ z => SqL.of (z.1 _ _ q6.hl)) ?_ ?_⟩
          · rintro j x H7 hj ⟨sm7, h7⟩
            have hj' : j < ss.length := by
              rw [← lx]
              exact (List.getElem?_eq_some_iff.mp hj).1
            have es : ss[j]? = some ss[j] := List.getElem?_eq_getElem hj'
            generalize ss[j] = sj at es
            obtain ⟨t2, p2, rfl, ht2, hp2⟩ := q6.S.at_ j x sj hj es
            have pj := (G.all sj (List.mem_of_getElem? es)).pic
            have r0 : sj.rs[0]? = some (sj.rs[0]'(by rw [pj.len]; exact pj.h0)) := List.getElem?_eq_getElem _
            generalize sj.rs[0]'(by rw [pj.len]; exact pj.h0) = rw0 at r0
            have lr := (pj.row rw0 (List.mem_of_getElem? r0)).len
            have w1 := pj.w1
            refine ⟨t2, _, rfl, SqT.of (sm7 _ _ ht2), rfl, _, _, rfl, _, _, rfl, rfl, rfl, .ref p2, rfl, p2, _, 0, rv rw0, rfl, rfl, SqT.of (sm7 _ _ hp2), atI_nat (j := 0) (by rw [List.getElem?_map, r0]; rfl), S rw0, rfl, ?_, _, h7, ?_, same_over sm7 hD2, ?_⟩
            · rw [SX.S_len, lr]
              exact Nat.le_of_lt (small1000 (by omega))
            · rw [List.length_map, List.length_map, List.length_take]
              exact small1000 (by omega)
            · rw [upd_same, take_snoc es, List.map_append, List.map_append, SX.S_len, lr]
              rfl
          · rintro H7 ⟨sm7, h7⟩
            rw [lx, List.take_length] at h7
            refine ⟨_, _, .lst (SqL.of (sm7 _ _ h6)) (dp_intsL _), .lst (SqL.of h7) (dp_intsL _), shaped_ints _, shaped_ints _, _, rfl, ?_⟩
            rw [neD_self (shaped_ints _)]
            exact iteF ⟨_, rfl, (sm.trans s45').trans (sm6.trans sm7)⟩
      · rintro σ H4 ⟨y9, rfl, sm⟩
        exact ⟨y9, rfl, q11.same sm⟩
    rintro _ H11 ⟨y9, rfl, q11⟩
    -- odd numbers
    refine ⟨fun σ' H' => ∃ y9 y10, σ' = [some (.ref a), some (.ref d), some tv, some (.int high), some (.ref l), some (.ref m), some (.ref o), some (.ref o2), some (.ref p), y9, y10, y11, none, none, none] ∧ Q7 CA d g c TL l zs high ss o o2 H', ?_, ?_⟩
    · have ez : zs[0]? = some (zs[0]'(by omega)) := List.getElem?_eq_getElem (by omega)
      have es0 : ss[0]? = some ss[0] := List.getElem?_eq_getElem p0
      generalize zs[0]'(by omega) = z0 at ez
      generalize ss[0] = s0 at es0
      have ms0 := List.mem_of_getElem? es0
      refine ⟨.ref l, rfl, l, zs, rfl, .inl (SqL.of q11.hl), 1, rfl, by show 1 ≤ sizeLine; decide, fun t1 ht1 => ⟨by show 1 ≤ sizeLine; decide, fun a1 ha1 => ?_⟩⟩
      have s1 := same_upd (o := .tup [V.int 0]) ht1
      have s2 := same_upd (o := .lst [V.int 0]) ha1
      have q12 := q11.same (s1.trans s2)
      refine ⟨.ref l, rfl, l, zs, 0, z0, rfl, rfl, SqL.of q12.hl, atI_nat (j := 0) ez, by show 8 ≤ sizeLine; decide, fun L hL => ?_⟩
      have s3 := same_upd (o := .lst [V.int zs.length, V.int (-1), V.bl true, V.non, V.str "0", V.ref t1, V.ref a1, z0]) hL
      have eL := upd_same (H := upd (upd H11 t1 (.tup [V.int 0])) a1 (.lst [V.int 0])) (a := L) (o := .lst [V.int zs.length, V.int (-1), V.bl true, V.non, V.str "0", V.ref t1, V.ref a1, z0])
      have q13 := q12.same s3
      have odd : ∀ x ∈ [V.int zs.length, V.int (-1), V.bl true, V.non, V.str "0", V.ref t1, V.ref a1, z0], OddI (upd (upd (upd H11 t1 (.tup [V.int 0])) a1 (.lst [V.int 0])) L (.lst [V.int zs.length, V.int (-1), V.bl true, V.non, V.str "0", V.ref t1, V.ref a1, z0])) ss.length x := fun x hx => by
        simp only [List.mem_cons, List.not_mem_nil, or_false] at hx
        rcases hx with rfl | rfl | rfl | rfl | rfl | rfl | rfl | rfl
        · exact .inl ⟨_, rfl, .inr (by rw [lx])⟩
        · exact .inl ⟨_, rfl, .inl rfl⟩
        · exact .inr (.inl rfl)
        · exact .inr (.inr (.inl rfl))
        · exact .inr (.inr (.inr (.inl rfl)))
        · exact .inr (.inr (.inr (.inr (.inl ⟨t1, rfl, s3 _ _ (s2 _ _ upd_same)⟩))))
        · exact .inr (.inr (.inr (.inr (.inr (.inl ⟨a1, rfl, s3 _ _ upd_same⟩)))))
        · exact .inr (.inr (.inr (.inr (.inr (.inr ⟨high, s0, q13.S.at_ 0 _ s0 ez es0, G.all s0 ms0, h9⟩)))))
      generalize upd (upd (upd H11 t1 (.tup [V.int 0])) a1 (.lst [V.int 0])) L (.lst [V.int zs.length, V.int (-1), V.bl true, V.non, V.str "0", V.ref t1, V.ref a1, z0]) = H13 at eL q13 odd ⊢
      generalize [V.int zs.length, V.int (-1), V.bl true, V.non, V.str "0", V.ref t1, V.ref a1, z0] = its at eL odd ⊢
      refine ⟨L, rfl, ⟨_, SqL.of eL⟩, for_list (fun i σ H4 => ∃ y10, σ = [some (.ref a), some (.ref d), some tv, some (.int high), some (.ref l), some (.ref m), some (.ref o), some (.ref o2), some (.ref p), y9, y10, y11, none, none, none] ∧ Q7 CA d g c TL l zs high ss o o2 H4 ∧ H4 L = some (.lst its) ∧ ∀ x ∈ its, OddI H4 ss.length x) ⟨y10, rfl, q13, eL, odd⟩ (fun i σ H4 _ z => by
        obtain ⟨_, _, _, e, _⟩ := z
        exact SqL.of e) ?_ ?_⟩
      · rintro i x σ H4 hx ⟨y10, rfl, q4, e4, od4⟩
        have hxm := List.mem_of_getElem? hx
        refine ⟨fun σ' H' => σ' = [some (.ref a), some (.ref d), some tv, some (.int high), some (.ref l), some (.ref m), some (.ref o), some (.ref o2), some (.ref p), y9, some x, y11, none, none, none] ∧ Q7 CA d g c TL l zs high ss o o2 H' ∧ H' L = some (.lst its) ∧ ∀ x ∈ its, OddI H' ss.length x, ?_, ?_⟩
        · refine ⟨q4.T, fun Ha ext tabs => fun R => ?_⟩
          have qa := q4.extN ext tabs
          obtain ⟨dx, t, xs, ho, _, _⟩ := id qa.al
          have ox := (od4 x hxm).extN ext
          refine ⟨.ref o, rfl, o, dx, _, rfl, ho, aF_no _ _ (by decide +kernel) (by decide +kernel), x, rfl, o, high, ss, x, rfl, qa.al, ox.kt, ox.bt, fun dd Hb sb nd' hd => ⟨rfl, ⟨dd, _, rfl, hd⟩, fun Hc sc => ⟨rfl, _, rfl, iteE ?_ ⟨rfl, qa.same (sb.trans sc), (sb.trans sc) _ _ (ext _ _ e4 (fun _ z => nomatch z)), fun x hx => ((od4 x hx).extN ext).same (sb.trans sc)⟩⟩⟩⟩
          rw [decide_eq_true rfl]
          rfl
        clear q4 e4 od4
        rintro _ H5 ⟨rfl, q4, e4, od4⟩
        refine ⟨q4.T, fun Ha ext tabs => fun R => ?_⟩
        have qa := q4.extN ext tabs
        obtain ⟨dx, t, xs, ho, _, _⟩ := id qa.al
        have ox := (od4 x hxm).extN ext
        refine ⟨.ref o, rfl, o, dx, _, rfl, ho, aF_no _ _ (by decide +kernel) (by decide +kernel), x, rfl, o, high, ss, x, rfl, qa.al, ox.kt, ox.bt, fun dd Hb sb nd' hd => ⟨rfl, dd, x, rfl, hd, fun l1 Hc sc hl1 => ?_⟩⟩
        have sbc := sb.trans sc
        have oc := ox.same sbc
        obtain ⟨dv, dpa, sh⟩ := oc.data (K := K) l16
        refine .inr ⟨l1, .list [dv], rfl, .lst (SqL.of hl1) (.cons (dpa _ (fun b u e => e)) .nil), sh.1, sh.2.1, sh.2.2.1, sh.2.2.2, x, rfl, by show 1 ≤ sizeLine; decide, fun l2' hl2' => ?_⟩
        have s5 := same_upd (o := .lst [x]) hl2'
        exact .inr ⟨l2', .list [dv], rfl, .lst (SqL.of upd_same) (.cons (dpa _ s5) .nil), sh.1, sh.2.1, sh.2.2.1, sh.2.2.2, rfl, _, rfl, iteE (by rw [decide_eq_true rfl]; rfl) ⟨_, rfl, qa.same (sbc.trans s5), (sbc.trans s5) _ _ (ext _ _ e4 (fun _ z => nomatch z)), fun x hx => ((od4 x hx).extN ext).same (sbc.trans s5)⟩⟩
      · rintro σ H4 ⟨y10, rfl, q4, e4, od4⟩
        exact ⟨y9, y10, rfl, q4⟩
    rintro _ H12 ⟨y9, y10, rfl, q12⟩
    -- another alphabet
    refine ⟨fun σ' H' => ∃ (o3 : Addr) (s2 : List Sh), σ' = [some (.ref a), some (.ref d), some tv, some (.int high), some (.ref l), some (.ref m), some (.ref o), some (.ref o2), some (.ref p), y9, y10, some (.ref o3), none, none, none] ∧ AlpAt CA H' o3 high s2 ∧ Alt high ss s2 ∧ Q7 CA d g c TL l zs high ss o o2 H', ?_, ?_⟩
    · refine ⟨.int high, rfl, .ref d, rfl, .int high, rfl, .ref l, rfl, d, g, c, l, high, zs, ss, rfl, q12.D, l1, l2, q12.hl, q12.S, G, h1, h9, p0, l16, fun m2 ys2 s2 H13 hm2 Sm2 A2 D13 dn13 => fun o3 dx3 no ndx nxo => ?_⟩
      have s8 : Same H13 (upd (upd H13 dx3 (.own o3)) o3 (.ins CA dx3 [])) := fun b u e => by
        rw [upd_ne (ne_of_none e no), upd_ne (ne_of_none e ndx)]
        exact e
      refine ⟨o3, dx3, m2, high, ys2, s2, rfl, upd_same, h1, h9, s8 _ _ hm2, Sm2.same s8, A2.gd, A2.pos, A2.l16, fun H14 al3 kp => ⟨rfl, ?_⟩⟩
      have s1314 : Same H13 H14 := fun b u e => kp b u (s8 b u e) (ne_of_none e no)
      exact ⟨o3, s2, rfl, al3, A2, (q12.dn l1 l2 D13 dn13).same s1314⟩
    rintro _ H13 ⟨o3, s2, rfl, al3, A2, q13⟩
    obtain ⟨dx, t1, xs1, ho, _, _⟩ := id q13.al
    obtain ⟨dx2, t2, xs2, ho2, _, _⟩ := id q13.al2
    obtain ⟨dx3, t3, xs3, ho3, _, _⟩ := id al3
    have ga : ∀ s ∈ ss, Good high 8 s := G.all
    have ne1 : decide (high = high ∧ ss.map (fun s => (s.sg, s.rs)) = s2.map fun s => (s.sg, s.rs)) = false := decide_eq_false fun z => A2.ne z.2.symm
    have ne2 : decide (high = high ∧ s2.map (fun s => (s.sg, s.rs)) = ss.map fun s => (s.sg, s.rs)) = false := decide_eq_false fun z => A2.ne z.2
    have eq1 : decide (high = high ∧ ss.map (fun s => (s.sg, s.rs)) = ss.map fun s => (s.sg, s.rs)) = true := decide_eq_true ⟨rfl, rfl⟩
    refine ⟨.ref o, rfl, .ref o2, rfl, o, dx, _, rfl, ho, .inl ⟨o2, dx2, _, rfl, ho2⟩, o, high, ss, .ref o2, rfl, q13.al, ga, .inl ⟨o2, high, ss, rfl, q13.al2, ga, _, rfl, _, rfl, iteE (by rw [eq1]; rfl) ?_⟩⟩
    refine ⟨.ref o, rfl, .ref o2, rfl, o, dx, _, rfl, ho, .inl ⟨o2, dx2, _, rfl, ho2⟩, o, high, ss, .ref o2, rfl, q13.al, ga, .inl ⟨o2, high, ss, rfl, q13.al2, ga, _, rfl, _, rfl, iteE (by rw [eq1]; rfl) ?_⟩⟩
    refine ⟨.ref o, rfl, .ref o3, rfl, o, dx, _, rfl, ho, .inl ⟨o3, dx3, _, rfl, ho3⟩, o, high, ss, .ref o3, rfl, q13.al, ga, .inl ⟨o3, high, s2, rfl, al3, A2.gd.all, _, rfl, _, rfl, iteE (by rw [ne1]; rfl) ?_⟩⟩
    refine ⟨.ref o3, rfl, .ref o2, rfl, o3, dx3, _, rfl, ho3, .inl ⟨o2, dx2, _, rfl, ho2⟩, o3, high, s2, .ref o2, rfl, al3, A2.gd.all, .inl ⟨o2, high, ss, rfl, q13.al2, ga, _, rfl, _, rfl, iteE (by rw [ne2]; rfl) ?_⟩⟩
    refine ⟨.ref o, rfl, .ref l, rfl, o, dx, _, rfl, ho, .inr (.inl ⟨l, zs, rfl, q13.hl⟩), o, high, ss, .ref l, rfl, q13.al, ga, .inr ⟨.inl ⟨l, zs, rfl, q13.hl⟩, _, rfl, _, rfl, iteE rfl ?_⟩⟩
    refine ⟨.ref o, rfl, .int high, rfl, o, dx, _, rfl, ho, .inr (.inr ⟨high, rfl⟩), o, high, ss, .int high, rfl, q13.al, ga, .inr ⟨.inr ⟨high, rfl⟩, _, rfl, _, rfl, iteE rfl ?_⟩⟩
    exact ⟨_, _, _, _, _, _, _, _, _, _, rfl, q13.D, q13.T⟩
  · rintro σ H2 ⟨y2, y3, y4, y5, y6, y7, y8, y9, y10, y11, rfl, D2, T2⟩
    rfl
end
end Dt
namespace Dt
open PySem PySem.Spec PyProof.Rows L2 L2X LamX
abbrev BndT (nm : Str) (st : Stmt) (ps : List Str) : Prop := ∀ (kV doc pm : Value) (an : Option Addr) (cdv ct : Value) (us : List Value), us.length = ps.length → bindArgs (PySem.W.fnOf nm nm (defArgs st) (defBody st) (defScope st) .none kV doc pm an cdv ct) ⟨us, []⟩ = pure (ps.zip us)
abbrev BndM (nm qn : Str) (st : Stmt) (ps : List Str) : Prop := ∀ (kV doc pm : Value) (an : Option Addr) (cdv ct : Value) (us : List Value), us.length = ps.length → bindArgs (PySem.W.fnOf nm qn (defArgs st) (defBody st) (defScope st) .none kV doc pm an cdv ct) ⟨us, []⟩ = pure (ps.zip us)
theorem df_mk {K : PySem.W.Frag} {h : Heap} {mg : Str → Option Value} {nm : Str} {st : Stmt} {ps : List Str} {f : Addr} {oc : Value} {od an : Option Addr} {osl : Array (Option Value)} {kV doc pm cdv ct : Value} (X : K.In h) (G : h.Ns mainGlobals mg)
    (a : PySem.W.nsIn K mainGlobals nm = some (some (.ref f))) (l : K.lookup f = some ⟨oc, od, .func (PySem.W.fnOf nm nm (defArgs st) (defBody st) (defScope st) .none kV doc pm an cdv ct), osl⟩) (c : PySem.W.codeIn K cdv nm = true) (k : PySem.W.keepIn K (.ref f) = true) (hb : BndT nm st ps) : Df K mg nm st ps :=
  have F := fun_mk (st := st) l c k
  ⟨f, _, F, PySem.W.mg_of X G a, F.binds (ps := ps) hb⟩
/-- a method as it stands behind the top -/
structure Dm (K : PySem.W.Frag) (C : Addr) (nm qn : Str) (st : Stmt) (ps : List Str) : Prop where
  ex : ∃ f fd, Fun K nm qn st f fd ∧ Meth K C nm f ∧ Binds K fd ps []
theorem dm_mk {K : PySem.W.Frag} {C : Addr} {nm qn : Str} {st : Stmt} {ps : List Str} {f : Addr} {oc : Value} {od an : Option Addr} {osl : Array (Option Value)} {kV doc pm cdv ct : Value}
    (a : PySem.W.findIn K (.ref C) nm = some (some (.ref f))) (i : PySem.W.isFn K (.ref f) = true) (l : K.lookup f = some ⟨oc, od, .func (PySem.W.fnOf nm qn (defArgs st) (defBody st) (defScope st) .none kV doc pm an cdv ct), osl⟩) (c : PySem.W.codeIn K cdv qn = true) (k : PySem.W.keepIn K (.ref f) = true) (hb : BndM nm qn st ps) : Dm K C nm qn st ps :=
  have F := fun_mk (st := st) l c k
  ⟨f, _, F, ⟨a, i, k⟩, F.binds (ps := ps) hb⟩
theorem Mm.of {P : Program} {w : World} {K : PySem.W.Frag} {mg : Str → Option Value} {base : Heap} {k : Nat} {C : Addr} {nm qn : Str} {st : Stmt} {ps : List Str} {sp : Sp} (d : Dm K C nm qn st ps) (h : ∀ f fd, Fun K nm qn st f fd → FnOk P w K mg base CX0 k f fd ps sp) : Mm P w K mg base k C nm ps sp := by
  obtain ⟨f, fd, F, m, b⟩ := d.ex
  exact ⟨f, fd, h f fd F, m, b⟩
theorem noa {K : PySem.W.Frag} {C : Addr} {f : Str} (h : PySem.W.findIn K (.ref C) f = some none) : NoAttr K C f := h
theorem bnd0 : BndT "_law_begun" sBegun ["script"] := fun _ _ _ _ _ _ us hl => match us, hl with | [_], _ => rfl
theorem bnd1 : BndT "_law_next" sNext ["draw", "below"] := fun _ _ _ _ _ _ us hl => match us, hl with | [_, _], _ => rfl
theorem bnd2 : BndT "_law_pick" sPick ["draw", "some"] := fun _ _ _ _ _ _ us hl => match us, hl with | [_, _], _ => rfl
theorem bnd3 : BndT "_law_picture" sPic ["draw", "high", "wide"] := fun _ _ _ _ _ _ us hl => match us, hl with | [_, _, _], _ => rfl
theorem bnd4 : BndT "_law_shape" sSh1 ["draw", "high", "wide"] := fun _ _ _ _ _ _ us hl => match us, hl with | [_, _, _], _ => rfl
theorem bnd5 : BndT "_law_near" sNe1 ["draw", "rows"] := fun _ _ _ _ _ _ us hl => match us, hl with | [_, _], _ => rfl
theorem bnd6 : BndT "_law_shapes" sSs1 ["draw", "high", "most", "widest"] := fun _ _ _ _ _ _ us hl => match us, hl with | [_, _, _, _], _ => rfl
theorem bnd7 : BndT "_law_word" sWord ["e"] := fun _ _ _ _ _ _ us hl => match us, hl with | [_], _ => rfl
theorem bnd8 : BndT "_law_otherwise" sLo ["draw", "high", "shapes"] := fun _ _ _ _ _ _ us hl => match us, hl with | [_, _, _], _ => rfl
theorem bnd9 : BndT "_law_refused" sRef ["work"] := fun _ _ _ _ _ _ us hl => match us, hl with | [_], _ => rfl
theorem bnd10 : BndT "_law_at" sAt ["work"] := fun _ _ _ _ _ _ us hl => match us, hl with | [_], _ => rfl
theorem bnd11 : BndT "law" sLaw ["script"] := fun _ _ _ _ _ _ us hl => match us, hl with | [_], _ => rfl
theorem bnd12 : BndT "is_text" sIsText ["thing"] := fun _ _ _ _ _ _ us hl => match us, hl with | [_], _ => rfl
theorem bnd13 : BndT "_is_row" sIsRow ["thing"] := fun _ _ _ _ _ _ us hl => match us, hl with | [_], _ => rfl
theorem bnd14 : BndT "is_picture" sIsPic ["thing"] := fun _ _ _ _ _ _ us hl => match us, hl with | [_], _ => rfl
theorem bnd15 : BndT "want_picture" sWant ["thing"] := fun _ _ _ _ _ _ us hl => match us, hl with | [_], _ => rfl
theorem bnd16 : BndT "size" sSize ["picture"] := fun _ _ _ _ _ _ us hl => match us, hl with | [_], _ => rfl
theorem bnd17 : BndT "is_number" sIsNum ["thing"] := fun _ _ _ _ _ _ us hl => match us, hl with | [_], _ => rfl
theorem bnd18 : BndT "is_between" sBetw ["thing", "least", "most"] := fun _ _ _ _ _ _ us hl => match us, hl with | [_, _, _], _ => rfl
theorem bnd19 : BndT "is_list" sIsList ["thing"] := fun _ _ _ _ _ _ us hl => match us, hl with | [_], _ => rfl
theorem bnd20 : BndT "is_tuple" sIsTup ["thing", "many"] := fun _ _ _ _ _ _ us hl => match us, hl with | [_, _], _ => rfl
theorem bnd21 : BndT "dots" sDots ["picture"] := fun _ _ _ _ _ _ us hl => match us, hl with | [_], _ => rfl
theorem bnd22 : BndT "is_sign" sSg ["thing"] := fun _ _ _ _ _ _ us hl => match us, hl with | [_], _ => rfl
theorem bnd23 : BndT "_is_shape" sIS ["thing", "high"] := fun _ _ _ _ _ _ us hl => match us, hl with | [_, _], _ => rfl
theorem bnd24 : BndT "_is_picture_of" sIPO ["picture", "shapes"] := fun _ _ _ _ _ _ us hl => match us, hl with | [_, _], _ => rfl
theorem bnm0 : BndM "__init__" "Alphabet.__init__" sAI ["self", "high", "shapes"] := fun _ _ _ _ _ _ us hl => match us, hl with | [_, _, _], _ => rfl
theorem bnm1 : BndM "high" "Alphabet.high" sAH ["self"] := fun _ _ _ _ _ _ us hl => match us, hl with | [_], _ => rfl
theorem bnm2 : BndM "shapes" "Alphabet.shapes" sAS ["self"] := fun _ _ _ _ _ _ us hl => match us, hl with | [_], _ => rfl
theorem bnm3 : BndM "signs" "Alphabet.signs" sASg ["self"] := fun _ _ _ _ _ _ us hl => match us, hl with | [_], _ => rfl
theorem bnm4 : BndM "wide" "Alphabet.wide" sAW ["self", "number"] := fun _ _ _ _ _ _ us hl => match us, hl with | [_, _], _ => rfl
theorem bnm5 : BndM "_want_number" "Alphabet._want_number" sAN ["self", "number"] := fun _ _ _ _ _ _ us hl => match us, hl with | [_, _], _ => rfl
theorem bnm6 : BndM "__len__" "Alphabet.__len__" sALn ["self"] := fun _ _ _ _ _ _ us hl => match us, hl with | [_], _ => rfl
theorem bnm7 : BndM "__eq__" "Alphabet.__eq__" sAEq ["self", "other"] := fun _ _ _ _ _ _ us hl => match us, hl with | [_, _], _ => rfl
theorem bnmS : BndM "__init__" "NoShape.__init__" sNS ["self", "at"] := fun _ _ _ _ _ _ us hl => match us, hl with | [_, _], _ => rfl
structure AllD (K : PySem.W.Frag) (mg : Str → Option Value) (CA : Addr) : Prop where
  d0 : Df K mg "_law_begun" sBegun ["script"]
  d1 : Df K mg "_law_next" sNext ["draw", "below"]
  d2 : Df K mg "_law_pick" sPick ["draw", "some"]
  d3 : Df K mg "_law_picture" sPic ["draw", "high", "wide"]
  d4 : Df K mg "_law_shape" sSh1 ["draw", "high", "wide"]
  d5 : Df K mg "_law_near" sNe1 ["draw", "rows"]
  d6 : Df K mg "_law_shapes" sSs1 ["draw", "high", "most", "widest"]
  d7 : Df K mg "_law_word" sWord ["e"]
  d8 : Df K mg "_law_otherwise" sLo ["draw", "high", "shapes"]
  d9 : Df K mg "_law_refused" sRef ["work"]
  d10 : Df K mg "_law_at" sAt ["work"]
  d11 : Df K mg "law" sLaw ["script"]
  d12 : Df K mg "is_text" sIsText ["thing"]
  d13 : Df K mg "_is_row" sIsRow ["thing"]
  d14 : Df K mg "is_picture" sIsPic ["thing"]
  d15 : Df K mg "want_picture" sWant ["thing"]
  d16 : Df K mg "size" sSize ["picture"]
  d17 : Df K mg "is_number" sIsNum ["thing"]
  d18 : Df K mg "is_between" sBetw ["thing", "least", "most"]
  d19 : Df K mg "is_list" sIsList ["thing"]
  d20 : Df K mg "is_tuple" sIsTup ["thing", "many"]
  d21 : Df K mg "dots" sDots ["picture"]
  d22 : Df K mg "is_sign" sSg ["thing"]
  d23 : Df K mg "_is_shape" sIS ["thing", "high"]
  d24 : Df K mg "_is_picture_of" sIPO ["picture", "shapes"]
  m0 : Dm K CA "__init__" "Alphabet.__init__" sAI ["self", "high", "shapes"]
  m1 : Dm K CA "high" "Alphabet.high" sAH ["self"]
  m2 : Dm K CA "shapes" "Alphabet.shapes" sAS ["self"]
  m3 : Dm K CA "signs" "Alphabet.signs" sASg ["self"]
  m4 : Dm K CA "wide" "Alphabet.wide" sAW ["self", "number"]
  m5 : Dm K CA "_want_number" "Alphabet._want_number" sAN ["self", "number"]
  m6 : Dm K CA "__len__" "Alphabet.__len__" sALn ["self"]
structure AllN (K : PySem.W.Frag) (mg : Str → Option Value) (C CA CS : Addr) : Prop where
  z0 : mg "len" = none
  z1 : mg "range" = none
  z2 : mg "tuple" = none
  z3 : mg "list" = none
  z4 : mg "int" = none
  z5 : mg "type" = none
  z6 : mg "str" = none
  z7 : mg "all" = none
  z8 : mg "any" = none
  z9 : mg "enumerate" = none
  z10 : mg "isinstance" = none
  z11 : mg "ValueError" = none
  z12 : mg "repr" = none
  z13 : mg "sorted" = none
  z14 : mg "set" = none
  i0 : ∃ t, mg "MOST_ROWS" = some (.int 60 t)
  i1 : ∃ t, mg "MOST_COLUMNS" = some (.int 120 t)
  i2 : ∃ t, mg "MOST_HIGH" = some (.int 9 t)
  i3 : ∃ t, mg "MOST_WIDE" = some (.int 8 t)
  i4 : ∃ t, mg "MOST_SHAPES" = some (.int 16 t)
  n : Tn K mg C
  ta : Tal K mg CA
  tq : TalQ K CA
  w : Tw K mg CS "shape"
  tns : Tns K mg CS
  xf : XfC K CS
  te : PySem.W.exmOne K (.ref CS) (.ref CS) = some true
  CD : ∃ a, mg "DotError" = some (.ref a) ∧ PySem.W.exmOne K (.ref CS) (.ref a) = some true
  eq : ∃ f fd, Fun K "__eq__" "Alphabet.__eq__" sAEq f fd ∧ PySem.W.findIn K (.ref CA) "__eq__" = some (some (.ref f)) ∧ PySem.W.isFn K (.ref f) = true ∧ Binds K fd ["self", "other"] []
  ne : PySem.W.findIn K (.ref CA) "__ne__" = some (some (.builtin "object.__ne__"))
  ob : PySem.W.subIn K (.ref CA) (.type "object") = some true
  mks : PySem.W.makesIn K CA = true
  kp : PySem.W.keepIn K (.ref CA) = true
section
variable {P : Program} {w : World} {K : PySem.W.Frag} {mg : Str → Option Value} {base : Heap} {C CA CS : Addr}
theorem facts (D : AllD K mg CA) (N : AllN K mg C CA CS) : ∃ fI fdI, LawFs P w K mg base C CA CS fI fdI := by
  have X : Tx mg := ⟨N.z0, N.z1, N.z2, N.z3, N.z4⟩
  have T : Tp mg := ⟨N.z5, N.z6, N.z7, N.i0, N.i1⟩
  have nxt : ∀ k, Pm P w K mg base CX0 (k + 1) "_law_next" ["draw", "below"] spNext := fun k => .of D.d1 fun f fd F => ok_next F X.len
  have pck : ∀ k, Pm P w K mg base CX0 (k + 2) "_law_pick" ["draw", "some"] (spPick K) := fun k => .of D.d2 fun f fd F => by
    obtain ⟨_, _, G, m, kp, b⟩ := (nxt k).ex
    exact ok_pick F X G m kp b
  have pct : ∀ k, Pm P w K mg base CX0 (k + 2) "_law_picture" ["draw", "high", "wide"] spPic := fun k => .of D.d3 fun f fd F => by
    obtain ⟨_, _, G, m, kp, b⟩ := (nxt k).ex
    exact ok_pic F X G m kp b
  have sha : ∀ k, Pm P w K mg base CX0 (k + 3) "_law_shape" ["draw", "high", "wide"] spSh1 := fun k => .of D.d4 fun f fd F => by
    obtain ⟨_, _, G, m, kp, b⟩ := (pct k).ex
    exact ok_sh1 (k := k + 1) F G m kp b
  have nea : ∀ k, Pm P w K mg base CX0 (k + 2) "_law_near" ["draw", "rows"] spNe1 := fun k => .of D.d5 fun f fd F => by
    obtain ⟨_, _, G, m, kp, b⟩ := (nxt k).ex
    exact ok_ne1 F X G m kp b
  have isT : ∀ k, Pm P w K mg base CX0 (k + 1) "is_text" ["thing"] (spIsText K) := fun k => .of D.d12 fun f fd F => ok_isText F T
  have isR : ∀ k, Pm P w K mg base CX0 (k + 2) "_is_row" ["thing"] (spIsRow K) := fun k => .of D.d13 fun f fd F => by
    obtain ⟨_, _, G, m, kp, b⟩ := (isT k).ex
    exact ok_isRow F T X G m kp b
  have isP : ∀ k, Pm P w K mg base CX0 (k + 3) "is_picture" ["thing"] (spIsPic K) := fun k => .of D.d14 fun f fd F => by
    obtain ⟨_, _, G, m, kp, b⟩ := (isR k).ex
    exact ok_isPic (k := k + 1) F T X G m kp b
  have wnt : ∀ k, GW P w K mg base C (k + 4) := fun k => by
    obtain ⟨fW, fdW, FW, mW, bW⟩ := (D.d15).ex
    obtain ⟨_, _, G, m, kp, b⟩ := (isP k).ex
    exact ⟨fW, fdW, ok_want (k := k + 2) FW N.n G m kp b, mW, FW.kp, bW⟩
  have siz : ∀ k, GS P w K mg base C (k + 5) := fun k => by
    obtain ⟨f, fd, F, m, b⟩ := (D.d16).ex
    exact ⟨f, fd, ok_size (k := k + 3) F X (wnt k), m, F.kp, b⟩
  have isN : ∀ k, Pm P w K mg base CX0 (k + 1) "is_number" ["thing"] (spIsNum K) := fun k => .of D.d17 fun f fd F => ok_isNum F T X
  have btw : ∀ k, Pm P w K mg base CX0 (k + 2) "is_between" ["thing", "least", "most"] (spBetw K) := fun k => .of D.d18 fun f fd F => by
    obtain ⟨_, _, G, m, kp, b⟩ := (isN k).ex
    exact ok_betw F G m kp b
  have isL : ∀ k, Pm P w K mg base CX0 (k + 1) "is_list" ["thing"] (spIsList K) := fun k => .of D.d19 fun f fd F => ok_isList F T X
  have isU : ∀ k, Pm P w K mg base CX0 (k + 1) "is_tuple" ["thing", "many"] (spIsTup K) := fun k => .of D.d20 fun f fd F => ok_isTup F T X
  have dts : ∀ k, Pm P w K mg base (L2.CX P w) (k + 5) "dots" ["picture"] (spDots K) := fun k => .of D.d21 fun f fd F => ok_dots (k := k + 3) F N.z9 (wnt k)
  have sgn : ∀ k, Pm P w K mg base CX0 (k + 2) "is_sign" ["thing"] spSg := fun k => .of D.d22 fun f fd F => ok_sg F X (isT k)
  have ish : ∀ k, Pm P w K mg base CX0 (k + 6) "_is_shape" ["thing", "high"] spIS := fun k => .of D.d23 fun f fd F => ok_is (k := k + 4) F X N.i3 (isU (k + 4)) (sgn (k + 3)) (isP (k + 2)) (siz k) (dts k)
  have ipo : ∀ k, Pm P w K mg base CX0 (k + 1) "_is_picture_of" ["picture", "shapes"] spIPO := fun k => .of D.d24 fun f fd F => ok_ipo F N.z8
  have ipt : ∀ k, Pm P w K mg base CX0 (k + 1) "_is_picture_of" ["picture", "shapes"] spIPOT := fun k => .of D.d24 fun f fd F => ok_ipot F N.z8
  have ahi : ∀ k, Mm P w K mg base (k + 1) CA "high" ["self"] (spAH CA) := fun k => .of D.m1 fun f fd F => ok_ah F N.ta
  have ash : ∀ k, Mm P w K mg base (k + 1) CA "shapes" ["self"] (spAS CA) := fun k => .of D.m2 fun f fd F => ok_as F X N.ta
  have asg : ∀ k, Mm P w K mg base (k + 1) CA "signs" ["self"] (spASg CA) := fun k => .of D.m3 fun f fd F => ok_asg F N.ta N.z13
  have anu : ∀ k, Mm P w K mg base (k + 3) CA "_want_number" ["self", "number"] (spAN CA) := fun k => .of D.m5 fun f fd F => ok_an (k := k + 1) F X N.ta (btw k)
  have awd : ∀ k, Mm P w K mg base (k + 6) CA "wide" ["self", "number"] (spAW CA) := fun k => .of D.m4 fun f fd F => ok_aw (k := k + 4) F N.ta (siz k) (anu (k + 2))
  obtain ⟨fI, fdI, FI, mI, bI⟩ := (D.m0).ex
  have GI : FnOk P w K mg base CX0 7 fI fdI ["self", "high", "shapes"] (spAI CA) := ok_ai (k := 5) FI X N.ta N.z9 N.i2 N.i4 (btw 4) (isL 5) (ish 0) (ipo 5)
  have GIT : FnOk P w K mg base CX0 7 fI fdI ["self", "high", "shapes"] (spAIT CA) := ok_ait (k := 5) FI X N.ta N.z9 N.i2 N.i4 (btw 4) (isL 5) (ish 0) (ipt 5)
  obtain ⟨fN, fdN, FN, mN, bN⟩ := (D.m5).ex
  have GN : FnOk P w K mg base (L2.CX P w) 5 fN fdN ["self", "number"] (spANR K CA CS) := ok_anR (k := 2) FN X N.ta N.tns (btw 2)
  obtain ⟨fW, fdW, FW, mW, bW⟩ := (D.m4).ex
  have GW' : FnOk P w K mg base (L2.CX P w) 6 fW fdW ["self", "number"] (spANR K CA CS) := ok_awR (k := 4) FW N.ta (siz 0) ⟨fN, fdN, GN, mN, bN⟩
  obtain ⟨fQ, fdQ, FQ, hQ, iQ, bQ⟩ := N.eq
  refine ⟨fI, fdI, ?_⟩
  exact
    { tx := X
      rp := N.z12
      so := N.z13
      se := N.z14
      ta := N.ta
      tns := N.tns
      xf := N.xf
      te := N.te
      mka := ⟨N.mks, mI.at_, mI.fn, N.kp⟩
      gi := GI
      git := GIT
      bi := bI
      B := .of D.d0 fun f fd F => ok_begun (k := 7) F X
      N := nxt 7
      S := .of D.d6 fun f fd F => ok_ss1 (k := 4) F X (nxt 6) (pck 5) (sha 4) (nea 5)
      O := .of D.d8 fun f fd F => ok_lo (k := 4) F X (nxt 6) (pck 5) (nea 5)
      ah := ahi 7
      as_ := ash 7
      asg := asg 7
      aw := awd 2
      awR := ⟨fW, fdW, GW', mW, bW⟩
      aln := .of D.m6 fun f fd F => ok_aln (k := 6) F X N.ta
      aeq := ⟨fQ, fdQ, ok_aeq (k := 6) FQ N.ta N.tq N.z10, hQ, iQ, bQ⟩
      ane := N.ne
      aob := N.ob
      wd := .of D.d7 fun f fd F => ok_wordK (k := 6) F N.w
      CD := N.CD
      R := D.d9
      A := D.d10 }
end
theorem gli_mk {K : PySem.W.Frag} {h : Heap} {mg : Str → Option Value} {nm : Str} {i : Int} {t : Tok} (X : K.In h) (G : h.Ns mainGlobals mg) (a : PySem.W.nsIn K mainGlobals nm = some (some (.int i t))) : ∃ t, mg nm = some (.int i t) := ⟨t, PySem.W.mg_of X G a⟩
theorem glk_mk {K : PySem.W.Frag} {h : Heap} {mg : Str → Option Value} {nm : Str} {C D : Addr} {b : Bool} (X : K.In h) (G : h.Ns mainGlobals mg) (a : PySem.W.nsIn K mainGlobals nm = some (some (.ref C))) (q : PySem.W.kitOne K (.ref D) (.ref C) = some b) : ∃ C, mg nm = some (.ref C) ∧ PySem.W.kitOne K (.ref D) (.ref C) = some b := ⟨C, PySem.W.mg_of X G a, q⟩
theorem glx_mk {K : PySem.W.Frag} {h : Heap} {mg : Str → Option Value} {nm : Str} {C D : Addr} (X : K.In h) (G : h.Ns mainGlobals mg) (a : PySem.W.nsIn K mainGlobals nm = some (some (.ref C))) (q : PySem.W.exmOne K (.ref D) (.ref C) = some true) : ∃ C, mg nm = some (.ref C) ∧ PySem.W.exmOne K (.ref D) (.ref C) = some true := ⟨C, PySem.W.mg_of X G a, q⟩
theorem kitc_ref {K : PySem.W.Frag} {C D : Addr} {b : Bool} (i : PySem.W.isClsIn K C = true) (y : PySem.W.typeIn K (.ref C) = some (.type "type")) (s : PySem.W.subIn K (.ref D) (.ref C) = some b) : PySem.W.kitCls K (.ref D) (.ref C) = some b := by
  have e2 : ((PySem.W.clsIn K C).isSome && PySem.W.typeIn K (.ref C) == some (.type "type")) = true := by
    have i' : (PySem.W.clsIn K C).isSome = true := i
    rw [i', y] <;> rfl
  show (if ((PySem.W.clsIn K C).isSome && PySem.W.typeIn K (.ref C) == some (.type "type")) = true then PySem.W.subIn K (.ref D) (.ref C) else none) = some b
  rw [if_pos e2]
  exact s
theorem kit_self {K : PySem.W.Frag} {C : Addr} : PySem.W.kitOne K (.ref C) (.ref C) = some true := if_pos (beq_self_eq_true _)
theorem kit_ne {K : PySem.W.Frag} {C D : Addr} {b : Bool} (n : D ≠ C) (h : PySem.W.kitCls K (.ref D) (.ref C) = some b) : PySem.W.kitOne K (.ref D) (.ref C) = some b := by
  unfold PySem.W.kitOne
  rw [if_neg (fun z => n (Value.ref.inj (beq_iff_eq.mp z)))]
  exact h
theorem glo_mk {K : PySem.W.Frag} {h : Heap} {mg : Str → Option Value} {nm : Str} {C D : Addr} {b : Bool} (X : K.In h) (G : h.Ns mainGlobals mg) (a : PySem.W.nsIn K mainGlobals nm = some (some (.ref C))) (i : PySem.W.isClsIn K C = true) (y : PySem.W.typeIn K (.ref C) = some (.type "type")) (s : PySem.W.subIn K (.ref D) (.ref C) = some b) (n : D ≠ C) : ∃ C, mg nm = some (.ref C) ∧ PySem.W.kitOne K (.ref D) (.ref C) = some b :=
  ⟨C, PySem.W.mg_of X G a, kit_ne n (kitc_ref i y s)⟩
theorem gls_mk {K : PySem.W.Frag} {h : Heap} {mg : Str → Option Value} {nm : Str} {C : Addr} (X : K.In h) (G : h.Ns mainGlobals mg) (a : PySem.W.nsIn K mainGlobals nm = some (some (.ref C))) : ∃ D, mg nm = some (.ref D) ∧ PySem.W.kitOne K (.ref C) (.ref D) = some true := ⟨C, PySem.W.mg_of X G a, kit_self⟩
theorem kit_ty {K : PySem.W.Frag} {D : Addr} {T : String} {b : Bool} (m : PySem.W.kitMeta T = true) (s : PySem.W.subIn K (.ref D) (.type T) = some b) : PySem.W.kitOne K (.ref D) (.type T) = some b := by
  unfold PySem.W.kitOne
  have n : ¬ ((Value.ref D == Value.type T) = true) := fun z => by
    have e := beq_iff_eq.mp z
    cases e
  rw [if_neg n]
  show (if PySem.W.kitMeta T = true then PySem.W.subIn K (.ref D) (.type T) else none) = some b
  rw [if_pos m]
  exact s
theorem glx_of {K : PySem.W.Frag} {h : Heap} {mg : Str → Option Value} {nm : Str} {C D : Addr} (X : K.In h) (G : h.Ns mainGlobals mg) (a : PySem.W.nsIn K mainGlobals nm = some (some (.ref C))) (b : PySem.W.subIn K (.ref C) (.type "BaseException") = some true) (hd : PySem.W.hasDictIn K C = true) (y : PySem.W.typeIn K (.ref C) = some (.type "type")) (s : PySem.W.subIn K (.ref D) (.ref C) = some true) :
    ∃ C, mg nm = some (.ref C) ∧ PySem.W.exmOne K (.ref D) (.ref C) = some true := ⟨C, PySem.W.mg_of X G a, PySem.W.exm_ref b hd y s⟩
theorem tabm {K : PySem.W.Frag} {f cc PP : Addr} {oc oc2 : Value} {od od2 : Option Addr} {fd : FuncData} {sl sl2 : Array (Option Value)} {vs : Array Value} (a : PySem.W.nsIn K mainGlobals "law" = some (some (.ref f))) (l : K.lookup f = some ⟨oc, od, .func fd, sl⟩) (c : fd.code = .ref cc) (m : K.lookup cc = some ⟨oc2, od2, .fields vs, sl2⟩) (v : (vs[11]? : Option Value) = some (.ref PP)) :
    PySem.W.tabIn K "law" = some (cc, PP) := by
  unfold PySem.W.tabIn
  rw [a]
  simp only
  rw [l]
  simp only
  rw [c]
  simp only
  rw [m]
  simp only
  rw [v]
theorem tns_mk {K : PySem.W.Frag} {h : Heap} {mg : Str → Option Value} {C f : Addr} {nm q : Str} {N : Addr} {bs bm : List Value} {sn : List Str} {sub : List Value} {ab : Bool} {col : Option Bool} {dd : Option Addr} {k0 k1 k2 k3 k5 : Option Value} {oc : Value} {od an : Option Addr} {osl : Array (Option Value)} {kV doc pm cdv ct : Value} (X : K.In h) (G : h.Ns mainGlobals mg) (a : PySem.W.nsIn K mainGlobals "NoShape" = some (some (.ref C)))
    (cl : K.lookup C = some (PySem.excClassObj nm q C N bs bm true sn sub ab col dd k0 k1 k2 k3 k5 "ValueError.__new__")) (rv : PySem.HandSPX.refsVE bm = true) (sa : PySem.W.findIn K (.ref C) "__setattr__" = some (some (.builtin "object.__setattr__"))) (eC : PySem.W.subIn K (.ref C) (.type "BaseException") = some true) (tC : PySem.W.typeIn K (.ref C) = some (.type "type")) (kC : PySem.W.keepIn K (.ref C) = true)
    (no : PySem.W.findIn K (.ref C) "at" = some none) (i : PySem.W.findIn K (.ref C) "__init__" = some (some (.ref f))) (ti : PySem.W.typeIn K (.ref f) = some (.type "function")) (l : K.lookup f = some ⟨oc, od, .func (PySem.W.fnOf "__init__" "NoShape.__init__" (defArgs sNS) (defBody sNS) (defScope sNS) .none kV doc pm an cdv ct), osl⟩) (c : PySem.W.codeIn K cdv "NoShape.__init__" = true) (k : PySem.W.keepIn K (.ref f) = true) : Tns K mg C :=
  have F := fun_mk (st := sNS) l c k
  ⟨PySem.W.mg_of X G a, ⟨⟨nm, q, N, bs, bm, sn, sub, ab, col, dd, k0, k1, k2, k3, k5, cl, rv⟩, sa, eC, tC, kC⟩, no, f, _, i, ti, F, F.binds (ps := ["self", "at"]) bnmS⟩
theorem kit_tv {K : PySem.W.Frag} {T : String} {C : Addr} {b : Bool} (i : PySem.W.isClsIn K C = true) (y : PySem.W.typeIn K (.ref C) = some (.type "type")) (s : PySem.W.subIn K (.type T) (.ref C) = some b) : PySem.W.kitOne K (.type T) (.ref C) = some b := by
  unfold PySem.W.kitOne
  have n : ¬ ((Value.type T == Value.ref C) = true) := fun z => by
    have e := beq_iff_eq.mp z
    cases e
  rw [if_neg n]
  have e2 : ((PySem.W.clsIn K C).isSome && PySem.W.typeIn K (.ref C) == some (.type "type")) = true := by
    have i' : (PySem.W.clsIn K C).isSome = true := i
    rw [i', y] <;> rfl
  show (if ((PySem.W.clsIn K C).isSome && PySem.W.typeIn K (.ref C) == some (.type "type")) = true then PySem.W.subIn K (.type T) (.ref C) else none) = some b
  rw [if_pos e2]
  exact s
theorem eq_mk {K : PySem.W.Frag} {CA f : Addr} {oc : Value} {od an : Option Addr} {osl : Array (Option Value)} {kV doc pm cdv ct : Value} (h : PySem.W.findIn K (.ref CA) "__eq__" = some (some (.ref f))) (i : PySem.W.isFn K (.ref f) = true) (l : K.lookup f = some ⟨oc, od, .func (PySem.W.fnOf "__eq__" "Alphabet.__eq__" (defArgs sAEq) (defBody sAEq) (defScope sAEq) .none kV doc pm an cdv ct), osl⟩) (c : PySem.W.codeIn K cdv "Alphabet.__eq__" = true) (k : PySem.W.keepIn K (.ref f) = true) :
    ∃ f fd, Fun K "__eq__" "Alphabet.__eq__" sAEq f fd ∧ PySem.W.findIn K (.ref CA) "__eq__" = some (some (.ref f)) ∧ PySem.W.isFn K (.ref f) = true ∧ Binds K fd ["self", "other"] [] :=
  have F := fun_mk (st := sAEq) l c k
  ⟨f, _, F, h, i, F.binds (ps := ["self", "other"]) bnm7⟩
theorem end_mk7 {K : PySem.W.Frag} {mg : Str → Option Value} {C CA CS cc PP : Addr} (D : AllD K mg CA) (N : AllN K mg C CA CS) (t : PySem.W.tabIn K "law" = some (cc, PP)) (np : K.lookup PP = none) :
    ∃ (C CA CS cc PP : Addr), AllD K mg CA ∧ AllN K mg C CA CS ∧ PySem.W.tabIn K "law" = some (cc, PP) ∧ K.lookup PP = none := ⟨C, CA, CS, cc, PP, D, N, t, np⟩
theorem walk7 {l : PySem.W.OpenLaw} {q : Program} {loose : List Str} {XP : (Str → Option Value) → Heap → Prop} {YP : World → Heap → Prop} {d e : DefRec} {K : Params → PySem.W.Frag}
    (hn : l.most = some 63) (hdf : d.params.defaults = []) (hrec : (PyProof.Rows.recsOf q).find? (fun e => e.name == ("law" : Str)) = some e) (hY : ∀ (w : World) (h : Heap), YP w h → (K w.params).In h) (hname : d.name = "law")
    (F : ∀ (w : World) (mg : Str → Option Value) (h : Heap), (K w.params).In h → h.Ns mainGlobals mg → ∃ (C CA CS cc PP : Addr), AllD (K w.params) mg CA ∧ AllN (K w.params) mg C CA CS ∧ PySem.W.tabIn (K w.params) "law" = some (cc, PP) ∧ (K w.params).lookup PP = none) :
    PySem.W.WalkO q loose XP YP l.row.toRowW d [] (fun f vs => PySem.call f vs) := by
  refine Att.attach_callB hn hdf fun w s₀ s₁ mg mb fa o pm cd doc a vs ns G Y ho hd hcd hmg hobj hints hlen hbits hg => ?_
  have KX := hY w _ Y
  obtain ⟨C, CA, CS, cc, PP, D, N, ht, nP⟩ := F w mg _ KX G.T.g
  obtain ⟨hC, hP⟩ := PySem.W.tab_of G.T KX hrec ht
  rw [hname] at hmg
  obtain ⟨fL, fdL, FL, mL, bL⟩ := D.d11.ex
  rw [hmg] at mL
  cases mL
  obtain ⟨oc, od, kV, dc, pm', an, cdv, ct, osl, rfl, lk, hc⟩ := FL.ex
  have ec := PySem.W.law_code KX G.T.g ht hmg (KX _ _ lk) rfl
  have ec' : cdv = .ref cc := ec
  subst ec'
  refine law_callG (cs := [(cc, PP)]) KX G.T.g G.T.b G.T.builtins G.T.nolimit hg (fun p hp => by rw [List.mem_singleton.mp hp]; exact hP) (fun p hp => by rw [List.mem_singleton.mp hp]; exact nP) (fun p hp => by rw [List.mem_singleton.mp hp]; exact hC) G.T.bmain hobj hints (Nat.le_trans hlen (by decide)) ?_
  intro base H hKb hNs hTB hHT hS e0
  obtain ⟨fI, fdI, LF⟩ := facts (P := l.prog) (w := w) (base := base) D N
  exact law_run lk hc (fun _ _ => .of_eq rfl) LF (hTB _ (List.mem_singleton.mpr rfl)) ⟨rfl, by decide, by decide⟩ e0 (hHT _ (List.mem_singleton.mpr rfl)) hS hlen
end Dt
noncomputable section
namespace Dt
open PySem PySem.W PySem.Calls PyProof.Rows HeadRun
/-- a law of a program with imports, its run told in two equations -/
theorem head_s {H : Hook} {r : OpenRow} {q : Program} {K : Params → Frag} {as : List Addr} {ek : ∀ P, as = (K P).map (·.1)} {M : Nat} {loose : List PySem.Str} {d : DefRec} {kwd : List (PySem.Str × PySem.Expr)} (eH : H = kHook K as ek)
    (run1 : ∀ w : World, (wholeF (fun p => stepQ (denQ tabQ) p w) fenceQ M r.prog).map (fun x => (looksF r.prog x.1.heap x.2.abs, seenQ q loose (importedModules r.prog.main.body) (fun s => xlAt q [] s && recOk r.toRowW.records s) x.2.abs)) = some (true, openGood q loose))
    (run2 : ∀ w : World, (wholeF (fun p => stepQ (denQ tabQ) p w) fenceQ M r.prog).map (fun x => as.map (getT x.2)) = some ((K w.params).map fun x => some x.2))
    (hdef : defOf q r.name = some (d, kwd)) (hp : r.prog.theDef r.name = some (d.params, d.body, d.scope)) (hk : kwWritten? d.params.kwonlyargs d.params.kw_defaults = some kwd)
    (hwr : (!r.writes || r.records.isEmpty) = true) (k1 : r.wellSaid = true) (ok : (chainsOk q && opensWell r.prog && (frees r.toRowW && r.within.isEmpty)) = true) (hb : r.prog.bare) (hw : r.toRowW.promised)
    (call : WalkO q loose (XL q []) H.says r.toRowW d kwd fun f vs => PySem.call f vs) : r.Holds := by
  subst eH
  refine head_imp (H := kHook K as ek) (ob := fun s => as.map (getT s)) (M := M) (fun s => List.map_congr_left fun a _ => getT_eq s a) (fun w => ?_) hdef hp hk hwr k1 ok hb hw call
  unfold RunEqI
  have e1 := run1 w
  have e2 := run2 w
  cases e : wholeF (fun p => stepQ (denQ tabQ) p w) fenceQ M r.prog with
  | none =>
    rw [e] at e1
    cases e1
  | some x =>
    rw [e] at e1 e2
    have a1 := Option.some.inj e1
    have a2 := Option.some.inj e2
    exact congrArg some (Prod.ext (congrArg (·.1) a1) (Prod.ext (congrArg (·.2) a1) a2))
end Dt
end
noncomputable section
namespace Dt
open PySem PySem.W PySem.Calls PyProof.Rows HeadRun
abbrev RT : OpenRow := OpenLaw.row PySem.Challenge.rw_dotread_k07_alphabets_told
abbrev qT : Program := view RT.prog [49]
def loT0 : List PySem.Str := ["_wall", "DotError", "NoPicture", "NoPlace", "NoShape", "NoSign", "NoWord", "NoReading", "NoTable", "NoLine", "NoDeed", "NoBack", "TooMany", "NoText", "is_number", "is_between", "is_text", "is_list", "is_tuple", "MOST_ROWS", "MOST_COLUMNS", "is_picture", "_is_row", "want_picture", "size", "dots", "MOST_HIGH", "MOST_WIDE", "MOST_SHAPES", "Alphabet"]
def loT1 : List PySem.Str := ["is_sign", "_is_shape", "_is_picture_of", "_law_begun", "_law_next", "_law_pick", "_law_picture", "_law_shape", "_law_near", "_law_shapes", "_law_word", "_law_refused", "_law_at", "_law_otherwise"]
def looseT : List PySem.Str := loT0 ++ loT1
set_option maxHeartbeats 0 in
theorem runT (w : World) : (wholeF (fun p => stepQ (denQ tabQ) p w) fenceQ 12600 RT.prog).map (fun x => (looksF RT.prog x.1.heap x.2.abs, seenQ qT looseT (importedModules RT.prog.main.body) (fun s => xlAt qT [] s && recOk RT.toRowW.records s) x.2.abs)) = some (true, openGood qT looseT) := by
  kernel_rfl
end Dt
end
open PySem PySem.W PyProof.Rows
local macro_rules
  | `(tactic| k_head) => `(tactic| k_headL)
local macro_rules
  | `(tactic| o_headL $H) => `(tactic| (refine Dt.head_s (H := $H) (r := Dt.RT) (q := Dt.qT) (loose := Dt.looseT) (M := 12600) (d := HandSHeadRun.topDef Dt.RT.prog 49) (kwd := []) rfl Dt.runT ?hr (by kernel_rfl) (by kernel_rfl) (by kernel_rfl) (by rfl) (by first | assumption | decide +kernel) (by decide +kernel) ⟨rfl, rfl, rfl, rfl, rfl, by decide +kernel⟩ ?hw ?hc; (case hr => intro w; kernel_rfl)))
set_option maxRecDepth 100000 in
set_option maxHeartbeats 0 in
open_top Dt.headT for PySem.Challenge.rw_dotread_k07_alphabets_told
set_option maxRecDepth 100000 in
set_option maxHeartbeats 0 in
theorem PySem.Challenge.cw_dotread_k07_alphabets_told_holds : PySem.Challenge.rw_dotread_k07_alphabets_told.Holds := by
  refine Dt.headT ?_
  k_fill
  refine Dt.walk7 (l := PySem.Challenge.rw_dotread_k07_alphabets_told) rfl rfl rfl (fun w h Y => PySem.W.kIn_of Y) (by kernel_rfl) ?F
  case F =>
    intro w mg h KX G
    refine' Dt.end_mk7 ⟨Dt.df_mk KX G ?a0 ?l0 ?c0 ?k0 Dt.bnd0, Dt.df_mk KX G ?a1 ?l1 ?c1 ?k1 Dt.bnd1, Dt.df_mk KX G ?a2 ?l2 ?c2 ?k2 Dt.bnd2, Dt.df_mk KX G ?a3 ?l3 ?c3 ?k3 Dt.bnd3, Dt.df_mk KX G ?a4 ?l4 ?c4 ?k4 Dt.bnd4, Dt.df_mk KX G ?a5 ?l5 ?c5 ?k5 Dt.bnd5, Dt.df_mk KX G ?a6 ?l6 ?c6 ?k6 Dt.bnd6, Dt.df_mk KX G ?a7 ?l7 ?c7 ?k7 Dt.bnd7, Dt.df_mk KX G ?a8 ?l8 ?c8 ?k8 Dt.bnd8, Dt.df_mk KX G ?a9 ?l9 ?c9 ?k9 Dt.bnd9, Dt.df_mk KX G ?a10 ?l10 ?c10 ?k10 Dt.bnd10, Dt.df_mk KX G ?a11 ?l11 ?c11 ?k11 Dt.bnd11, Dt.df_mk KX G ?a12 ?l12 ?c12 ?k12 Dt.bnd12, Dt.df_mk KX G ?a13 ?l13 ?c13 ?k13 Dt.bnd13, Dt.df_mk KX G ?a14 ?l14 ?c14 ?k14 Dt.bnd14, Dt.df_mk KX G ?a15 ?l15 ?c15 ?k15 Dt.bnd15, Dt.df_mk KX G ?a16 ?l16 ?c16 ?k16 Dt.bnd16, Dt.df_mk KX G ?a17 ?l17 ?c17 ?k17 Dt.bnd17, Dt.df_mk KX G ?a18 ?l18 ?c18 ?k18 Dt.bnd18, Dt.df_mk KX G ?a19 ?l19 ?c19 ?k19 Dt.bnd19, Dt.df_mk KX G ?a20 ?l20 ?c20 ?k20 Dt.bnd20, Dt.df_mk KX G ?a21 ?l21 ?c21 ?k21 Dt.bnd21, Dt.df_mk KX G ?a22 ?l22 ?c22 ?k22 Dt.bnd22, Dt.df_mk KX G ?a23 ?l23 ?c23 ?k23 Dt.bnd23, Dt.df_mk KX G ?a24 ?l24 ?c24 ?k24 Dt.bnd24, Dt.dm_mk ?ma0 ?mi0 ?ml0 ?mc0 ?mk0 Dt.bnm0, Dt.dm_mk ?ma1 ?mi1 ?ml1 ?mc1 ?mk1 Dt.bnm1, Dt.dm_mk ?ma2 ?mi2 ?ml2 ?mc2 ?mk2 Dt.bnm2, Dt.dm_mk ?ma3 ?mi3 ?ml3 ?mc3 ?mk3 Dt.bnm3, Dt.dm_mk ?ma4 ?mi4 ?ml4 ?mc4 ?mk4 Dt.bnm4, Dt.dm_mk ?ma5 ?mi5 ?ml5 ?mc5 ?mk5 Dt.bnm5, Dt.dm_mk ?ma6 ?mi6 ?ml6 ?mc6 ?mk6 Dt.bnm6⟩ ⟨mg_none_of KX G ?z0, mg_none_of KX G ?z1, mg_none_of KX G ?z2, mg_none_of KX G ?z3, mg_none_of KX G ?z4, mg_none_of KX G ?z5, mg_none_of KX G ?z6, mg_none_of KX G ?z7, mg_none_of KX G ?z8, mg_none_of KX G ?z9, mg_none_of KX G ?z10, mg_none_of KX G ?z11, mg_none_of KX G ?z12, mg_none_of KX G ?z13, mg_none_of KX G ?z14, Dt.gli_mk KX G ?i0, Dt.gli_mk KX G ?i1, Dt.gli_mk KX G ?i2, Dt.gli_mk KX G ?i3, Dt.gli_mk KX G ?i4, ⟨mg_of KX G ?nC2, ?nx, ?nk, ?nb, ?nt⟩, ⟨⟨?tg, ?th, ?to, ?ts⟩, Dt.noa ?tH, Dt.noa ?tS, mg_of KX G ?nA⟩, ⟨Dt.kit_self, Dt.kit_tv ?u1 ?u2 ?u3, Dt.kit_tv ?u1 ?u2 ?u4, ?u5, ?u6, ?u7, ?u8⟩, ⟨mg_none_of KX G ?z8b, mg_none_of KX G ?z0b, mg_none_of KX G ?z9b, Dt.kit_ty (by decide +kernel) ?vk, ⟨?e1, ?e2, ?e3, ?e4, ?e5, ?e6, ?e7, ?e8⟩, false, false, true, false, false, false, false, false, false, false, false, false, Dt.glo_mk KX G ?p0 ?pi0 ?y0 ?s0 ?n0, Dt.glo_mk KX G ?p1 ?pi1 ?y1 ?s1 ?n1, Dt.gls_mk KX G ?p2, Dt.glo_mk KX G ?p3 ?pi3 ?y3 ?s3 ?n3, Dt.glo_mk KX G ?p4 ?pi4 ?y4 ?s4 ?n4, Dt.glo_mk KX G ?p5 ?pi5 ?y5 ?s5 ?n5, Dt.glo_mk KX G ?p6 ?pi6 ?y6 ?s6 ?n6, Dt.glo_mk KX G ?p7 ?pi7 ?y7 ?s7 ?n7, Dt.glo_mk KX G ?p8 ?pi8 ?y8 ?s8 ?n8, Dt.glo_mk KX G ?p9 ?pi9 ?y9 ?s9 ?n9, Dt.glo_mk KX G ?p10 ?pi10 ?y10 ?s10 ?n10, Dt.glo_mk KX G ?p11 ?pi11 ?y11 ?s11 ?n11, by decide +kernel⟩, Dt.tns_mk KX G ?nS2 ?sl ?sr ?ss ?se ?st ?sk ?sn ?si ?sf ?sg ?sc ?sq, ⟨?x1, ?x2, ?x3, ?x4⟩, PySem.W.exm_ref ?xb ?xd ?xy ?xs, Dt.glx_of KX G ?dD ?db ?dd ?dy ?ds, Dt.eq_mk ?qa ?qi ?ql ?qc ?qk, ?qn, ?qo, ?mm, ?mp⟩ (Dt.tabm ?ta ?tl ?tc ?tm ?tv) ?np
    (case nC2 => k_is)
    (case nS2 => k_is)
    (case nA => k_is)
    (case a0 => k_is)
    (case l0 => k_is)
    (case c0 => k_is)
    (case k0 => k_is)
    (case a1 => k_is)
    (case l1 => k_is)
    (case c1 => k_is)
    (case k1 => k_is)
    (case a2 => k_is)
    (case l2 => k_is)
    (case c2 => k_is)
    (case k2 => k_is)
    (case a3 => k_is)
    (case l3 => k_is)
    (case c3 => k_is)
    (case k3 => k_is)
    (case a4 => k_is)
    (case l4 => k_is)
    (case c4 => k_is)
    (case k4 => k_is)
    (case a5 => k_is)
    (case l5 => k_is)
    (case c5 => k_is)
    (case k5 => k_is)
    (case a6 => k_is)
    (case l6 => k_is)
    (case c6 => k_is)
    (case k6 => k_is)
    (case a7 => k_is)
    (case l7 => k_is)
    (case c7 => k_is)
    (case k7 => k_is)
    (case a8 => k_is)
    (case l8 => k_is)
    (case c8 => k_is)
    (case k8 => k_is)
    (case a9 => k_is)
    (case l9 => k_is)
    (case c9 => k_is)
    (case k9 => k_is)
    (case a10 => k_is)
    (case l10 => k_is)
    (case c10 => k_is)
    (case k10 => k_is)
    (case a11 => k_is)
    (case l11 => k_is)
    (case c11 => k_is)
    (case k11 => k_is)
    (case a12 => k_is)
    (case l12 => k_is)
    (case c12 => k_is)
    (case k12 => k_is)
    (case a13 => k_is)
    (case l13 => k_is)
    (case c13 => k_is)
    (case k13 => k_is)
    (case a14 => k_is)
    (case l14 => k_is)
    (case c14 => k_is)
    (case k14 => k_is)
    (case a15 => k_is)
    (case l15 => k_is)
    (case c15 => k_is)
    (case k15 => k_is)
    (case a16 => k_is)
    (case l16 => k_is)
    (case c16 => k_is)
    (case k16 => k_is)
    (case a17 => k_is)
    (case l17 => k_is)
    (case c17 => k_is)
    (case k17 => k_is)
    (case a18 => k_is)
    (case l18 => k_is)
    (case c18 => k_is)
    (case k18 => k_is)
    (case a19 => k_is)
    (case l19 => k_is)
    (case c19 => k_is)
    (case k19 => k_is)
    (case a20 => k_is)
    (case l20 => k_is)
    (case c20 => k_is)
    (case k20 => k_is)
    (case a21 => k_is)
    (case l21 => k_is)
    (case c21 => k_is)
    (case k21 => k_is)
    (case a22 => k_is)
    (case l22 => k_is)
    (case c22 => k_is)
    (case k22 => k_is)
    (case a23 => k_is)
    (case l23 => k_is)
    (case c23 => k_is)
    (case k23 => k_is)
    (case a24 => k_is)
    (case l24 => k_is)
    (case c24 => k_is)
    (case k24 => k_is)
    (case ma0 => k_is)
    (case mi0 => k_is)
    (case ml0 => k_is)
    (case mc0 => k_is)
    (case mk0 => k_is)
    (case ma1 => k_is)
    (case mi1 => k_is)
    (case ml1 => k_is)
    (case mc1 => k_is)
    (case mk1 => k_is)
    (case ma2 => k_is)
    (case mi2 => k_is)
    (case ml2 => k_is)
    (case mc2 => k_is)
    (case mk2 => k_is)
    (case ma3 => k_is)
    (case mi3 => k_is)
    (case ml3 => k_is)
    (case mc3 => k_is)
    (case mk3 => k_is)
    (case ma4 => k_is)
    (case mi4 => k_is)
    (case ml4 => k_is)
    (case mc4 => k_is)
    (case mk4 => k_is)
    (case ma5 => k_is)
    (case mi5 => k_is)
    (case ml5 => k_is)
    (case mc5 => k_is)
    (case mk5 => k_is)
    (case ma6 => k_is)
    (case mi6 => k_is)
    (case ml6 => k_is)
    (case mc6 => k_is)
    (case mk6 => k_is)
    (case z0 => k_is)
    (case z1 => k_is)
    (case z2 => k_is)
    (case z3 => k_is)
    (case z4 => k_is)
    (case z5 => k_is)
    (case z6 => k_is)
    (case z7 => k_is)
    (case z8 => k_is)
    (case z9 => k_is)
    (case z10 => k_is)
    (case z11 => k_is)
    (case z12 => k_is)
    (case z13 => k_is)
    (case z14 => k_is)
    (case i0 => k_is)
    (case i1 => k_is)
    (case i2 => k_is)
    (case i3 => k_is)
    (case i4 => k_is)
    (case nx => first | kernel_rfl | decide +kernel | rfl)
    (case nk => k_is)
    (case nb => k_is)
    (case nt => k_is)
    (case tg => k_is)
    (case th => k_is)
    (case to => k_is)
    (case ts => k_is)
    (case tH => k_is)
    (case tS => k_is)
    (case u1 => k_is)
    (case u2 => k_is)
    (case u3 => k_is)
    (case u4 => k_is)
    (case u5 => k_is)
    (case u6 => first | kernel_rfl | decide +kernel | rfl)
    (case u7 => first | kernel_rfl | decide +kernel | rfl)
    (case u8 => k_is)
    (case z8b => k_is)
    (case z0b => k_is)
    (case z9b => k_is)
    (case vk => k_is)
    (case e1 => k_is)
    (case e2 => k_is)
    (case e3 => k_is)
    (case e4 => k_is)
    (case e5 => k_is)
    (case e6 => k_is)
    (case e7 => k_is)
    (case e8 => k_is)
    (case p0 => k_is)
    (case pi0 => k_is)
    (case y0 => k_is)
    (case s0 => k_is)
    (case n0 => decide)
    (case p1 => k_is)
    (case pi1 => k_is)
    (case y1 => k_is)
    (case s1 => k_is)
    (case n1 => decide)
    (case p2 => k_is)
    (case p3 => k_is)
    (case pi3 => k_is)
    (case y3 => k_is)
    (case s3 => k_is)
    (case n3 => decide)
    (case p4 => k_is)
    (case pi4 => k_is)
    (case y4 => k_is)
    (case s4 => k_is)
    (case n4 => decide)
    (case p5 => k_is)
    (case pi5 => k_is)
    (case y5 => k_is)
    (case s5 => k_is)
    (case n5 => decide)
    (case p6 => k_is)
    (case pi6 => k_is)
    (case y6 => k_is)
    (case s6 => k_is)
    (case n6 => decide)
    (case p7 => k_is)
    (case pi7 => k_is)
    (case y7 => k_is)
    (case s7 => k_is)
    (case n7 => decide)
    (case p8 => k_is)
    (case pi8 => k_is)
    (case y8 => k_is)
    (case s8 => k_is)
    (case n8 => decide)
    (case p9 => k_is)
    (case pi9 => k_is)
    (case y9 => k_is)
    (case s9 => k_is)
    (case n9 => decide)
    (case p10 => k_is)
    (case pi10 => k_is)
    (case y10 => k_is)
    (case s10 => k_is)
    (case n10 => decide)
    (case p11 => k_is)
    (case pi11 => k_is)
    (case y11 => k_is)
    (case s11 => k_is)
    (case n11 => decide)
    (case sl => k_is)
    (case sr => decide +kernel)
    (case ss => k_is)
    (case se => k_is)
    (case st => k_is)
    (case sk => k_is)
    (case sn => k_is)
    (case si => k_is)
    (case sf => k_is)
    (case sg => k_is)
    (case sc => k_is)
    (case sq => k_is)
    (case x1 => k_is)
    (case x2 => k_is)
    (case x3 => k_is)
    (case x4 => k_is)
    (case xb => k_is)
    (case xd => k_is)
    (case xy => k_is)
    (case xs => k_is)
    (case dD => k_is)
    (case db => k_is)
    (case dd => k_is)
    (case dy => k_is)
    (case ds => k_is)
    (case qa => k_is)
    (case qi => k_is)
    (case ql => k_is)
    (case qc => k_is)
    (case qk => k_is)
    (case qn => k_is)
    (case qo => k_is)
    (case mm => k_is)
    (case mp => k_is)
    (case ta => k_is)
    (case tl => k_is)
    (case tc => rfl)
    (case tm => k_is)
    (case tv => rfl)
    (case np => first | kernel_rfl | decide +kernel | rfl)
