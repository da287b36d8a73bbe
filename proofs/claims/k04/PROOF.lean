import PyProof.Rows.All
import Wide.All
import OpenK.AllK
import Wide.FinOn
import HandS.ForMost
import HandS.Wide
import HandS.Codes
import PySem.Challenge.RW_dotread_k04_unlike_and_turned_over
import PyProof.TypeEq
import PyProof.InstEq
import PyProof.StrBlock2
import HandS.TupMul
import HandS.TupAny
import HandS.More
import HandS.ForExc
import HandS.ExcValue
import HandS.ExcIs
import HandS.Lambda
import PyProof.ListStr
import HandS.EndTab
import PyProof.ReprRoads
import HandS.Zip
import KE.GoesMore
import KE.GoesZip
import KE.GoesEnum
import HandS.Deep
import HandS.SetFor
import HandS.TupSets
set_option Elab.async false
set_option linter.all false
set_option maxRecDepth 100000
set_option maxHeartbeats 4000000
namespace Dt
open PySem PySem.Spec PyProof.Rows L2
def topS (i : Nat) : Stmt := PySem.Challenge.pw_dotread_k04_unlike_and_turned_over.main.body.getD i (.Pass ⟨0, 0, 0, 0⟩)
/-! ### the drawing dict -/
def drK (g c : Addr) (r t : Int) : List (Key × V) := [(.inr "great", .ref g), (.inr "rest", .int r), (.inr "cells", .ref c), (.inr "turn", .int t)]
theorem n1 : ¬ (("great" : Str) = "rest") := by decide +kernel
theorem n2 : ¬ (("great" : Str) = "cells") := by decide +kernel
theorem n3 : ¬ (("great" : Str) = "turn") := by decide +kernel
theorem n4 : ¬ (("rest" : Str) = "cells") := by decide +kernel
theorem n5 : ¬ (("rest" : Str) = "turn") := by decide +kernel
theorem n6 : ¬ (("cells" : Str) = "turn") := by decide +kernel
theorem inr_ne {a b : Str} (h : ¬ a = b) : ¬ (Sum.inr a : Key) = Sum.inr b := fun z => h (Sum.inr.inj z)
section
variable (g c : Addr) (r t z : Int)
theorem v_great : valV (drK g c r t) (Sum.inr "great" : Key) = some (.ref g) := valV_pos rfl
theorem v_rest : valV (drK g c r t) (Sum.inr "rest" : Key) = some (.int r) := (valV_neg (inr_ne n1)).trans (valV_pos rfl)
theorem v_cells : valV (drK g c r t) (Sum.inr "cells" : Key) = some (.ref c) := (valV_neg (inr_ne n2)).trans ((valV_neg (inr_ne n4)).trans (valV_pos rfl))
theorem v_turn : valV (drK g c r t) (Sum.inr "turn" : Key) = some (.int t) := (valV_neg (inr_ne n3)).trans ((valV_neg (inr_ne n5)).trans ((valV_neg (inr_ne n6)).trans (valV_pos rfl)))
theorem put_rest : putK (drK g c r t) (Sum.inr "rest" : Key) (.int z) = drK g c z t := by
  unfold putK
  rw [valV_any, v_rest]
  have m4 := fun q : ("cells" : Str) = "rest" => n4 q.symm
  have m5 := fun q : ("turn" : Str) = "rest" => n5 q.symm
  rw [if_pos (show (some (V.int r)).isSome = true from rfl)]
  unfold drK
  simp only [List.map_cons, List.map_nil, inr_ne n1, if_true, if_false, if_neg (inr_ne fun q => m4 q), if_neg (inr_ne fun q => m5 q)]
theorem put_turn : putK (drK g c r t) (Sum.inr "turn" : Key) (.int z) = drK g c r z := by
  unfold putK
  rw [valV_any, v_turn, if_pos (show (some (V.int t)).isSome = true from rfl)]
  unfold drK
  simp only [List.map_cons, List.map_nil, inr_ne n3, inr_ne n5, inr_ne n6, if_true, if_false]
end
structure Dr (H : Hp) (d g c : Addr) : Prop where
  dk : ∃ r t, H d = some (.dK (drK g c r t))
  gl : ∃ gs : List Int, H g = some (.lst (gs.map V.int)) ∧ gs.length ≤ 63
  cl : ∃ cs : List Int, H c = some (.lst (cs.map V.int)) ∧ 0 < cs.length ∧ cs.length ≤ 64
  gc : g ≠ c
/-- all but d and g stays -/
def Dn (d g : Addr) (H H' : Hp) : Prop := ∀ b o, H b = some o → b ≠ d → b ≠ g → H' b = some o
theorem Dn.refl {d g : Addr} {H : Hp} : Dn d g H H := fun _ _ e _ _ => e
theorem Dn.trans {d g : Addr} {H H1 H2 : Hp} (a : Dn d g H H1) (b : Dn d g H1 H2) : Dn d g H H2 := fun x o e h1 h2 => b x o (a x o e h1 h2) h1 h2
theorem Dn.same {d g : Addr} {H H' : Hp} (a : Same H H') : Dn d g H H' := fun b o e _ _ => a b o e
theorem same_upd {H : Hp} {p : Addr} {o : HO} (h : H p = none) : Same H (upd H p o) := fun b x e => by
  rw [upd_ne (ne_of_none e h)]
  exact e
theorem Dr.dg {H : Hp} {d g c : Addr} (D : Dr H d g c) : d ≠ g := by
  obtain ⟨⟨r, t, h1⟩, ⟨gs, h2, _⟩, _, _⟩ := D
  exact ne_of h1 h2 (by intro z; cases z)
theorem Dr.dc {H : Hp} {d g c : Addr} (D : Dr H d g c) : d ≠ c := by
  obtain ⟨⟨r, t, h1⟩, _, ⟨gs, h2, _⟩, _⟩ := D
  exact ne_of h1 h2 (by intro z; cases z)
theorem Dr.same {H H' : Hp} {d g c : Addr} (D : Dr H d g c) (s : Same H H') : Dr H' d g c := by
  obtain ⟨⟨r, t, h1⟩, ⟨gs, h2, h3⟩, ⟨cs, h4, h5⟩, h6⟩ := D
  exact ⟨⟨r, t, s _ _ h1⟩, ⟨gs, s _ _ h2, h3⟩, ⟨cs, s _ _ h4, h5⟩, h6⟩
theorem Dn.nn {d g c p : Addr} {H H' : Hp} (a : Dn d g H H') (D : Dr H' d g c) (h : H' p = none) : H p = none := by
  cases e : H p with
  | none => rfl
  | some o =>
    have h1 : p ≠ d := by
      rintro rfl
      obtain ⟨⟨r, t, q⟩, _⟩ := D
      rw [q] at h
      cases h
    have h2 : p ≠ g := by
      rintro rfl
      obtain ⟨_, ⟨gs, q, _⟩, _⟩ := D
      rw [q] at h
      cases h
    rw [a _ _ e h1 h2] at h
    cases h
section
variable {H : Hp} {d g c : Addr} {r t : Int} (h : H d = some (.dK (drK g c r t)))
include h
theorem get_great : DGet H d (.str "great") (some (.ref g)) := by
  have z := DGet.k (k := (Sum.inr "great" : Key)) h
  rw [v_great] at z
  exact z
theorem get_rest : DGet H d (.str "rest") (some (.int r)) := by
  have z := DGet.k (k := (Sum.inr "rest" : Key)) h
  rw [v_rest] at z
  exact z
theorem get_cells : DGet H d (.str "cells") (some (.ref c)) := by
  have z := DGet.k (k := (Sum.inr "cells" : Key)) h
  rw [v_cells] at z
  exact z
theorem get_turn : DGet H d (.str "turn") (some (.int t)) := by
  have z := DGet.k (k := (Sum.inr "turn" : Key)) h
  rw [v_turn] at z
  exact z
theorem dput_rest {z : Int} : DPut H d (.str "rest") (.int z) (upd H d (.dK (drK g c z t))) := by
  have q := DPut.k (k := (Sum.inr "rest" : Key)) (v := .int z) h (by show 4 < sizeLine; decide)
  rw [put_rest] at q
  exact q
theorem dput_turn {z : Int} : DPut H d (.str "turn") (.int z) (upd H d (.dK (drK g c r z))) := by
  have q := DPut.k (k := (Sum.inr "turn" : Key)) (v := .int z) h (by show 4 < sizeLine; decide)
  rw [put_turn] at q
  exact q
end
theorem dpInts {K : PySem.W.Frag} {H : Hp} : ∀ ns : List Int, DpAll K H (ns.map V.int) (ns.map PyData.int)
  | [] => .nil
  | n :: r => .cons (.int n) (dpInts r)
/-! ### _law_next -/
abbrev sNext : Stmt := topS 35
theorem scNext : FnScope ["draw", "below", "number", "turn", "stock", "made", "prime"] ["draw", "below"] (defScope sNext) := ⟨rfl, rfl, rfl, by decide +kernel, rfl, by decide +kernel, by decide +kernel⟩
def spNext : Sp := fun vs H Q _ => ∃ (d g c : Addr) (b : Int), vs = [.ref d, .int b] ∧ Dr H d g c ∧ 0 < b ∧ b < 1073741824 ∧ ∀ (n : Int) (H' : Hp), 0 ≤ n → n < b → Dr H' d g c → Dn d g H H' → Q (.int n) H'
section
variable {P : Program} {w : World} {K : PySem.W.Frag} {mg : Str → Option Value} {base : Heap}
theorem ok_next {f : Addr} {fd : FuncData} {k : Nat} (F : Fun K "_law_next" "_law_next" sNext f fd) (ml : mg "len" = none) : FnOk P w K mg base CX0 (k + 1) f fd ["draw", "below"] spNext := by
  refine F.ok scNext (fun vs H Q E h => ?_) (fun cdv A outer s H vs Q E hr h => ?_)
  · obtain ⟨d, g, c, b, rfl, _⟩ := h
    rfl
  · obtain ⟨d, g, c, b, rfl, D, hb0, hb1, q⟩ := h
    have hu := hu_of hr
    have nd := scNext.nd
    refine ⟨_, C8.pss_cut (ps_if (PW.pt (pw_and (pt_cmpR op_lt (pe_dget hu (pv 0) pe_str (fun _ _ => rfl)) pe_int (nomark _)) (pw_and1 (pt_cmpR (op_neD hr.units) (pe_dget hu (pv 0) pe_str (fun _ _ => rfl)) (pe_lst pa_nil) (nomark _)))))
        (pss_one (ps_dput hu (pv 0) pe_str (pe_bm PySem.F.plainAttrs_list PySem.F.slot_list_pop PySem.F.type_list_pop mt_popAt (pe_dget hu (pv 0) pe_str (fun _ _ => rfl)) (pa_cons pe_int pa_nil)) rfl)) pss_nil)
      (pss_cons (ps_if (pt_cmpR op_gt (pe_dget hu (pv 0) pe_str (fun _ _ => rfl)) pe_int (nomark _))
        (pss_cons (ps_set (i := 2) nd rfl (.inl rfl) (pe_op op_mod (pe_dget hu (pv 0) pe_str (fun _ _ => rfl)) (pv 1)))
        (pss_cons (ps_dput hu (pv 0) pe_str (pe_op op_fdiv (pe_dget hu (pv 0) pe_str (fun _ _ => rfl)) (pv 1)) rfl)
        (pss_one (ps_ret (pv 2))))) pss_nil)
      (pss_cons (ps_par (i := 3) (j := 4) (by rfl) nd rfl rfl (by decide) rfl rfl (pa_cons (pe_dget hu (pv 0) pe_str (fun _ _ => rfl)) (pa_cons (pe_dget hu (pv 0) pe_str (fun _ _ => rfl)) pa_nil)) (by rfl))
      (pss_cons (ps_dput hu (pv 0) pe_str (pe_op op_add (pv 3) pe_int) rfl)
      (pss_cons (ps_set (i := 5) nd rfl (.inl rfl) (pe_op op_mod (pe_op op_mul (pe_op op_add (pe_op op_add (pe_ix ix_list (pv 4) (pe_op op_mod (pv 3) (pe_callB call_len_seq (by rfl) ml PySem.boot_len (pa_cons (pv 4) pa_nil))) (fun _ _ => rfl)) (pe_op op_mul pe_int (pv 3))) pe_int) pe_int) pe_int))
      (pss_cons (ps_set (i := 6) nd rfl (.inl rfl) (pe_ix ix_list (pe_lst (pa_cons pe_int (pa_cons pe_int (pa_cons pe_int (pa_cons pe_int (pa_cons pe_int pa_nil)))))) (pe_op op_mod (pv 3) pe_int) (fun _ _ => rfl)))
      (pss_one (ps_ret (pe_op op_mod (pe_op op_fdiv (pe_op op_mod (pe_op op_mul (pv 5) (pe_op op_add (pe_op op_add (pv 5) (pe_op op_mul pe_int (pv 3))) pe_int)) (pv 6)) pe_int) (pv 1))))))))), ?_⟩
    obtain ⟨⟨r, t, hd⟩, ⟨gs, hg, lg⟩, ⟨cs, hc, lc0, lc⟩, gc⟩ := id D
    refine ⟨fun σ' H' => σ' = [some (.ref d), some (.int b), none, none, none, none, none] ∧ Dr H' d g c ∧ Dn d g H H', ?_, ?_⟩
    · refine ⟨.ref d, rfl, d, .int r, rfl, get_rest hd, r, 2, rfl, rfl, _, rfl, ite2 (fun e => ?_) (fun e => iteF ⟨rfl, D, Dn.refl⟩)⟩
      refine ⟨.ref d, rfl, d, .ref g, rfl, get_great hd, ?_⟩
      refine ⟨by show 0 ≤ sizeLine; decide, fun p hp => ?_⟩
      refine ⟨.list (gs.map PyData.int), .list [], .lst (SqL.of ((same_upd hp) _ _ hg)) (dpInts gs), .lst (SqL.of upd_same) .nil, PySem.W.ke_shaped_ints gs, by decide +kernel, _, rfl, ?_⟩
      have D1 := D.same (same_upd (o := .lst []) hp)
      cases gs with
      | nil => exact iteF ⟨rfl, D1, Dn.same (same_upd hp)⟩
      | cons z zs =>
        refine iteT ?_
        have hg1 := (same_upd (o := .lst []) hp) _ _ hg
        have hd1 := (same_upd (o := .lst []) hp) _ _ hd
        have hc1 := (same_upd (o := .lst []) hp) _ _ hc
        have hd2 : (upd (upd H p (.lst [])) g (.lst (((z :: zs).map V.int).eraseIdx 0))) d = some (.dK (drK g c r t)) := by
          rw [upd_ne D.dg]
          exact hd1
        have sq0 : seqIndex? 0 ((z :: zs).map V.int).length = some 0 := by simp [seqIndex?]
        refine ⟨.ref d, rfl, d, .ref g, rfl, get_great hd1, .inl ⟨rfl, _, SqL.of hg1⟩, g, _, 0, 0, .int z, rfl, rfl, hg1, by decide, by decide, sq0, rfl, .ref d, rfl, d, _, rfl, dput_rest hd2, rfl, ⟨⟨z, t, upd_same⟩, ⟨zs, ?_, ?_⟩, ⟨cs, ?_, lc0, lc⟩, gc⟩, ?_⟩
        · rw [upd_ne D.dg.symm, upd_same]
          rfl
        · simp only [List.length_cons] at lg
          omega
        · rw [upd_ne D.dc.symm, upd_ne gc.symm]
          exact hc1
        · intro b' o e' h1 h2
          rw [upd_ne h1, upd_ne h2]
          exact (same_upd hp) _ _ e'
    · rintro σ' H1 ⟨rfl, D1, dn⟩
      obtain ⟨⟨r1, t1, hd1⟩, ⟨gs1, hg1, lg1⟩, ⟨cs1, hc1, lc01, lc1⟩, gc1⟩ := id D1
      refine ⟨.ref d, rfl, d, .int r1, rfl, get_rest hd1, r1, 1, rfl, rfl, _, rfl, ite2 (fun e => ?_) (fun e => ?_)⟩
      · refine ⟨.ref d, rfl, d, .int r1, rfl, get_rest hd1, .int b, rfl, r1, b, rfl, rfl, hb0, ?_⟩
        refine ⟨.ref d, rfl, d, .int r1, rfl, get_rest hd1, .int b, rfl, r1, b, rfl, rfl, ⟨hb0, hb1⟩, .ref d, rfl, d, _, rfl, dput_rest hd1, .int (r1 % b), rfl, q _ _ (Int.emod_nonneg _ (by omega)) (Int.emod_lt_of_pos _ hb0) ⟨⟨_, t1, upd_same⟩, ⟨gs1, ?_, lg1⟩, ⟨cs1, ?_, lc01, lc1⟩, gc1⟩ ?_⟩
        · rw [upd_ne D1.dg.symm]
          exact hg1
        · rw [upd_ne D1.dc.symm]
          exact hc1
        · intro b' o e' h1 h2
          rw [upd_ne h1]
          exact dn _ _ e' h1 h2
      · refine ⟨.ref d, rfl, d, .int t1, rfl, get_turn hd1, .ref d, rfl, d, .ref c, rfl, get_cells hd1, .int t1, .ref c, rfl, ?_⟩
        refine ⟨.int t1, rfl, t1, 1, rfl, rfl, .ref d, rfl, d, _, rfl, dput_turn hd1, ?_⟩
        have hc2 : (upd H1 d (.dK (drK g c r1 (t1 + 1)))) c = some (.lst (cs1.map V.int)) := by
          rw [upd_ne D1.dc.symm]
          exact hc1
        have hlen : ((cs1.map V.int).length : Int) = (cs1.length : Int) := by rw [List.length_map]
        have hpos : (0 : Int) < ((cs1.map V.int).length : Int) := by omega
        have m0 : 0 ≤ t1 % ((cs1.map V.int).length : Int) := Int.emod_nonneg _ (by omega)
        have m1 := Int.emod_lt_of_pos t1 hpos
        obtain ⟨j, hj⟩ := Int.eq_ofNat_of_zero_le m0
        have hj2 : j < cs1.length := by omega
        have hat : atI (cs1.map V.int) (t1 % ((cs1.map V.int).length : Int)) = some (.int cs1[j]) := by
          rw [hj]
          refine atI_nat ?_
          rw [List.getElem?_map, List.getElem?_eq_getElem hj2]
          rfl
        refine ⟨.ref c, rfl, .int t1, rfl, .ref c, rfl, c, _, rfl, .inl (SqL.of hc2), t1, _, rfl, rfl, hpos, c, _, _, .int cs1[j], rfl, rfl, SqL.of hc2, hat, .int t1, rfl, 1299721, t1, rfl, rfl, .inl ⟨by decide, by decide⟩, _, _, rfl, rfl, _, _, rfl, rfl, _, _, rfl, rfl, .inr ⟨by decide, by decide⟩, _, _, rfl, rfl, (by show (0 : Int) < 2147483647; decide), ?_⟩
        have hpr : ∃ z : Int, 0 < z ∧ atI [V.int 2147483629, V.int 2147483587, V.int 2147483579, V.int 2147483563, V.int 2147483549] (t1 % 5) = some (.int z) := by
          have a0 := Int.emod_nonneg t1 (show (5 : Int) ≠ 0 by decide)
          have a1 := Int.emod_lt_of_pos t1 (show (0 : Int) < 5 by decide)
          rcases (show t1 % 5 = 0 ∨ t1 % 5 = 1 ∨ t1 % 5 = 2 ∨ t1 % 5 = 3 ∨ t1 % 5 = 4 by omega) with x | x | x | x | x <;> rw [x]
          · exact ⟨2147483629, by decide, rfl⟩
          · exact ⟨2147483587, by decide, rfl⟩
          · exact ⟨2147483579, by decide, rfl⟩
          · exact ⟨2147483563, by decide, rfl⟩
          · exact ⟨2147483549, by decide, rfl⟩
        obtain ⟨z, hz, hat2⟩ := hpr
        refine ⟨by show 5 ≤ sizeLine; decide, fun l hl => ⟨.int t1, rfl, t1, 5, rfl, rfl, (by show (0 : Int) < 5; decide), l, _, _, .int z, rfl, rfl, SqL.of upd_same, hat2, ?_⟩⟩
        have mm0 := Int.emod_nonneg ((cs1[j] + 1299721 * t1 + 7919) * 48271) (show (2147483647 : Int) ≠ 0 by decide)
        have mm1 := Int.emod_lt_of_pos ((cs1[j] + 1299721 * t1 + 7919) * 48271) (show (0 : Int) < 2147483647 by decide)
        have dl := same_upd (o := .lst [V.int 2147483629, V.int 2147483587, V.int 2147483579, V.int 2147483563, V.int 2147483549]) hl
        refine ⟨_, rfl, _, rfl, .int t1, rfl, 2, t1, rfl, rfl, .inl ⟨by decide, by decide⟩, _, _, rfl, rfl, _, _, rfl, rfl, _, _, rfl, rfl, .inl ⟨by omega, by omega⟩, .int z, rfl, _, _, rfl, rfl, hz, _, _, rfl, rfl, ⟨by decide, by decide⟩, .int b, rfl, _, _, rfl, rfl, hb0, q _ _ (Int.emod_nonneg _ (by omega)) (Int.emod_lt_of_pos _ hb0) ?_ ?_⟩
        · refine Dr.same ⟨⟨_, _, upd_same⟩, ⟨gs1, ?_, lg1⟩, ⟨cs1, hc2, lc01, lc1⟩, gc1⟩ dl
          rw [upd_ne D1.dg.symm]
          exact hg1
        · intro b' o e' h1 h2
          refine dl _ _ ?_
          rw [upd_ne h1]
          exact dn _ _ e' h1 h2
end
end Dt
/-! rules of our own: types compared, a text times a number -/
namespace TyNe
open PySem PySem.TypeEq
open Sem (wp)
open Builtin
theorem slot_type_ne : Slot "type" (cmpInfo .NotEq).2.1 "object.__ne__" :=
  .of (owner := "object") (n := "__ne__") (by rw [typeLookup_type, builtinLookup_eq_fast]; kernel_rfl) (by decide +kernel) (by decide +kernel) (by decide +kernel)
    (by first | exact .inl (by decide +kernel) | exact .inr (by decide +kernel)) (by rw [isSubtype_type]; kernel_rfl)
theorem slot_type_ne2 : Slot "type" (cmpInfo .NotEq).2.2 "object.__ne__" :=
  .of (owner := "object") (n := "__ne__") (by rw [typeLookup_type, builtinLookup_eq_fast]; kernel_rfl) (by decide +kernel) (by decide +kernel) (by decide +kernel)
    (by first | exact .inl (by decide +kernel) | exact .inr (by decide +kernel)) (by rw [isSubtype_type]; kernel_rfl)
section
variable {prog : Program} {w : World} {A : Around} {E : Value → Shared → Prop} {s : Shared}
theorem call_ne_same {X : String} {Q : Value → Shared → Prop} (hX : ∀ s' : Shared, s'.TypeIs (.type X) "type") (h : Q (.bool false) s) : wpAny (model prog w) A (call (.builtin "object.__ne__") [.type X, .type X]) Q E s := by
  refine wpAny_call (codeAny_call_builtin slot_type_ne.plain F.cmpEntry_ne (slot_type_ne.check _ _ _ _ _ _ _ _ (hX s) (F.cmpArgs_ne _ _) ?_))
  unfold Builtin.«object.__ne__»
  repeat (first
    | with_reducible refine wpAny_cRoomFor_or (.inl rfl) ?_
    | (refine wpAny_bind (m := callSpecialIfBound? (.type X) (Str.ofString "__eq__") [.type X])
        (wpAny_callSpecialIfBound?_slot (hX _) slot_type_eq (call_gives slot_type_eq (hX _) F.entry_object_eq (F.args_object_eq_2 _ _) (object_eq_same rfl (by simp)) ?_)))
    | wp_step)
  show wpAny (model prog w) A.in1 (truthy (.bool true) >>= fun b => ret (.bool !b)) _ _ _
  exact wpAny_bind (wpAny_truthy_bool (wpAny_pure h))
theorem call_ne_other {X Y : String} {Q : Value → Shared → Prop} (hX : ∀ s' : Shared, s'.TypeIs (.type X) "type") (hne : (Value.type X == Value.type Y) = false) (h : Q .notImplemented s) : wpAny (model prog w) A (call (.builtin "object.__ne__") [.type X, .type Y]) Q E s := by
  refine wpAny_call (codeAny_call_builtin slot_type_ne.plain F.cmpEntry_ne (slot_type_ne.check _ _ _ _ _ _ _ _ (hX s) (F.cmpArgs_ne _ _) ?_))
  unfold Builtin.«object.__ne__»
  repeat (first
    | with_reducible refine wpAny_cRoomFor_or (.inl rfl) ?_
    | (refine wpAny_bind (m := callSpecialIfBound? (.type X) (Str.ofString "__eq__") [.type Y])
        (wpAny_callSpecialIfBound?_slot (hX _) slot_type_eq (call_gives slot_type_eq (hX _) F.entry_object_eq (F.args_object_eq_2 _ _) (object_eq_other rfl hne) ?_)))
    | wp_step)
  show wpAny (model prog w) A.in1 (ret .notImplemented) _ _ _
  exact wpAny_pure h
theorem ne_type_same {X : String} {Q : Value → Shared → Prop} (hX : ∀ s' : Shared, s'.TypeIs (.type X) "type") (h : Q (.bool false) s) : wpAny (model prog w) A (compareOp .NotEq (.type X) (.type X)) Q E s := by
  show wpAny _ A (richCompare .NotEq _ _) Q E s
  exact wpAny_richCompare_same (T := "type") (hX s) (hX s) slot_type_ne (call_ne_same hX ⟨(by intro e; cases e), h⟩)
theorem ne_type_other {X Y : String} {Q : Value → Shared → Prop} (hX : ∀ s' : Shared, s'.TypeIs (.type X) "type") (hY : ∀ s' : Shared, s'.TypeIs (.type Y) "type") (hne : (Value.type X == Value.type Y) = false) (h : Q (.bool true) s) :
    wpAny (model prog w) A (compareOp .NotEq (.type X) (.type Y)) Q E s := by
  have hne' : (Value.type Y == Value.type X) = false := by
    rw [Bool.eq_false_iff] at hne ⊢
    intro e
    exact hne (by rw [beq_iff_eq] at e ⊢; exact e.symm)
  show wpAny _ A (richCompare .NotEq _ _) Q E s
  have h1 := slot_type_ne
  have h2 := slot_type_ne2
  rcases hi : cmpInfo CmpOp.NotEq with ⟨sym, f, r⟩
  rw [hi] at h1 h2
  simp only [richCompare, hi, (hX s).oneThing_none]
  try with_reducible refine wpAny_holding ?_
  refine wpAny_bind (wpAny_cRoomFor_or (.inl rfl) ?_)
  refine wpAny_bind (wpAny_typeOf (hX s) (wpAny_bind (wpAny_typeOf (hY s) ?_)))
  simp only [bne_self_eq_false, Bool.false_eq_true, if_false, pure_bind, Bool.not_false, if_true]
  refine wpAny_bind (m := tryCompare _ _ _) (wpAny_tryCompare_declines (hX s) h1 (call_ne_other hX hne ⟨rfl, ?_⟩))
  refine wpAny_bind (m := tryCompare _ _ _) (wpAny_tryCompare_declines (hY _) h2 (call_ne_other hY hne' ⟨rfl, ?_⟩))
  refine wpAny_bind (wpAny_rule (wpAny_bind (wpAny_of_eq (a := false) (by rw [isSame_plain rfl, hne]) (wpAny_pure h))))
end
end TyNe
namespace L2X
open PySem PySem.Spec PyProof.Rows L2
/-- the built-in classes that are compared here -/
def tyOk (a : String) : Bool := a = "int" ∨ a = "str" ∨ a = "bool" ∨ a = "NoneType" ∨ a = "list" ∨ a = "tuple" ∨ a = "dict"
theorem tyOk_is {a : String} (h : tyOk a = true) : ∀ s' : Shared, s'.TypeIs (.type a) "type" := by
  unfold tyOk at h
  rcases of_decide_eq_true h with rfl | rfl | rfl | rfl | rfl | rfl | rfl
  · exact TypeEq.meta_int
  · exact TypeEq.meta_str
  · exact TypeEq.meta_bool
  · exact TypeEq.meta_NoneType
  · exact TypeEq.meta_list
  · exact TypeEq.meta_tuple
  · exact TypeEq.meta_dict
theorem ty_ne {a b : String} (h : a ≠ b) : (Value.type a == Value.type b) = false := beq_eq_false_iff_ne.mpr fun z => h (Value.type.inj z)
def rTyC (g : Bool → Bool) : R2 := fun x y H Q => ∃ a b, x = .ty a ∧ y = .ty b ∧ tyOk a = true ∧ tyOk b = true ∧ Q (.bl (g (decide (a = b)))) H
section
variable {X : Cx}
theorem op_eq_ty : OpR X (compareOp .Eq) (rTyC id) := by
  intro pins s σ H x y v u Q I rx ry h
  obtain ⟨a, b, rfl, rfl, ha, hb, q⟩ := h
  cases (show v = Value.type a from rx)
  cases (show u = Value.type b from ry)
  by_cases e : a = b
  · subst e
    refine TypeEq.eq_type_same (tyOk_is ha) ⟨.bl true, H, I, rfl, ?_⟩
    rw [decide_eq_true rfl] at q
    exact q
  · refine TypeEq.eq_type_other (tyOk_is ha) (tyOk_is hb) (ty_ne e) ⟨.bl false, H, I, rfl, ?_⟩
    rw [decide_eq_false e] at q
    exact q
theorem op_ne_ty : OpR X (compareOp .NotEq) (rTyC not) := by
  intro pins s σ H x y v u Q I rx ry h
  obtain ⟨a, b, rfl, rfl, ha, hb, q⟩ := h
  cases (show v = Value.type a from rx)
  cases (show u = Value.type b from ry)
  by_cases e : a = b
  · subst e
    refine TyNe.ne_type_same (tyOk_is ha) ⟨.bl false, H, I, rfl, ?_⟩
    rw [decide_eq_true rfl] at q
    exact q
  · refine TyNe.ne_type_other (tyOk_is ha) (tyOk_is hb) (ty_ne e) ⟨.bl true, H, I, rfl, ?_⟩
    rw [decide_eq_false e] at q
    exact q
/-- text * n -/
theorem op_mul_str : OpR X (binaryOp .Mult) (fun x y H Q => ∃ z n, x = .str z ∧ y = .int n ∧ MulOk z n ∧ Q (.str (Txt.mul z n)) H) := by
  intro pins s σ H x y v u Q I rx ry h
  obtain ⟨z, n, rfl, rfl, hk, q⟩ := h
  obtain ⟨t, rfl⟩ := rx
  obtain ⟨t', rfl⟩ := ry
  exact SB.mul hk fun t' k => ⟨.str _, H, I.tok _, ⟨_, rfl⟩, q⟩
end
end L2X
namespace Dt
open PySem PySem.Spec PyProof.Rows L2 L2X
open SX (S)
/-- the built-ins that are named in the text -/
structure Tx (mg : Str → Option Value) : Prop where
  len : mg "len" = none
  range : mg "range" = none
  tuple : mg "tuple" = none
  list : mg "list" = none
  int : mg "int" = none
/-! ### _law_begun -/
abbrev sBegun : Stmt := topS 34
theorem scBegun : FnScope ["script", "great", "cell"] ["script"] (defScope sBegun) := ⟨rfl, rfl, rfl, by decide +kernel, rfl, by decide +kernel, by decide +kernel⟩
def spBegun (K : PySem.W.Frag) : Sp := fun vs H Q _ => ∃ (a : Addr) (ns : List Int), vs = [.ref a] ∧ SqL K H a (ns.map V.int) ∧ ns.length ≤ 63 ∧ ∀ (d g c : Addr) (H' : Hp), Same H H' → H d = none → H g = none → Dr H' d g c → Q (.ref d) H'
section
variable {P : Program} {w : World} {K : PySem.W.Frag} {mg : Str → Option Value} {base : Heap}
theorem merge_dr (g c : Addr) (r t : Int) : mergeK [] (drK g c r t) = drK g c r t := by
  have a1 : putK ([] : List (Key × V)) (.inr "great") (.ref g) = [(.inr "great", .ref g)] := putK_new _ rfl
  have a2 : putK [((.inr "great" : Key), V.ref g)] (.inr "rest") (.int r) = [(.inr "great", .ref g), (.inr "rest", .int r)] := putK_new _ ((valV_neg (inr_ne n1)).trans rfl)
  have a3 : putK [((.inr "great" : Key), V.ref g), (.inr "rest", .int r)] (.inr "cells") (.ref c) = [(.inr "great", .ref g), (.inr "rest", .int r), (.inr "cells", .ref c)] := putK_new _ ((valV_neg (inr_ne n2)).trans ((valV_neg (inr_ne n4)).trans rfl))
  have a4 : putK [((.inr "great" : Key), V.ref g), (.inr "rest", .int r), (.inr "cells", .ref c)] (.inr "turn") (.int t) = [(.inr "great", .ref g), (.inr "rest", .int r), (.inr "cells", .ref c), (.inr "turn", .int t)] :=
    putK_new _ ((valV_neg (inr_ne n3)).trans ((valV_neg (inr_ne n5)).trans ((valV_neg (inr_ne n6)).trans rfl)))
  show putK (putK (putK (putK ([] : List (Key × V)) (.inr "great") (.ref g)) (.inr "rest") (.int r)) (.inr "cells") (.ref c)) (.inr "turn") (.int t) = _
  rw [a1, a2, a3, a4]
  rfl
theorem ok_begun {f : Addr} {fd : FuncData} {k : Nat} (F : Fun K "_law_begun" "_law_begun" sBegun f fd) (T : Tx mg) : FnOk P w K mg base CX0 (k + 1) f fd ["script"] (spBegun K) := by
  refine F.ok scBegun (fun vs H Q E h => ?_) (fun cdv A outer s H vs Q E hr h => ?_)
  · obtain ⟨a, ns, rfl, _⟩ := h
    rfl
  · obtain ⟨a, ns, rfl, hS, hl, q⟩ := h
    have hu := hu_of hr
    have nd := scBegun.nd
    refine ⟨_, pss_cons (ps_setLc (i := 1) (own := [("cell", 2)]) (g := gName 2) (by rfl) nd rfl rfl (sw_true rfl rfl rfl (by decide +kernel)) (pi_list (pv 0)) (blkOk_by (N := ["script", "great", "cell"]) (sc := defScope sBegun) (by decide +kernel)) (fun _ _ _ _ _ => pg_name (i := 2) nd rfl (Or.inl rfl)) (fun _ _ _ _ _ => pts_one (pt_cmpR op_ge (pv 2) (pe_op op_pow pe_int pe_int) (nomark _))) (fun _ _ _ _ _ => pv 2))
      (pss_one (ps_ret (pe_disp (pps_cons pe_str (pv 1) (pps_cons pe_str pe_int (pps_cons pe_str (pe_op op_cat (pe_callTy call_list_of (by rfl) T.list (by decide +kernel) (pa_cons (pv 0) pa_nil)) (pe_lst (pa_cons (pe_op op_add (pe_callB call_len_seq (by rfl) T.len PySem.boot_len (pa_cons (pv 0) pa_nil)) pe_int) pa_nil))) (pps_cons pe_str pe_int pps_nil)))) (by rfl) (by rfl) (fun z => by cases z) (by decide)))), ?_⟩
    refine ⟨.ref a, rfl, a, rfl, ⟨_, hS⟩, fun D hD => lc_list (K := K) (a := a) (xs := ns.map V.int) (fun i H2 => Same H H2 ∧ ∃ gs : List Int, H2 D = some (.lst (gs.map V.int)) ∧ gs.length ≤ i) ⟨same_upd hD, [], upd_same, Nat.le_refl _⟩ (fun i H2 _ ⟨sm, _⟩ => sm.seq hS) ?_ ?_⟩
    · rintro i x H2 hi ⟨sm, gs, hg, hlg⟩
      obtain ⟨z, hz, rfl⟩ : ∃ z, ns[i]? = some z ∧ x = V.int z := by
        rw [List.getElem?_map] at hi
        cases e : ns[i]? with
        | none =>
          rw [e] at hi
          cases hi
        | some z =>
          rw [e] at hi
          exact ⟨z, rfl, (Option.some.inj hi).symm⟩
      have hin : i < ns.length := by
        rcases Nat.lt_or_ge i ns.length with h | h
        · exact h
        · rw [List.getElem?_eq_none h] at hz
          cases hz
      refine ⟨rfl, .int z, rfl, 10, 18, rfl, rfl, ⟨by decide, by decide, by decide⟩, z, _, rfl, rfl, _, rfl, ?_⟩
      cases decide ((10 : Int) ^ Int.toNat 18 ≤ z) with
      | false => exact iteF ⟨sm, gs, hg, by omega⟩
      | true =>
        refine iteT ⟨.int z, rfl, gs.map V.int, hg, ?_, ?_, gs ++ [z], ?_, ?_⟩
        · rw [List.length_map]
          exact small1000 (by omega)
        · exact fun b o e => by
            rw [upd_ne (ne_of_none e hD)]
            exact sm _ _ e
        · rw [upd_same, List.map_append]
          rfl
        · rw [List.length_append]
          show gs.length + 1 ≤ i + 1
          omega
    · rintro H2 ⟨sm, gs, hg, hlg⟩
      rw [List.length_map] at hlg
      refine fun p hp => ?_
      have s1 : Same H2 (upd H2 p (.dK [])) := same_upd hp
      have h1 : SqL K (upd H2 p (.dK [])) a (ns.map V.int) := s1.seq (sm.seq hS)
      refine ⟨.ref D, rfl, .ref a, rfl, a, _, rfl, .inl h1, fun l hl2 => ?_⟩
      have s2 := same_upd (o := .lst (ns.map V.int)) hl2
      refine ⟨.ref a, rfl, a, _, rfl, .inl (s2.seq h1), _, 5, rfl, rfl, (by show 1 ≤ sizeLine; decide), fun l2 hl3 => ?_⟩
      have s3 := same_upd (o := .lst [V.int (((ns.map V.int).length : Int) + 5)]) hl3
      refine ⟨l, l2, ns.map V.int, _, rfl, rfl, s3 _ _ upd_same, upd_same, ?_, fun c hc => ?_⟩
      · rw [List.length_map]
        show ns.length + 1 ≤ sizeLine
        exact Nat.le_of_lt (small1000 (by omega))
      · have s4 := same_upd (o := .lst (ns.map V.int ++ [V.int (((ns.map V.int).length : Int) + 5)])) hc
        have hp4 := s4 _ _ (s3 _ _ (s2 _ _ (upd_same (H := H2) (a := p) (o := .dK []))))
        have hD4 := s4 _ _ (s3 _ _ (s2 _ _ (s1 _ _ hg)))
        have nDp : D ≠ p := ne_of_none hg hp
        have npc : p ≠ c := ne_of_none (s3 _ _ (s2 _ _ (upd_same (H := H2) (a := p) (o := .dK [])))) hc
        have nDc : D ≠ c := ne_of_none (s3 _ _ (s2 _ _ (s1 _ _ hg))) hc
        have sA : Same H (upd (upd (upd (upd H2 p (.dK [])) l (.lst (ns.map V.int))) l2 (.lst [V.int (((ns.map V.int).length : Int) + 5)])) c (.lst (ns.map V.int ++ [V.int (((ns.map V.int).length : Int) + 5)]))) := fun b o e => s4 _ _ (s3 _ _ (s2 _ _ (s1 _ _ (sm _ _ e))))
        have hp0 : H p = none := by
          cases e : H p with
          | none => rfl
          | some o =>
            rw [sm _ _ e] at hp
            cases hp
        refine ⟨hp4, drK D c 0 0, rfl, (by show 4 ≤ 15; decide), q p D c _ (fun b o e => ?_) hp0 hD ⟨⟨0, 0, ?_⟩, ⟨gs, ?_, by omega⟩, ⟨ns ++ [(((ns.map V.int).length : Int) + 5)], ?_, ?_, ?_⟩, nDc⟩⟩
        · rw [upd_ne (ne_of_none e hp0)]
          exact sA _ _ e
        · rw [merge_dr]
          exact upd_same
        · rw [upd_ne nDp]
          exact hD4
        · rw [upd_ne npc.symm, upd_same, List.map_append]
          rfl
        · rw [List.length_append]
          show 0 < ns.length + 1
          omega
        · rw [List.length_append]
          show ns.length + 1 ≤ 64
          omega
/-! ### rows and pictures -/
def rv (l : List Nat) : V := .str (S l)
structure RowR (wide : Nat) (l : List Nat) : Prop where
  len : l.length = wide
  sg : ∀ c ∈ l, c = 35 ∨ c = 46
structure PicR (high wide : Nat) (rs : List (List Nat)) : Prop where
  len : rs.length = high
  row : ∀ l ∈ rs, RowR wide l
  h0 : 1 ≤ high
  h1 : high ≤ 60
  w0 : 1 ≤ wide
  w1 : wide ≤ 120
theorem s_dot : ("." : Str) = S [46] := by decide +kernel
theorem s_hash : ("#" : Str) = S [35] := by decide +kernel
theorem s_empty : ("" : Str) = S [] := by decide +kernel
/-! ### a sign many times; signs joined -/
theorem fold_rep (c : Nat) : ∀ (n : Nat) (acc : Array Nat), (List.replicate n #[c]).foldl (· ++ ·) acc = acc ++ (List.replicate n c).toArray
  | 0, acc => by simp
  | n + 1, acc => by
    rw [List.replicate_succ, List.foldl_cons, fold_rep c n (acc ++ #[c]), List.replicate_succ]
    apply Array.ext'
    simp
theorem mul_sign (c n : Nat) (h : 1 ≤ n) : Txt.mul (S [c]) (n : Int) = S (List.replicate n c) := by
  unfold Txt.mul
  rw [if_neg (by omega)]
  by_cases e : n = 1
  · subst e
    rfl
  · have e1 : (((n : Int) == 1) || (S [c]).length == 0) = false := by
      have a1 : ((n : Int) == 1) = false := by
        rw [beq_eq_false_iff_ne]
        omega
      rw [a1]
      rfl
    rw [e1, if_neg Bool.false_ne_true]
    have q := fold_rep c n #[]
    show (⟨(List.replicate (n : Int).toNat #[c]).foldl (· ++ ·) #[]⟩ : Str) = _
    rw [Int.toNat_natCast, q]
    simp [S]
theorem mul_ok (c n : Nat) (h : 1 ≤ n) (h2 : n ≤ 120) : MulOk (S [c]) (n : Int) := by
  refine ⟨?_, fun _ _ => ?_, fun _ _ => ?_⟩
  · rw [Bool.or_eq_false_iff, decide_eq_false_iff_not, decide_eq_false_iff_not]
    omega
  · show ¬ ((1 : Nat) : Int) > (2 ^ 63 - 1) / (n : Int)
    have : (1 : Int) ≤ (2 ^ 63 - 1) / (n : Int) := (Int.le_ediv_iff_mul_le (by omega)).mpr (by omega)
    omega
  · have e : (S [c]).length * (n : Int).toNat = n := by
      show 1 * (n : Int).toNat = n
      omega
    rw [e]
    unfold Builtin.Str.tooLong
    have z : n ≤ sizeLine := Nat.le_of_lt (small1000 (by omega))
    first
      | (rw [decide_eq_false_iff_not]; omega)
      | (simp; omega)
theorem joinL_ones : ∀ cs : List Nat, TL.joinL [] (cs.map fun c => [c]) = cs
  | [] => rfl
  | [c] => rfl
  | c :: d :: r => by
    show [c] ++ ([] ++ TL.joinL [] ((d :: r).map fun c => [c])) = _
    rw [joinL_ones (d :: r)]
    rfl
theorem join_ones (cs : List Nat) : Txt.join "" (cs.map fun c => S [c]) = S cs := by
  rw [s_empty]
  have e := SX.join_S [] (cs.map fun c => [c])
  rw [joinL_ones, List.map_map] at e
  exact e
theorem lens_ones : ∀ cs : List Nat, ((cs.map fun c => S [c]).map (·.length)).sum = cs.length
  | [] => rfl
  | c :: r => by
    show 1 + ((r.map fun c => S [c]).map (·.length)).sum = r.length + 1
    rw [lens_ones r, Nat.add_comm]
theorem row_rep (c wide : Nat) (h : c = 35 ∨ c = 46) : RowR wide (List.replicate wide c) := ⟨List.length_replicate, fun x hx => by rw [(List.mem_replicate.mp hx).2]; exact h⟩
theorem Dr.new {d g c p : Addr} {H : Hp} (D : Dr H d g c) (hn : H p = none) : p ≠ d ∧ p ≠ g := by
  obtain ⟨⟨r, t, h1⟩, ⟨gs, h2, _⟩, _, _⟩ := D
  exact ⟨fun z => by (rw [z, h1] at hn; cases hn), fun z => by (rw [z, h2] at hn; cases hn)⟩
/-! ### _law_picture -/
abbrev sPic : Stmt := topS 37
theorem scPic : FnScope ["draw", "high", "wide", "share", "rows", "r", "row", "c"] ["draw", "high", "wide"] (defScope sPic) := ⟨rfl, rfl, rfl, by decide +kernel, rfl, by decide +kernel, by decide +kernel⟩
def spPic : Sp := fun vs H Q _ => ∃ (d g c : Addr) (high wide : Nat), vs = [.ref d, .int high, .int wide] ∧ Dr H d g c ∧ 1 ≤ high ∧ high ≤ 60 ∧ 1 ≤ wide ∧ wide ≤ 120 ∧
  ∀ (a : Addr) (rs : List (List Nat)) (H' : Hp), PicR high wide rs → H a = none → H' a = some (.tup (rs.map rv)) → Dr H' d g c → Dn d g H H' → Q (.ref a) H'
theorem ok_pic {f fN : Addr} {fd fdN : FuncData} {k : Nat} (F : Fun K "_law_picture" "_law_picture" sPic f fd) (T : Tx mg) (GN : FnOk P w K mg base CX0 (k + 1) fN fdN ["draw", "below"] spNext) (mN : mg "_law_next" = some (.ref fN)) (kN : PySem.W.keepIn K (.ref fN) = true) (bN : Binds K fdN ["draw", "below"] []) : FnOk P w K mg base CX0 (k + 2) f fd ["draw", "high", "wide"] spPic := by
  refine F.ok scPic (fun vs H Q E h => ?_) (fun cdv A outer s H vs Q E hr h => ?_)
  · obtain ⟨d, g, c, high, wide, rfl, _⟩ := h
    rfl
  · obtain ⟨d, g, c, high, wide, rfl, D, h0, h1, w0, w1, q⟩ := h
    have hu := hu_of hr
    have nd := scPic.nd
    refine ⟨_, pss_cons (ps_asg (pe_tup (pa_cons (pe_ix ix_list (pe_lst (pa_cons pe_int (pa_cons pe_int (pa_cons pe_int pa_nil)))) (pe_call GN hr (by rfl) mN kN bN .nil pass0 (pa_cons (pv 0) (pa_cons pe_int pa_nil))) (fun _ _ => rfl)) (pa_cons (pe_lst pa_nil) pa_nil))) (pg_tup rfl (pgs_cons (pg_name (i := 3) nd rfl (.inr rfl)) (pgs_cons (pg_name (i := 4) nd rfl (.inl rfl)) pgs_nil))))
      (pss_cons (ps_for PassesOwn.never rfl (pi_range1 rfl T.range (pa_cons (pv 1) pa_nil)) (pg_name (i := 5) nd rfl (.inl rfl))
        (pss_cons (ps_set (i := 6) nd rfl (.inl rfl) (pe_join pe_str (pe_lc (own := [("c", 7)]) (g := gName 7) (tt := tYes) rfl nd (pi_range1 rfl T.range (pa_cons (pv 2) pa_nil)) (blkOk_by (N := ["draw", "high", "wide", "share", "rows", "r", "row", "c"]) (sc := defScope sPic) (by decide +kernel)) (fun _ _ _ _ _ => pg_name (i := 7) nd rfl (Or.inl rfl)) (fun _ _ _ _ _ => pts_nil)
            (fun _ _ _ _ _ => pe_ifExp (pt_cmpR op_eq (pe_call GN hr (by rfl) mN kN bN .nil pass0 (pa_cons (pv 0) (pa_cons (pv 3) pa_nil))) pe_int (nomark _)) pe_str pe_str))))
        (pss_one (ps_expr (pe_bm PySem.F.plainAttrs_list PySem.F.slot_list_append PySem.F.type_list_append mt_append (pv 4) (pa_cons (pe_ix ix_list (pe_lst (pa_cons (pv 6) (pa_cons (pv 6) (pa_cons (pv 6) (pa_cons (pe_op op_mul_str pe_str (pv 2)) (pa_cons (pe_op op_mul_str pe_str (pv 2)) pa_nil)))))) (pe_call GN hr (by rfl) mN kN bN .nil pass0 (pa_cons (pv 0) (pa_cons pe_int pa_nil))) (fun _ _ => rfl)) pa_nil))))))
      (pss_one (ps_ret (pe_callTy call_tuple_of (by rfl) T.tuple (by decide +kernel) (pa_cons (pv 4) pa_nil))))), ?_⟩
    refine ⟨by show 3 ≤ sizeLine; decide, fun l hl => ?_⟩
    have sl := same_upd (o := .lst [V.int 2, V.int 3, V.int 6]) hl
    refine ⟨.ref d, rfl, d, g, c, 3, rfl, D.same sl, by decide, by decide, fun n H1 hn0 hn1 D1 dn1 => ?_⟩
    obtain ⟨nld, nlg⟩ := D.new hl
    have hl1 := dn1 _ _ (upd_same (H := H) (a := l) (o := .lst [V.int 2, V.int 3, V.int 6])) nld nlg
    obtain ⟨sh, hsh0, hsh1, hat⟩ : ∃ sh : Int, 0 < sh ∧ sh < 1073741824 ∧ atI [V.int 2, V.int 3, V.int 6] n = some (.int sh) := by
      rcases (show n = 0 ∨ n = 1 ∨ n = 2 by omega) with x | x | x <;> rw [x]
      · exact ⟨2, by decide, by decide, rfl⟩
      · exact ⟨3, by decide, by decide, rfl⟩
      · exact ⟨6, by decide, by decide, rfl⟩
    have dnA : Dn d g H H1 := (Dn.same sl).trans dn1
    refine ⟨l, _, n, .int sh, rfl, rfl, SqL.of hl1, hat, ?_⟩
    refine ⟨by show 0 ≤ sizeLine; decide, fun l2 hl2 => ⟨by show 2 ≤ sizeLine; decide, fun t ht => ?_⟩⟩
    refine ⟨t, _, rfl, SqT.of upd_same, rfl, .int sh, _, rfl, .ref l2, [], rfl, rfl, ?_⟩
    have s2 := same_upd (o := .lst []) hl2
    have s3 := same_upd (o := .tup [V.int sh, V.ref l2]) ht
    have hl2' := s3 _ _ (upd_same (H := H1) (a := l2) (o := .lst []))
    have hl20 : H l2 = none := dnA.nn D1 hl2
    obtain ⟨n2d, n2g⟩ := D.new hl20
    have b1 : (-(2 ^ 62) : Int) ≤ (high : Int) ∧ (high : Int) < 2 ^ 62 := ⟨by omega, by omega⟩
    have b2 : (-(2 ^ 62) : Int) ≤ (wide : Int) ∧ (wide : Int) < 2 ^ 62 := ⟨by omega, by omega⟩
    refine ⟨.int high, rfl, high, rfl, b1.1, b1.2, for_range (lo := 0) (n := high) (fun i σ H2 => ∃ (y5 y6 : Option V) (rs : List (List Nat)), σ = [some (.ref d), some (.int high), some (.int wide), some (.int sh), some (.ref l2), y5, y6, none] ∧ rs.length = i ∧ (∀ l ∈ rs, RowR wide l) ∧ H2 l2 = some (.lst (rs.map rv)) ∧ Dr H2 d g c ∧ Dn d g H H2)
      ⟨none, none, [], rfl, rfl, (fun _ h => nomatch h), hl2', (D1.same s2).same s3, (dnA.trans (Dn.same s2)).trans (Dn.same s3)⟩ ?_ ?_⟩
    · rintro i σ H2 hi ⟨y5, y6, rs, rfl, hrl, hrow, h2l, D2, dn2⟩
      refine ⟨⟨_, rfl⟩, .int wide, rfl, wide, rfl, b2.1, b2.2, fun Dd hDd => lc_range (lo := 0) (n := wide) (fun j H3 => ∃ cs : List Nat, cs.length = j ∧ (∀ c ∈ cs, c = 35 ∨ c = 46) ∧ H3 Dd = some (.lst (cs.map fun c => rv [c])) ∧ H3 l2 = some (.lst (rs.map rv)) ∧ Dr H3 d g c ∧ Dn d g H H3) ?_ ?_ ?_⟩
      · have sD := same_upd (o := .lst []) hDd
        exact ⟨[], rfl, (fun _ h => nomatch h), upd_same, sD _ _ h2l, D2.same sD, dn2.trans (Dn.same sD)⟩
      · rintro j H3 hj ⟨cs, hcl, hcs, h3D, h3l, D3, dn3⟩
        obtain ⟨nDd, nDg⟩ := D2.new hDd
        refine ⟨rfl, .ref d, rfl, .int sh, rfl, d, g, c, sh, rfl, D3, hsh0, hsh1, fun m H4 hm0 hm1 D4 dn4 => ⟨rfl, _, rfl, ?_⟩⟩
        have h4D := dn4 _ _ h3D nDd nDg
        have h4l := dn4 _ _ h3l n2d n2g
        have nDl : Dd ≠ l2 := (ne_of_none h2l hDd).symm
        have fin : ∀ x : Nat, x = 35 ∨ x = 46 → ∃ acc, H4 Dd = some (.lst acc) ∧ acc.length < sizeLine ∧ ∃ cs : List Nat, cs.length = j + 1 ∧ (∀ c ∈ cs, c = 35 ∨ c = 46) ∧ (upd H4 Dd (.lst (acc ++ [rv [x]]))) Dd = some (.lst (cs.map fun c => rv [c])) ∧ (upd H4 Dd (.lst (acc ++ [rv [x]]))) l2 = some (.lst (rs.map rv)) ∧ Dr (upd H4 Dd (.lst (acc ++ [rv [x]]))) d g c ∧ Dn d g H (upd H4 Dd (.lst (acc ++ [rv [x]]))) := fun x hx => by
          refine ⟨_, h4D, ?_, cs ++ [x], ?_, ?_, ?_, ?_, ?_, ?_⟩
          · rw [List.length_map]
            exact small1000 (by omega)
          · rw [List.length_append, hcl]
            rfl
          · intro y hy
            rcases List.mem_append.mp hy with z | z
            · exact hcs y z
            · rw [List.mem_singleton.mp z]
              exact hx
          · rw [upd_same, List.map_append]
            rfl
          · rw [upd_ne nDl.symm]
            exact h4l
          · obtain ⟨⟨r, t', e1⟩, ⟨gs, e2, e3⟩, ⟨ks, e4, e5⟩, e6⟩ := id D4
            have nDc : Dd ≠ c := by
              obtain ⟨_, _, ⟨ks', e4', _⟩, _⟩ := id D2
              exact (ne_of_none e4' hDd).symm
            exact ⟨⟨r, t', by rw [upd_ne nDd.symm]; exact e1⟩, ⟨gs, by rw [upd_ne nDg.symm]; exact e2, e3⟩, ⟨ks, by rw [upd_ne nDc.symm]; exact e4, e5⟩, e6⟩
          · intro b o e hb1 hb2
            have hb3 : b ≠ Dd := ne_of_none (dn2 b o e hb1 hb2) hDd
            rw [upd_ne hb3]
            exact dn4 b o (dn3 b o e hb1 hb2) hb1 hb2
        cases decide (V.int m = V.int 0) with
        | true =>
          refine iteT ?_
          have e := fin 35 (.inl rfl)
          unfold rv at e
          rw [← s_hash] at e
          exact e
        | false =>
          refine iteF ?_
          have e := fin 46 (.inr rfl)
          unfold rv at e
          rw [← s_dot] at e
          exact e
      · rintro H3 ⟨cs, hcl, hcs, h3D, h3l, D3, dn3⟩
        have rowcs : RowR wide cs := ⟨hcl, hcs⟩
        refine ⟨"", Dd, cs.map fun c => S [c], rfl, rfl, .inl (SqL.of ?_), ?_, ?_⟩
        · rw [h3D, List.map_map]
          rfl
        · rw [lens_ones]
          show cs.length + _ * 0 ≤ 16777216
          omega
        · rw [join_ones]
          refine ⟨.ref l2, rfl, .inl ⟨rfl, _, SqL.of h3l⟩, .str (S cs), rfl, .str (S cs), rfl, .str (S cs), rfl, .int wide, rfl, ".", wide, rfl, rfl, ?_, .int wide, rfl, "#", wide, rfl, rfl, ?_, (by show 5 ≤ sizeLine; decide), fun l3 hl3 => ?_⟩
          · rw [s_dot]
            exact mul_ok 46 wide w0 w1
          · rw [s_hash]
            exact mul_ok 35 wide w0 w1
          · rw [s_dot, s_hash, mul_sign 46 wide w0, mul_sign 35 wide w0]
            have s5 := same_upd (o := .lst [V.str (S cs), V.str (S cs), V.str (S cs), V.str (S (List.replicate wide 46)), V.str (S (List.replicate wide 35))]) hl3
            refine ⟨.ref d, rfl, d, g, c, 5, rfl, D3.same s5, by decide, by decide, fun n5 H5 hn50 hn51 D5 dn5 => ?_⟩
            obtain ⟨n3d, n3g⟩ := D3.new hl3
            have h5l3 := dn5 _ _ (upd_same (H := H3) (a := l3)) n3d n3g
            have h5l2 := dn5 _ _ (s5 _ _ h3l) n2d n2g
            obtain ⟨lr, hlr, hat5⟩ : ∃ lr : List Nat, RowR wide lr ∧ atI [V.str (S cs), V.str (S cs), V.str (S cs), V.str (S (List.replicate wide 46)), V.str (S (List.replicate wide 35))] n5 = some (rv lr) := by
              rcases (show n5 = 0 ∨ n5 = 1 ∨ n5 = 2 ∨ n5 = 3 ∨ n5 = 4 by omega) with x | x | x | x | x <;> rw [x]
              · exact ⟨cs, rowcs, rfl⟩
              · exact ⟨cs, rowcs, rfl⟩
              · exact ⟨cs, rowcs, rfl⟩
              · exact ⟨_, row_rep 46 wide (.inr rfl), rfl⟩
              · exact ⟨_, row_rep 35 wide (.inl rfl), rfl⟩
            refine ⟨l3, _, n5, rv lr, rfl, rfl, SqL.of h5l3, hat5, l2, _, _, rfl, rfl, h5l2, ?_, ?_⟩
            · rw [List.length_map]
              exact small1000 (by omega)
            · refine ⟨_, _, rs ++ [lr], rfl, ?_, ?_, ?_, ?_, ?_⟩
              · rw [List.length_append, hrl]
                rfl
              · intro y hy
                rcases List.mem_append.mp hy with z | z
                · exact hrow y z
                · rw [List.mem_singleton.mp z]
                  exact hlr
              · rw [upd_same, List.map_append]
                rfl
              · obtain ⟨⟨r, t', e1⟩, ⟨gs, e2, e3⟩, ⟨ks, e4, e5⟩, e6⟩ := id D5
                have n2c : l2 ≠ c := by
                  obtain ⟨_, _, ⟨ks', e4', _⟩, _⟩ := id D
                  exact (ne_of_none e4' hl20).symm
                exact ⟨⟨r, t', by rw [upd_ne n2d.symm]; exact e1⟩, ⟨gs, by rw [upd_ne n2g.symm]; exact e2, e3⟩, ⟨ks, by rw [upd_ne n2c.symm]; exact e4, e5⟩, e6⟩
              · intro b o e hb1 hb2
                have hb3 : b ≠ l2 := ne_of_none e hl20
                rw [upd_ne hb3]
                exact dn5 b o (s5 b o (dn3 b o e hb1 hb2)) hb1 hb2
    · rintro σ H2 ⟨y5, y6, rs, rfl, hrl, hrow, h2l, D2, dn2⟩
      refine ⟨.ref l2, rfl, l2, _, rfl, .inl ⟨SqL.of h2l, fun p hp => ?_⟩⟩
      have sp := same_upd (o := .tup (rs.map rv)) hp
      exact q p rs _ ⟨hrl, hrow, h0, h1, w0, w1⟩ (dn2.nn D2 hp) upd_same (D2.same sp) (dn2.trans (Dn.same sp))
end
end Dt
namespace Dt
open PySem PySem.Spec PyProof.Rows L2 L2X
open SX (S)
/-! ### _law_sized, _law_pick -/
abbrev sSized : Stmt := topS 38
theorem scSized : FnScope ["draw", "high", "wide", "way"] ["draw"] (defScope sSized) := ⟨rfl, rfl, rfl, by decide +kernel, rfl, by decide +kernel, by decide +kernel⟩
def spSized : Sp := fun vs H Q _ => ∃ (d g c : Addr), vs = [.ref d] ∧ Dr H d g c ∧ ∀ (high wide : Nat) (a : Addr) (rs : List (List Nat)) (H' : Hp), PicR high wide rs → H a = none → H' a = some (.tup (rs.map rv)) → Dr H' d g c → Dn d g H H' → Q (.ref a) H'
abbrev sPick : Stmt := topS 36
theorem scPick : FnScope ["draw", "some"] ["draw", "some"] (defScope sPick) := ⟨rfl, rfl, rfl, by decide +kernel, rfl, by decide +kernel, by decide +kernel⟩
def spPick (K : PySem.W.Frag) : Sp := fun vs H Q _ => ∃ (d g c l : Addr) (xs : List V), vs = [.ref d, .ref l] ∧ Dr H d g c ∧ H l = some (.lst xs) ∧ l ≠ g ∧ 0 < xs.length ∧ xs.length ≤ 1000 ∧ ∀ (n : Nat) (x : V) (H' : Hp), xs[n]? = some x → Dr H' d g c → Dn d g H H' → Q x H'
section
variable {P : Program} {w : World} {K : PySem.W.Frag} {mg : Str → Option Value} {base : Heap}
theorem ok_pick {f fN : Addr} {fd fdN : FuncData} {k : Nat} (F : Fun K "_law_pick" "_law_pick" sPick f fd) (T : Tx mg) (GN : FnOk P w K mg base CX0 (k + 1) fN fdN ["draw", "below"] spNext) (mN : mg "_law_next" = some (.ref fN)) (kN : PySem.W.keepIn K (.ref fN) = true) (bN : Binds K fdN ["draw", "below"] []) : FnOk P w K mg base CX0 (k + 2) f fd ["draw", "some"] (spPick K) := by
  refine F.ok scPick (fun vs H Q E h => ?_) (fun cdv A outer s H vs Q E hr h => ?_)
  · obtain ⟨d, g, c, l, xs, rfl, _⟩ := h
    rfl
  · obtain ⟨d, g, c, l, xs, rfl, D, hl, nlg, x0, x1, q⟩ := h
    have hu := hu_of hr
    have nd := scPick.nd
    have nld : l ≠ d := by
      obtain ⟨⟨r, t, e⟩, _⟩ := D
      exact ne_of hl e (by intro z; cases z)
    refine ⟨_, pss_one (ps_ret (pe_ix ix_list (pv 1) (pe_call GN hr (by rfl) mN kN bN .nil pass0 (pa_cons (pv 0) (pa_cons (pe_callB call_len_seq (by rfl) T.len PySem.boot_len (pa_cons (pv 1) pa_nil)) pa_nil))) (fun _ _ => rfl))), ?_⟩
    refine ⟨.ref l, rfl, .ref d, rfl, .ref l, rfl, l, xs, rfl, .inl (SqL.of hl), d, g, c, (xs.length : Int), rfl, D, by omega, by omega, fun n H1 hn0 hn1 D1 dn1 => ?_⟩
    obtain ⟨j, rfl⟩ := Int.eq_ofNat_of_zero_le hn0
    have hj : j < xs.length := by omega
    have hx : xs[j]? = some xs[j] := List.getElem?_eq_getElem hj
    exact ⟨l, xs, (j : Int), xs[j], rfl, rfl, SqL.of (dn1 _ _ hl nld nlg), atI_nat hx, q j _ H1 hx D1 dn1⟩
theorem ok_sized {f fN fP : Addr} {fd fdN fdP : FuncData} {k : Nat} (F : Fun K "_law_sized" "_law_sized" sSized f fd) (T : Tx mg) (GN : FnOk P w K mg base CX0 (k + 1) fN fdN ["draw", "below"] spNext) (mN : mg "_law_next" = some (.ref fN)) (kN : PySem.W.keepIn K (.ref fN) = true) (bN : Binds K fdN ["draw", "below"] [])
    (GP : FnOk P w K mg base CX0 (k + 2) fP fdP ["draw", "high", "wide"] spPic) (mP : mg "_law_picture" = some (.ref fP)) (kP : PySem.W.keepIn K (.ref fP) = true) (bP : Binds K fdP ["draw", "high", "wide"] []) : FnOk P w K mg base CX0 (k + 3) f fd ["draw"] spSized := by
  refine F.ok scSized (fun vs H Q E h => ?_) (fun cdv A outer s H vs Q E hr h => ?_)
  · obtain ⟨d, g, c, rfl, _⟩ := h
    rfl
  · obtain ⟨d, g, c, rfl, D, q⟩ := h
    have hu := hu_of hr
    have nd := scSized.nd
    have hr1 : Room (k + 1) _ := hr.mono (by omega)
    refine ⟨_, pss_cons (ps_par (i := 1) (j := 2) (by rfl) nd rfl rfl (by decide) rfl rfl (pa_cons
          (pe_lst (pa_cons (pe_op op_add pe_int (pe_call GN hr1 (by rfl) mN kN bN .nil pass0 (pa_cons (pv 0) (pa_cons pe_int pa_nil)))) (pa_cons (pe_op op_add pe_int (pe_call GN hr1 (by rfl) mN kN bN .nil pass0 (pa_cons (pv 0) (pa_cons pe_int pa_nil)))) pa_nil))) (pa_cons
          (pe_lst (pa_cons (pe_op op_add pe_int (pe_call GN hr1 (by rfl) mN kN bN .nil pass0 (pa_cons (pv 0) (pa_cons pe_int pa_nil)))) (pa_cons (pe_op op_add pe_int (pe_call GN hr1 (by rfl) mN kN bN .nil pass0 (pa_cons (pv 0) (pa_cons pe_int pa_nil)))) pa_nil))) pa_nil)) (by rfl))
      (pss_cons (ps_set (i := 3) nd rfl (.inl rfl) (pe_call GN hr1 (by rfl) mN kN bN .nil pass0 (pa_cons (pv 0) (pa_cons pe_int pa_nil))))
      (pss_one (ps_ret (pe_call GP hr (by rfl) mP kP bP .nil pass0 (pa_cons (pv 0) (pa_cons
        (pe_ix ix_list (pv 1) (pe_callTy call_int1 (by rfl) T.int (by decide +kernel) (pa_cons (pe_cmpR op_eq (pv 3) pe_int (nomark _)) pa_nil)) (fun _ _ => rfl)) (pa_cons
        (pe_ix ix_list (pv 2) (pe_callTy call_int1 (by rfl) T.int (by decide +kernel) (pa_cons (pe_cmpR op_eq (pv 3) pe_int (nomark _)) pa_nil)) (fun _ _ => rfl)) pa_nil))))))), ?_⟩
    refine ⟨.ref d, rfl, d, g, c, 6, rfl, D, by decide, by decide, fun a1 H1 a10 a11 D1 dn1 => ⟨1, a1, rfl, rfl, .ref d, rfl, d, g, c, 60, rfl, D1, by decide, by decide, fun a2 H2 a20 a21 D2 dn2 => ⟨1, a2, rfl, rfl, by show 2 ≤ sizeLine; decide, fun l1 hl1 => ?_⟩⟩⟩
    have s1 := same_upd (o := .lst [V.int (1 + a1), V.int (1 + a2)]) hl1
    refine ⟨.ref d, rfl, d, g, c, 8, rfl, D2.same s1, by decide, by decide, fun b1 H3 b10 b11 D3 dn3 => ⟨1, b1, rfl, rfl, .ref d, rfl, d, g, c, 120, rfl, D3, by decide, by decide, fun b2 H4 b20 b21 D4 dn4 => ⟨1, b2, rfl, rfl, by show 2 ≤ sizeLine; decide, fun l2 hl2 => ?_⟩⟩⟩
    have s2 := same_upd (o := .lst [V.int (1 + b1), V.int (1 + b2)]) hl2
    obtain ⟨n1d, n1g⟩ := D2.new hl1
    obtain ⟨n2d, n2g⟩ := D4.new hl2
    have g1 := dn4 _ _ (dn3 _ _ (upd_same (H := H2) (a := l1) (o := .lst [V.int (1 + a1), V.int (1 + a2)])) n1d n1g) n1d n1g
    refine ⟨.ref l1, .ref l2, rfl, .ref d, rfl, d, g, c, 8, rfl, D4.same s2, by decide, by decide, fun wy H5 wy0 wy1 D5 dn5 => ?_⟩
    have g1' : SqL K H5 l1 [V.int (1 + a1), V.int (1 + a2)] := SqL.of (dn5 _ _ (s2 _ _ g1) n1d n1g)
    have g2' : SqL K H5 l2 [V.int (1 + b1), V.int (1 + b2)] := SqL.of (dn5 _ _ upd_same n2d n2g)
    obtain ⟨hi, hhi0, hhi1, hat1⟩ : ∃ hi : Nat, 1 ≤ hi ∧ hi ≤ 60 ∧ atI [V.int (1 + a1), V.int (1 + a2)] (if decide (V.int wy = V.int 0) then 1 else 0) = some (.int hi) := by
      cases decide (V.int wy = V.int 0) with
      | true => exact ⟨(1 + a2).toNat, by omega, by omega, by show some (V.int (1 + a2)) = _; rw [Int.toNat_of_nonneg (by omega)]⟩
      | false => exact ⟨(1 + a1).toNat, by omega, by omega, by show some (V.int (1 + a1)) = _; rw [Int.toNat_of_nonneg (by omega)]⟩
    obtain ⟨wi, hwi0, hwi1, hat2⟩ : ∃ wi : Nat, 1 ≤ wi ∧ wi ≤ 120 ∧ atI [V.int (1 + b1), V.int (1 + b2)] (if decide (V.int wy = V.int 1) then 1 else 0) = some (.int wi) := by
      cases decide (V.int wy = V.int 1) with
      | true => exact ⟨(1 + b2).toNat, by omega, by omega, by show some (V.int (1 + b2)) = _; rw [Int.toNat_of_nonneg (by omega)]⟩
      | false => exact ⟨(1 + b1).toNat, by omega, by omega, by show some (V.int (1 + b1)) = _; rw [Int.toNat_of_nonneg (by omega)]⟩
    have dnA : Dn d g H H5 := ((((dn1.trans dn2).trans (Dn.same s1)).trans (dn3.trans dn4)).trans (Dn.same s2)).trans dn5
    refine ⟨.ref d, rfl, .ref l1, rfl, .int wy, rfl, rfl, .inr ⟨_, rfl, l1, _, _, .int hi, rfl, rfl, g1', hat1, ?_⟩⟩
    refine ⟨.ref l2, rfl, .int wy, rfl, rfl, .inr ⟨_, rfl, l2, _, _, .int wi, rfl, rfl, g2', hat2, ?_⟩⟩
    refine ⟨d, g, c, hi, wi, rfl, D5, hhi0, hhi1, hwi0, hwi1, fun a rs H6 pr na ha D6 dn6 => q hi wi a rs H6 pr (dnA.nn D5 na) ha D6 (dnA.trans dn6)⟩
end
end Dt
namespace Dt
open PySem PySem.Spec PyProof.Rows L2 L2X
open SX (S)
/-! ### what is a picture -/
def rowOk : V → Bool
  | .str x => decide (1 ≤ x.length) && decide (x.length ≤ 120) && decide (Txt.count x "#" + Txt.count x "." = (x.length : Int))
  | _ => false
theorem rowOk_str (x : Str) : rowOk (.str x) = (decide (1 ≤ x.length) && decide (x.length ≤ 120) && decide (Txt.count x "#" + Txt.count x "." = (x.length : Int))) := rfl
def lenV : V → Int
  | .str x => x.length
  | _ => 0
def picOk (xs : List V) : Bool := decide (1 ≤ xs.length) && decide (xs.length ≤ 60) && xs.all rowOk && xs.all fun y => decide (lenV y = lenV (xs.headD .non))
/-- a thing of a known kind -/
def Kn (K : PySem.W.Frag) (H : Hp) (x : V) : Prop := (∃ T, TyB K H x T ∧ tyOk T = true) ∧ ∀ z, x = .str z → z.length ≤ sizeLine
structure Tp (mg : Str → Option Value) : Prop where
  typ : mg "type" = none
  str : mg "str" = none
  all : mg "all" = none
  mr : ∃ t, mg "MOST_ROWS" = some (.int 60 t)
  mc : ∃ t, mg "MOST_COLUMNS" = some (.int 120 t)
abbrev sIsText : Stmt := topS 17
theorem scIsText : FnScope ["thing"] ["thing"] (defScope sIsText) := ⟨rfl, rfl, rfl, by decide +kernel, rfl, by decide +kernel, by decide +kernel⟩
def isStr : V → Bool
  | .str _ => true
  | _ => false
def spIsText (K : PySem.W.Frag) : Sp := fun vs H Q _ => ∃ x, vs = [x] ∧ Kn K H x ∧ Q (.bl (isStr x)) H
abbrev sIsRow : Stmt := topS 25
theorem scIsRow : FnScope ["thing"] ["thing"] (defScope sIsRow) := ⟨rfl, rfl, rfl, by decide +kernel, rfl, by decide +kernel, by decide +kernel⟩
def spIsRow (K : PySem.W.Frag) : Sp := fun vs H Q _ => ∃ x, vs = [x] ∧ Kn K H x ∧ Q (.bl (rowOk x)) H
theorem isStr_ty {K : PySem.W.Frag} {H : Hp} {x : V} {T : String} (t : TyB K H x T) : decide (T = "str") = isStr x := by
  cases t <;> rfl
section
variable {P : Program} {w : World} {K : PySem.W.Frag} {mg : Str → Option Value} {base : Heap}
theorem ok_isText {f : Addr} {fd : FuncData} {k : Nat} (F : Fun K "is_text" "is_text" sIsText f fd) (T : Tp mg) : FnOk P w K mg base CX0 (k + 1) f fd ["thing"] (spIsText K) := by
  refine F.ok scIsText (fun vs H Q E h => ?_) (fun cdv A outer s H vs Q E hr h => ?_)
  · obtain ⟨x, rfl, _⟩ := h
    rfl
  · obtain ⟨x, rfl, ⟨⟨Ty, ht, ok⟩, _⟩, q⟩ := h
    refine ⟨_, pss_one (ps_ret (pe_cmpR op_eq_ty (pe_callTy call_type1 (by rfl) T.typ (by decide +kernel) (pa_cons (pv 0) pa_nil)) (pe_bltn (v := .ty "str") (u := .type "str") (by rfl) T.str (by decide +kernel) rfl) (nomark _))), ?_⟩
    refine ⟨x, rfl, x, Ty, rfl, ht, Ty, "str", rfl, rfl, ok, rfl, ?_⟩
    have e : id (decide (Ty = "str")) = isStr x := isStr_ty ht
    rw [e]
    exact q
theorem ok_isRow {f fT : Addr} {fd fdT : FuncData} {k : Nat} (F : Fun K "_is_row" "_is_row" sIsRow f fd) (T : Tp mg) (X : Tx mg) (GT : FnOk P w K mg base CX0 (k + 1) fT fdT ["thing"] (spIsText K)) (mT : mg "is_text" = some (.ref fT)) (kT : PySem.W.keepIn K (.ref fT) = true) (bT : Binds K fdT ["thing"] []) : FnOk P w K mg base CX0 (k + 2) f fd ["thing"] (spIsRow K) := by
  refine F.ok scIsRow (fun vs H Q E h => ?_) (fun cdv A outer s H vs Q E hr h => ?_)
  · obtain ⟨x, rfl, _⟩ := h
    rfl
  · obtain ⟨x, rfl, kn, q⟩ := h
    obtain ⟨t, hmc⟩ := T.mc
    refine ⟨_, pss_cons (ps_if (PW.pt (pw_or (pt_not (pt_val (pe_call GT hr (by rfl) mT kT bT .nil pass0 (pa_cons (pv 0) pa_nil)))) (pw_or1 (pt_not (pt_chain op_le op_le pe_int (pe_callB call_len_str (by rfl) X.len PySem.boot_len (pa_cons (pv 0) pa_nil)) (pe_glob (v := .int 120) (by rfl) hmc ⟨_, rfl⟩))))))
        (pss_one (ps_ret pe_bl)) pss_nil)
      (pss_one (ps_ret (pe_cmpR op_eq (pe_op op_add (pe_m1 PySem.F.slot_str_count PySem.F.type_str_count mt_count (pv 0) pe_str) (pe_m1 PySem.F.slot_str_count PySem.F.type_str_count mt_count (pv 0) pe_str)) (pe_callB call_len_str (by rfl) X.len PySem.boot_len (pa_cons (pv 0) pa_nil)) (nomark _)))), ?_⟩
    refine ⟨x, rfl, x, rfl, kn, _, rfl, ?_⟩
    cases x with
    | str z =>
      have hz := kn.2 z rfl
      refine iteF ?_
      refine ⟨.str z, rfl, z, rfl, hz, 1, _, rfl, rfl, _, rfl, ?_⟩
      refine ite2 (fun e => ?_) (fun e => ?_)
      · refine ⟨_, 120, rfl, rfl, _, rfl, ite2 (fun e2 => ?_) (fun e2 => ?_)⟩
        · have e3 : ¬ z.length ≤ 120 := fun le => by
            have : decide ((z.length : Int) ≤ 120) = true := decide_eq_true (by omega)
            rw [this] at e2
            cases e2
          have e4 : rowOk (.str z) = false := by
            rw [rowOk_str, decide_eq_false e3, Bool.and_false, Bool.false_and]
          rw [e4] at q
          exact q
        · have e3 : z.length ≤ 120 := by
            have h1 : ¬ ((!decide ((z.length : Int) ≤ 120)) = true) := e2
            have h2 : decide ((z.length : Int) ≤ 120) = true := by
              cases hh : decide ((z.length : Int) ≤ 120) with
              | true => rfl
              | false =>
                rw [hh] at h1
                exact absurd rfl h1
            have := of_decide_eq_true h2
            omega
          have e1 : 1 ≤ z.length := by
            have := of_decide_eq_true e
            omega
          refine ⟨.str z, rfl, ⟨_, rfl⟩, z, "#", rfl, rfl, .str z, rfl, ⟨_, rfl⟩, z, ".", rfl, rfl, _, _, rfl, rfl, .str z, rfl, z, rfl, hz, rfl, ?_⟩
          have e4 : rowOk (.str z) = decide (V.int (Txt.count z "#" + Txt.count z ".") = V.int (z.length : Int)) := by
            rw [rowOk_str, decide_eq_true e1, decide_eq_true e3, Bool.true_and, Bool.true_and]
            exact Bool.eq_iff_iff.mpr ⟨fun h => decide_eq_true (congrArg V.int (of_decide_eq_true h)), fun h => decide_eq_true (V.int.inj (of_decide_eq_true h))⟩
          rw [e4] at q
          exact q
      · have e1 : ¬ 1 ≤ z.length := fun le => e (decide_eq_true (by omega))
        have e4 : rowOk (.str z) = false := by
          rw [rowOk_str, decide_eq_false e1, Bool.false_and, Bool.false_and]
        rw [e4] at q
        exact ⟨_, rfl, q⟩
    | _ => exact iteT (iteT q)
/-! ### is_picture -/
abbrev sIsPic : Stmt := topS 24
theorem scIsPic : FnScope ["thing", "row"] ["thing"] (defScope sIsPic) := ⟨rfl, rfl, rfl, by decide +kernel, rfl, by decide +kernel, by decide +kernel⟩
/-- a thing as is_picture may be asked: no tuple, or a tuple whose items are of known kinds -/
def Asked (K : PySem.W.Frag) (H : Hp) (x : V) (b : Bool) : Prop :=
  (∃ T, TyB K H x T ∧ tyOk T = true ∧ T ≠ "tuple" ∧ b = false) ∨ ∃ a xs, x = .ref a ∧ SqT K H a xs ∧ (xs.length ≤ 60 → ∀ y ∈ xs, Kn K H y) ∧ b = picOk xs
def spIsPic (K : PySem.W.Frag) : Sp := fun vs H Q _ => ∃ x b, vs = [x] ∧ Asked K H x b ∧ ∀ H', Same H H' → Q (.bl b) H'
theorem sameT {K : PySem.W.Frag} {H H' : Hp} {a : Addr} {xs : List V} (e : Same H H') (h : SqT K H a xs) : SqT K H' a xs := by
  rcases h with (h | ⟨o, h⟩) | h
  · exact .inl (.inl (e _ _ h))
  · exact .inl (.inr ⟨o, e _ _ h⟩)
  · exact .inr h
theorem Kn.same {H H' : Hp} {x : V} (h : Kn K H x) (s : Same H H') : Kn K H' x := by
  obtain ⟨⟨T, t, ok⟩, hz⟩ := h
  refine ⟨⟨T, ?_, ok⟩, hz⟩
  cases t with
  | non => exact .non
  | bl b => exact .bl b
  | int i => exact .int i
  | str x => exact .str x
  | byt b => exact .byt b
  | lst h => exact .lst (s.seq h)
  | tup h => exact .tup (sameT s h)
  | dK h => exact .dK (s _ _ h)
theorem iteE {c : Bool} {A B : Prop} (e : c = false) (h : B) : if c = true then A else B := by
  rw [e]
  exact iteF h
theorem iteY {c : Bool} {A B : Prop} (e : c = true) (h : A) : if c = true then A else B := by
  rw [e]
  exact iteT h
theorem take_snoc {α : Type} {xs : List α} {i : Nat} {x : α} (h : xs[i]? = some x) : xs.take (i + 1) = xs.take i ++ [x] := by
  rw [List.take_add_one, h]
  rfl
theorem all_map_id {α : Type} (f : α → Bool) : ∀ xs : List α, (xs.map f).all id = xs.all f
  | [] => rfl
  | x :: r => by
    show (id (f x) && (r.map f).all id) = (f x && r.all f)
    rw [all_map_id f r]
    rfl
theorem bls {α : Type} (f : α → Bool) (xs : List α) : xs.map (fun y => V.bl (f y)) = (xs.map f).map V.bl := by
  rw [List.map_map]
  rfl
theorem ok_isPic {f fR : Addr} {fd fdR : FuncData} {k : Nat} (F : Fun K "is_picture" "is_picture" sIsPic f fd) (T : Tp mg) (X : Tx mg) (GR : FnOk P w K mg base CX0 (k + 1) fR fdR ["thing"] (spIsRow K)) (mR : mg "_is_row" = some (.ref fR)) (kR : PySem.W.keepIn K (.ref fR) = true) (bR : Binds K fdR ["thing"] []) : FnOk P w K mg base CX0 (k + 2) f fd ["thing"] (spIsPic K) := by
  refine F.ok scIsPic (fun vs H Q E h => ?_) (fun cdv A outer s H vs Q E hr h => ?_)
  · obtain ⟨x, b, rfl, _⟩ := h
    rfl
  · obtain ⟨x, b, rfl, ask, q⟩ := h
    obtain ⟨t, hmr⟩ := T.mr
    have nd := scIsPic.nd
    refine ⟨_, pss_cons (ps_if (PW.pt (pw_or (pt_cmpR op_ne_ty (pe_callTy call_type1 (by rfl) T.typ (by decide +kernel) (pa_cons (pv 0) pa_nil)) (pe_bltn (v := .ty "tuple") (u := .type "tuple") (by rfl) X.tuple (by decide +kernel) rfl) (nomark _)) (pw_or1 (pt_not (pt_chain op_le op_le pe_int (pe_callB call_len_seq (by rfl) X.len PySem.boot_len (pa_cons (pv 0) pa_nil)) (pe_glob (v := .int 60) (by rfl) hmr ⟨_, rfl⟩))))))
        (pss_one (ps_ret pe_bl)) pss_nil)
      (pss_cons (ps_if (pt_not (pt_val (pe_callB (cr_all rfl) (by rfl) T.all (by decide +kernel) (pa_cons (pe_lc (own := [("row", 1)]) (g := gName 1) (tt := tYes) rfl nd (pi_tup (pv 0)) (blkOk_by (N := ["thing", "row"]) (sc := defScope sIsPic) (by decide +kernel)) (fun _ _ _ _ _ => pg_name (i := 1) nd rfl (Or.inl rfl)) (fun _ _ _ _ _ => pts_nil)
            (fun _ _ _ _ _ => pe_call GR hr (by rfl) mR kR bR .nil pass0 (pa_cons (pv 1) pa_nil))) pa_nil)))) (pss_one (ps_ret pe_bl)) pss_nil)
      (pss_one (ps_ret (pe_callB (cr_all rfl) (by rfl) T.all (by decide +kernel) (pa_cons (pe_lc (own := [("row", 1)]) (g := gName 1) (tt := tYes) rfl nd (pi_tup (pv 0)) (blkOk_by (N := ["thing", "row"]) (sc := defScope sIsPic) (by decide +kernel)) (fun _ _ _ _ _ => pg_name (i := 1) nd rfl (Or.inl rfl)) (fun _ _ _ _ _ => pts_nil)
            (fun _ _ _ _ _ => pe_cmpR op_eq (pe_callB call_len_str (by rfl) X.len PySem.boot_len (pa_cons (pv 1) pa_nil)) (pe_callB call_len_str (by rfl) X.len PySem.boot_len (pa_cons (pe_ix (r := rIxT K) ix_tup (pv 0) pe_int (fun _ _ => rfl)) pa_nil)) (nomark _))) pa_nil))))), ?_⟩
    rcases ask with ⟨Ty, ht, ok, ne, rfl⟩ | ⟨a, xs, rfl, hx, kn, rfl⟩
    · refine ⟨x, rfl, x, Ty, rfl, ht, Ty, "tuple", rfl, rfl, ok, rfl, _, rfl, ?_⟩
      have e : not (decide (Ty = "tuple")) = true := by rw [decide_eq_false ne]; rfl
      exact iteY e (q H (Same.refl H))
    · refine ⟨.ref a, rfl, .ref a, "tuple", rfl, .tup hx, "tuple", "tuple", rfl, rfl, rfl, rfl, _, rfl, iteE (by decide) ?_⟩
      refine ⟨.ref a, rfl, a, xs, rfl, .inr hx, 1, _, rfl, rfl, _, rfl, ite2 (fun e => ?_) (fun e => ?_)⟩
      · have e1 : 1 ≤ xs.length := by
          have := of_decide_eq_true e
          omega
        refine ⟨_, 60, rfl, rfl, _, rfl, ite2 (fun e2 => ?_) (fun e2 => ?_)⟩
        · have e3 : ¬ xs.length ≤ 60 := fun le => by
            have : decide ((xs.length : Int) ≤ 60) = true := decide_eq_true (by omega)
            rw [this] at e2
            cases e2
          have z : picOk xs = false := by
            unfold picOk
            rw [decide_eq_false e3, Bool.and_false, Bool.false_and, Bool.false_and]
          rw [z] at q
          exact q H (Same.refl H)
        · have e3 : xs.length ≤ 60 := by
            have h1 : ¬ ((!decide ((xs.length : Int) ≤ 60)) = true) := e2
            have h2 : decide ((xs.length : Int) ≤ 60) = true := by
              cases hh : decide ((xs.length : Int) ≤ 60) with
              | true => rfl
              | false =>
                rw [hh] at h1
                exact absurd rfl h1
            have := of_decide_eq_true h2
            omega
          have kn' := kn e3
          refine ⟨.ref a, rfl, a, rfl, ⟨_, hx⟩, fun Dd hDd => lc_tup (K := K) (a := a) (xs := xs) (fun i H2 => Same H H2 ∧ H2 Dd = some (.lst ((xs.take i).map fun y => V.bl (rowOk y)))) ⟨same_upd hDd, upd_same⟩ (fun i H2 _ z => sameT z.1 hx) ?_ ?_⟩
          · rintro i y H2 hi ⟨sm, h2⟩
            have hm : y ∈ xs := List.mem_of_getElem? hi
            refine ⟨rfl, y, rfl, y, rfl, (kn' y hm).same sm, _, h2, ?_, ?_, ?_⟩
            · rw [List.length_map, List.length_take]
              exact small1000 (by omega)
            · exact fun b o e => by
                rw [upd_ne (ne_of_none e hDd)]
                exact sm _ _ e
            · rw [upd_same, take_snoc hi, List.map_append]
              rfl
          · rintro H2 ⟨sm, h2⟩
            rw [List.take_length, bls] at h2
            refine ⟨Dd, xs.map rowOk, rfl, SqL.of h2, _, rfl, ?_⟩
            rw [all_map_id]
            cases eall : xs.all rowOk with
            | false =>
              have z : picOk xs = false := by
                unfold picOk
                rw [eall, Bool.and_false, Bool.false_and]
              rw [z] at q
              exact q H2 sm
            | true =>
              have hx2 : SqT K H2 a xs := sameT sm hx
              obtain ⟨x0, r0, rfl⟩ : ∃ x0 r0, xs = x0 :: r0 := by
                cases xs with
                | nil => exact absurd e1 (by decide)
                | cons x0 r0 => exact ⟨x0, r0, rfl⟩
              have isS : ∀ y ∈ x0 :: r0, ∃ z : Str, y = .str z ∧ z.length ≤ sizeLine := fun y hy => by
                have h := List.all_eq_true.mp eall y hy
                cases y with
                | str z => exact ⟨z, rfl, (kn' _ hy).2 z rfl⟩
                | _ => cases h
              obtain ⟨z0, ez0, hz0⟩ := isS x0 List.mem_cons_self
              refine ⟨.ref a, rfl, a, rfl, ⟨_, hx2⟩, fun D2 hD2 => lc_tup (K := K) (a := a) (xs := x0 :: r0) (fun i H3 => Same H2 H3 ∧ H3 D2 = some (.lst (((x0 :: r0).take i).map fun y => V.bl (decide (lenV y = lenV x0))))) ⟨same_upd hD2, upd_same⟩ (fun i H3 _ z => sameT z.1 hx2) ?_ ?_⟩
              · rintro i y H3 hi ⟨sm3, h3⟩
                have hm : y ∈ x0 :: r0 := List.mem_of_getElem? hi
                obtain ⟨zy, ey, hzy⟩ := isS y hm
                refine ⟨rfl, y, rfl, zy, by rw [ey], hzy, .ref a, rfl, a, x0 :: r0, 0, x0, rfl, rfl, sameT sm3 hx2, atI_nat (j := 0) rfl, z0, by rw [ez0], hz0, rfl, _, h3, ?_, ?_, ?_⟩
                · rw [List.length_map, List.length_take]
                  exact small1000 (by omega)
                · exact fun b o e => by
                    rw [upd_ne (ne_of_none e hD2)]
                    exact sm3 _ _ e
                · rw [upd_same, take_snoc hi, List.map_append]
                  have e5 : decide (V.int (zy.length : Int) = V.int (z0.length : Int)) = decide (lenV y = lenV x0) := by
                    rw [ey, ez0]
                    exact Bool.eq_iff_iff.mpr ⟨fun h => decide_eq_true (V.int.inj (of_decide_eq_true h)), fun h => decide_eq_true (congrArg V.int (of_decide_eq_true h))⟩
                  rw [e5]
                  rfl
              · rintro H3 ⟨sm3, h3⟩
                rw [List.take_length, bls] at h3
                refine ⟨D2, _, rfl, SqL.of h3, ?_⟩
                rw [all_map_id]
                have z : picOk (x0 :: r0) = (x0 :: r0).all fun y => decide (lenV y = lenV x0) := by
                  unfold picOk
                  rw [eall, decide_eq_true e1, decide_eq_true e3]
                  rfl
                rw [z] at q
                exact q H3 (sm.trans sm3)
      · have e1 : ¬ 1 ≤ xs.length := fun le => e (decide_eq_true (by omega))
        have z : picOk xs = false := by
          unfold picOk
          rw [decide_eq_false e1, Bool.false_and, Bool.false_and, Bool.false_and]
        rw [z] at q
        exact ⟨_, rfl, q H (Same.refl H)⟩
end
end Dt
namespace Dt
open PySem PySem.Spec PyProof.Rows L2 L2X
open SX (S)
/-! ### refusals -/
/-- the class NoPicture, as the top has made it, at C -/
structure Tn (K : PySem.W.Frag) (mg : Str → Option Value) (C : Addr) : Prop where
  g : mg "NoPicture" = some (.ref C)
  x : PySem.W.excIn K C [.type "ValueError", .type "Exception", .type "BaseException", .type "object"] "ValueError.__new__" = true
  k : PySem.W.keepIn K (.ref C) = true
  b : PySem.W.subIn K (.ref C) (.type "BaseException") = some true
  t : PySem.W.typeIn K (.ref C) = some (.type "type")
abbrev sWant : Stmt := topS 26
theorem scWant : FnScope ["thing"] ["thing"] (defScope sWant) := ⟨rfl, rfl, rfl, by decide +kernel, rfl, by decide +kernel, by decide +kernel⟩
def spWant (K : PySem.W.Frag) (C : Addr) : Sp := fun vs H Q E => ∃ x b, vs = [x] ∧ Asked K H x b ∧ (b = true → ∀ H', Same H H' → Q .non H') ∧ (b = false → ∀ H', Same H H' → E (.ref C) none H')
section
variable {P : Program} {w : World} {K : PySem.W.Frag} {mg : Str → Option Value} {base : Heap} {C : Addr}
theorem ok_want {f fP : Addr} {fd fdP : FuncData} {k : Nat} (F : Fun K "want_picture" "want_picture" sWant f fd) (N : Tn K mg C) (GP : FnOk P w K mg base CX0 (k + 1) fP fdP ["thing"] (spIsPic K)) (mP : mg "is_picture" = some (.ref fP)) (kP : PySem.W.keepIn K (.ref fP) = true) (bP : Binds K fdP ["thing"] []) :
    FnOk P w K mg base (L2.CX P w) (k + 2) f fd ["thing"] (spWant K C) := by
  refine F.okX scWant (fun vs H Q E h => ?_) (fun cdv A outer s H vs Q E hr h => ?_)
  · obtain ⟨x, b, rfl, _⟩ := h
    rfl
  · obtain ⟨x, b, rfl, ask, q1, q2⟩ := h
    refine ⟨_, pss_one (ps_if (pt_not (pt_val (pe_call GP hr (by rfl) mP kP bP .nil pass0 (pa_cons (pv 0) pa_nil)))) (pss_one (ps_raise rfl (takes_of rfl rfl rfl rfl) (pmk_own PySem.F.excBase_ValueError N.x N.g N.k (raises_own N.b N.t) rfl))) pss_nil), ?_⟩
    refine ⟨x, rfl, x, b, rfl, ask, fun H' sm => ⟨_, rfl, ?_⟩⟩
    cases b with
    | true => exact iteF (q1 rfl H' sm)
    | false => exact iteT (q2 rfl H' sm)
end
end Dt
/-! a comprehension whose elements are walked with the frame around it at hand -/
namespace L2X
open PySem PySem.Spec PyProof.Rows L2
section
variable {X : Cx}
/-- the block of a comprehension, begun at s1 over H1 -/
abbrev Bk (X : Cx) (sc : Scope) (s1 : Shared) (H1 : Hp) (L : Addr) (cl : List (Str × Addr)) (fp : List Addr) : Cx :=
  X.blk s1 H1 sc (compEnvC sc cl L X.env) fp
/-- from within the block the frame around it is seen -/
theorem out_of {pins pj : List (Addr × Obj)} {σ τ : L2.St} {H1 H2 : Hp} {s1 s2 : Shared} {sc : Scope} {L : Addr} {cl : List (Str × Addr)} {fp : List Addr}
    (I : Inv X pins σ H1 s1) (hf : ∀ b ∈ fp, FpOk X pins H1 b)
    (B : Inv (Bk X sc s1 H1 L cl fp) pj τ H2 s2) : Inv X pins σ H2 s2 := by
  refine I.call' (ch := fp) B.os B.base B.hok B.bare fun b hb => ?_
  have z := hf b hb
  exact ⟨z.2.2.2.1, z.2.1, z.2.2.2.2.1, z.2.2.2.2.2⟩
theorem pe_lcI {elt tg iter : Expr} {sc : Scope} {own : List (Str × Nat)} {pos : Pos} {wi : TI} {g : TG} {te : L2.St → TE}
    (hc : X.calm = true) (hN : X.N.Nodup) (hi : PI X tg iter wi) (ok : BlkOk X.N X.env.scope sc own)
    (hg : ∀ (s1 : Shared) (H1 : Hp) (L : Addr) (cl : List (Str × Addr)) (fp : List Addr), PG (Bk X sc s1 H1 L cl fp) tg g)
    (he : ∀ (pins : List (Addr × Obj)) (σ : L2.St) (s1 : Shared) (H1 : Hp) (L : Addr) (cl : List (Str × Addr)) (fp : List Addr),
      Inv X pins σ H1 s1 → (∀ b ∈ fp, FpOk X pins H1 b) → PE (Bk X sc s1 H1 L cl fp) elt (te σ))
    (hs : ∀ x, foldedSetIterable iter X.env x = pure x := by intro _; rfl) :
    PE X (.ListComp elt [⟨tg, iter, [], 0⟩] sc pos) (fun σ H Q => tLc wi g tYes (te σ) (own.map (·.2)) σ H Q) := by
  constructor
  intro pins s σ H Q I h
  rw [eval_ListComp]
  have freeIn : ∀ y ∈ sc.names, y.2 = .free → ∃ c, X.env.cells.lookup y.1 = some c := by
    intro y hy e
    cases ok.free y hy e with
    | inl k => exact I.ok.has _ (.inl k)
    | inr k => exact I.ok.has _ (.inr k)
  have uq : ∀ y ∈ sc.names, _ := fun y hy (e : y.2 = .local) => (ok.uniq y hy).trans (congrArg some e)
  apply wpAny_comprehension_free (use := none) rfl hs (closure_ok freeIn) ok.kind uq
  refine thn (hi.run pins s σ H _ I h) ?_
  intro xv sa hx
  refine thn hx ?_
  rintro itv sb ⟨it, fp, tn, J, Hb, rfl, Ib, T, stb, fb, rd⟩
  apply wpAny_newObj_type
  · apply newEnv_comp
    have newD : Hb sb.heap.objs.size = none := Ib.hok.fresh (Nat.le_refl _)
    obtain ⟨W, ⟨m0, w0⟩, tu⟩ := rd sb.heap.objs.size newD
    generalize eD : sb.heap.objs.size = D at newD w0 tu ⊢
    have objD : (sb.heap.push { cls := .type "list", data := .seq ([] : List Value).toArray }).get? D = some { cls := .type "list", data := .seq ([] : List Value).toArray } := by
      rw [← eD]
      exact Heap.get?_push_size _ rfl
    have Ic : Inv X pins σ (upd Hb D (.lst [])) { sb with heap := sb.heap.push { cls := .type "list", data := .seq ([] : List Value).toArray } } :=
      Ib.laid (t' := sb.toks) (fun b o e => Heap.get?_push_of_some _ e) (by rw [eD]; exact Nat.le_refl _) ⟨by show 0 ≤ sizeLine; decide, [], 0, .nil, objD⟩
    have stc : tn 0 (sb.heap.push { cls := .type "list", data := .seq ([] : List Value).toArray }) := T.keep _ _ _ stb fun b _ o e => Heap.get?_push_of_some _ e
    have fc : ∀ b ∈ fp, FpOk X pins (upd Hb D (.lst [])) b ∧ b < (sb.heap.push { cls := .type "list", data := .seq ([] : List Value).toArray }).objs.size := by
      intro b hb
      obtain ⟨o, e, _⟩ := T.obj _ _ stb b hb
      have lt := Heap.lt_size e
      have z := fb b hb
      constructor
      · refine ⟨?_, z.2⟩
        rw [upd_ne (show b ≠ D from Nat.ne_of_lt (eD ▸ lt))]
        exact z.1
      · rw [Heap.size_push]
        exact Nat.lt_succ_of_lt lt
    generalize eC : ({ sb with heap := sb.heap.push { cls := .type "list", data := .seq ([] : List Value).toArray } } : Shared) = sC at Ic
    have eCh : sb.heap.push { cls := .type "list", data := .seq ([] : List Value).toArray } = sC.heap := by rw [← eC]
    rw [eCh] at stc fc
    generalize eHc : upd Hb D (.lst []) = Hc at Ic fc w0
    have Id := block_start Ic ok hN fc
    generalize eCells : cellsFrom (sC.heap.objs.size + 1) sc.names (cloFrom X.env.cells sc.names []) = cl at Id ⊢
    change codeAny _ _ (.compStart (.ListComp elt [⟨tg, iter, [], 0⟩] sc pos) 0 (.ref it) (.ref D) (compEnvC sc cl sC.heap.objs.size X.env))
      (compPost (model X.prog X.w) X.A X.xe none (EP X pins σ Q) (.ref D) sC.heap.objs.size) _
    have gT := hg sC Hc sC.heap.objs.size cl fp
    have gE := he pins σ sC Hc sC.heap.objs.size cl fp Ic fun b hb => (fc b hb).1
    have std : tn 0 (pushCells (sC.heap.push { cls := .type "dict", data := .dict #[] }) sc.names) :=
      T.keep _ _ _ stc fun b _ o e => pushCells_keeps _ _ _ _ (Heap.get?_push_of_some _ e)
    generalize eD4 : ({ sC with heap := pushCells (sC.heap.push { cls := .type "dict", data := .dict #[] }) sc.names } : Shared) = sD at Id ⊢
    have eDh : pushCells (sC.heap.push { cls := .type "dict", data := .dict #[] }) sc.names = sD.heap := by rw [← eD4]
    rw [eDh] at std
    have walk : codeAny (model X.prog X.w) X.A (.compLoop (.ListComp elt [⟨tg, iter, [], 0⟩] sc pos) 0 (.ref it) (.ref D) (compEnvC sc cl sC.heap.objs.size X.env))
        (compPost (model X.prog X.w) X.A X.xe none (EP X pins σ Q) (.ref D) sC.heap.objs.size) sD := by
      apply compLoop_any (fun n t => ∃ (i : Nat) (G : Hp), Inv (Bk X sc sC Hc sC.heap.objs.size cl fp) [] (wipe σ (own.map (·.2))) G t ∧ tn i t.heap ∧ (∀ b ∈ fp, G b = none) ∧ W i n G) _ m0
        ⟨0, Hc, Id, std, fun b hb => (fc b hb).1.1, w0⟩
      rintro n t ⟨i, G, It, tt, gn, wi⟩
      have fpB : ∀ {τ : L2.St} {G' : Hp} {t' : Shared}, Inv (Bk X sc sC Hc sC.heap.objs.size cl fp) [] τ G' t' → (∀ b ∈ fp, G' b = none) → ∀ b ∈ fp, FpOk (Bk X sc sC Hc sC.heap.objs.size cl fp) [] G' b := by
        intro τ G' t' B hn b hb
        have z := B.ok.exf b hb
        exact ⟨hn b hb, z.1, B.ok.exfs b hb, .inl hb, fun x c e => z.2 x c e, fun p hp => nomatch (show p ∈ ([] : List (Addr × Obj)) from hp)⟩
      rcases tu i n G wi with ⟨st, q⟩ | ⟨go, Nx, toW, step⟩
      · apply thnF (T.done (Bk X sc sC Hc sC.heap.objs.size cl fp) rfl rfl rfl hc i [] t _ G (fun _ _ => False) It (fpB It gn) tt st)
        rintro r u ⟨rfl, Iu⟩
        have Iout := out_of Ic (fun b hb => (fc b hb).1) Iu
        obtain ⟨m, nsL, _⟩ := id Iu.loc
        have freeL : G sC.heap.objs.size = none := Iu.free
        refine ⟨m, nsL, fun h' sb' => ?_⟩
        have fL := Ic.fpOk (Nat.le_refl _) freeL
        exact ⟨.ref D, G, Iout.turned (t' := u.toks) (fun b o hb e => (sb'.2 b hb).trans e) fL.1 fL.2.1 fL.2.2.2.1 fL.2.2.2.2.1 fL.2.2.2.2.2, rfl, q⟩
      · apply thnF (T.item (Bk X sc sC Hc sC.heap.objs.size cl fp) rfl rfl rfl hc i [] t _ G (fun _ _ => False) It (fpB It gn) tt go)
        rintro r t1 ⟨u, rfl, hu⟩
        refine thnF hu ?_
        rintro _ t2 ⟨x, G2, I2, rx, yl, tt2, gn2⟩
        have Ip := I2.pinned (fpB I2 gn2) (T.obj _ _ tt2)
        refine thnF (gT.run _ t2 _ G2 x u _ Ip rx (step x G2 yl)) ?_
        rintro _ t3 ⟨τ, G3, I3, wq, q3⟩
        simp only [tYes, if_true] at q3
        apply wpAny_tests_nil
        simp only [if_true]
        refine thnF (gE.run _ t3 τ G3 _ I3 q3) ?_
        rintro z t4 ⟨y, G4, I4, ry, acc, accD, accL, nx⟩
        refine app_ok (X := Bk X sc sC Hc sC.heap.objs.size cl fp) I4 accD accL ry fun t5 I5 => ?_
        obtain ⟨m, lt, wm⟩ := toW _ nx
        have still : ∀ b ∈ fp, ∀ o, t2.heap.get? b = some o → t5.heap.get? b = some o ∧ (upd G4 D (.lst (acc ++ [y]))) b = none := by
          intro b hb o e
          have z := I5.pin (b, o) (List.mem_append_right _ (List.mem_append_right _ (mem_pinsAt hb e)))
          exact ⟨z.1, z.2.1⟩
        refine ⟨m, lt, i + 1, _, (I5.unpinned (pins := [])).weak ?_ fun j v e => ?_, T.keep _ _ _ tt2 fun b hb o e => (still b hb o e).1, fun b hb => ?_, wm⟩
        · rw [← wq, wipe_length]
        · rw [← wq] at e
          exact (wipe_some e).1
        · obtain ⟨o, e, _⟩ := T.obj _ _ tt2 b hb
          exact (still b hb o e).2
    exact codeAny_compStart_list walk (T.self X.A 0 _ _ _ std walk)
  · show 0 ≤ sizeLine
    decide
end
end L2X
/-! objects taken under watch, and let go; a caught exception kept behind its clause -/
namespace L2X
open PySem PySem.Spec PyProof.Rows L2
section
variable {X : Cx} {pins : List (Addr × Obj)} {σ : L2.St} {H : Hp} {s : Shared}
/-- an object that is younger than the entry comes under watch -/
theorem adopt {a : Addr} {o : HO} {oe : Obj} (I : Inv X pins σ H s) (ha : s.heap.get? a = some oe) (nc : ∀ v, oe.data ≠ .cell v) (na : H a = none) (nL : a ≠ X.env.locals)
    (n0 : X.s_0.heap.get? a = none) (np : ∀ p ∈ X.pn ++ pins, p.1 ≠ a) (new : ObjOk X.prog X.w (upd H a o) s.heap a o) : Inv X pins σ (upd H a o) s := by
  have old : ∀ b u, H b = some u → (upd H a o) b = some u := by
    intro b u e
    rw [upd_ne (ne_of_none e na)]
    exact e
  have ent : ∀ b u, X.s_0.heap.get? b = some u → b ≠ a := by
    rintro b u e rfl
    rw [n0] at e
    cases e
  constructor
  · exact I.ok
  · exact I.os
  · exact I.bare
  · constructor
    · exact I.base.keep
    · exact I.base.slot
    · intro b u e n hx
      rw [upd_ne (ent b u e)]
      exact I.base.free b u e n hx
    · exact I.base.there
    · exact fun b xs e => old _ _ (I.base.tups b xs e)
    · exact fun b u v e => old _ _ (I.base.frzs b u v e)
    · intro b ps e
      obtain ⟨m, q⟩ := I.base.tbls b ps e
      exact ⟨m, old _ _ q⟩
  · exact I.loc
  · exact I.cell
  · rw [upd_ne nL.symm]
    exact I.free
  · intro x c e
    have nca : c ≠ a := by
      rintro rfl
      obtain ⟨v, oc, hoc, hd⟩ := I.cell x c e
      rw [ha] at hoc
      cases hoc
      exact nc _ hd
    rw [upd_ne nca]
    exact I.freeC x c e
  · intro p hp
    obtain ⟨e, n, r⟩ := I.pin p hp
    refine ⟨e, ?_, r⟩
    rw [upd_ne (np p hp)]
    exact n
  · intro b u e
    by_cases hb : b = a
    · subst hb
      rw [upd_same] at e
      cases e
      exact new
    · rw [upd_ne hb] at e
      exact (I.hok b u e).stay (fun _ _ _ q => q) (fun c q => old _ _ q) fun c xs q => old _ _ q
  · exact I.len
/-- a thing of our own is let go -/
theorem letgo {a : Addr} {φ : Heap → Prop} (I : Inv X pins σ H s) (ha : H a = some (.ext φ)) : Inv X pins σ (delH H a) s := by
  have oth : ∀ b u, H b = some u → (∀ ψ, u ≠ .ext ψ) → delH H a b = some u := by
    intro b u e ne
    rw [delH_ne]
    · exact e
    · rintro rfl
      rw [ha] at e
      cases e
      exact ne _ rfl
  have non : ∀ b, H b = none → delH H a b = none := by
    intro b e
    by_cases hb : b = a
    · rw [hb]
      exact delH_same
    · rw [delH_ne hb]
      exact e
  constructor
  · exact I.ok
  · exact I.os
  · exact I.bare
  · constructor
    · exact I.base.keep
    · exact I.base.slot
    · exact fun b u e n hx => non b (I.base.free b u e n hx)
    · exact I.base.there
    · exact fun b xs e => oth _ _ (I.base.tups b xs e) fun ψ z => nomatch z
    · exact fun b u v e => oth _ _ (I.base.frzs b u v e) fun ψ z => nomatch z
    · intro b ps e
      obtain ⟨m, q⟩ := I.base.tbls b ps e
      exact ⟨m, oth _ _ q fun ψ z => nomatch z⟩
  · exact I.loc
  · exact I.cell
  · exact non _ I.free
  · exact fun x c e => non _ (I.freeC x c e)
  · intro p hp
    obtain ⟨e, n, r⟩ := I.pin p hp
    exact ⟨e, non _ n, r⟩
  · intro b u e
    by_cases hb : b = a
    · rw [hb, delH_same] at e
      cases e
    · rw [delH_ne hb] at e
      exact (I.hok b u e).stay (fun _ _ _ q => q) (fun c q => oth _ _ q fun ψ z => nomatch z) fun c xs q => oth _ _ q fun ψ z => nomatch z
  · exact I.len
end
/-- a caught exception of the class cls stands at a -/
def ExI (cls : Value) (d : Option Addr) (a : Addr) : HO := .ext fun h => ∃ oe, h.get? a = some oe ∧ Zc cls d oe ∧ ∃ vs, oe.data = .fields vs
theorem exI_ok {P : Program} {w : World} {H : Hp} {h : Heap} {a : Addr} {cls : Value} {d : Option Addr} {oe : Obj} {vs : Array Value} (e : h.get? a = some oe) (z : Zc cls d oe) (f : oe.data = .fields vs) : ObjOk P w H h a (ExI cls d a) := by
  refine ⟨⟨oe, e, z, vs, f⟩, ⟨oe, e⟩, ?_⟩
  rintro h1 h2 ⟨o, q, r⟩ k
  exact ⟨o, k _ q, r⟩
/-- the wish of a clause 'except x as n' that takes all that comes, and behind which the exception is kept -/
def wKeep (K : PySem.W.Frag) (c : Value) (i : Nat) (ts : Addr → Value → Option Addr → TS) (D : Ends) : WX := fun cls d σ H =>
  PySem.W.exmOne K cls c = some true ∧ ∀ a, H a = none → ts a cls d { nx := fun σ' H' => D.nx (σ'.set i none) (upd H' a (ExI cls d a)), rt := fun _ _ => False } (σ.set i (some (.ref a))) H
section
variable {X : Cx} {x n : Str} {c : Value} {i : Nat} {body sr : List Stmt} {b0 : Stmt} {np p1 p2 : Pos} {tb : WX → TS} {ts : Addr → Value → Option Addr → TS}
/-- what the watch over a try's body does with an exception -/
def Watch (X : Cx) (pins : List (Addr × Obj)) (D : Ends) (hd : ExceptHandler) : Value → Shared → Prop := fun e sa =>
  wpAny (model X.prog X.w) X.A (noteFrame e X.env)
    (fun _ sb => wpAny (model X.prog X.w) X.A (setFlight e none)
      (fun _ sc => wpAny (model X.prog X.w) X.A (handleBy e X.env [hd]) (SP X pins D) X.xe sc) X.xe sb) X.xe sa
theorem watched {pins : List (Addr × Obj)} {D : Ends} (st : X.stack = X.env :: X.outer) (fr : X.env.frame = some X.env.locals) (hex : X.ex = []) (hN : X.N.Nodup) (hi : X.N[i]? = some n) (hln : X.env.kindOf n = some .local) (hc : Names X x c) (ok : X.Ok)
    (hsu : ∀ (a : Addr) (oe : Obj) (cls : Value) (d : Option Addr) (pn : List (Addr × Obj)), Zc cls d oe → (∃ vs, oe.data = .fields vs) → PSs (X.suite a ((a, oe) :: pn)) (b0 :: sr) (ts a cls d)) :
    Takes (X.tr (X.pn ++ pins) (Watch X pins D (.ExceptHandler (some (.Name x np)) (some n) (b0 :: sr) p2))) (wKeep X.K c i ts D) := by
  rintro u t ⟨a, B, sI, pj, τ, G, cls, d, rfl, Jt, toB, up, sky, na, os, ag, caught, suiteOk⟩
  have J : Inv X pins τ G sI := Jt.ofTry ok
  have fs : X.A.frames = some (X.env :: X.outer) := ok.frames.trans (congrArg some st)
  have sky' : Sky B (X.env :: X.outer) a (Zc cls d) X.env.locals t.heap := st ▸ sky
  unfold Watch
  apply Sky.land Zc.steady fs fr sky'
  intro h3 fly up3
  have J3 : Inv X pins τ G { t with heap := h3 } := J.landed toB fly.1 (up.trans up3) os ag
  obtain ⟨oe3, vs3, got3, cls3, dat3⟩ := fly.there
  have noFrame : a ∉ frs (X.env :: X.outer) := by
    intro hm
    obtain ⟨_, o', e', nf⟩ := fly.2.2.1.mem hm
    rw [got3] at e'
    cases e'
    exact nf _ dat3
  have neL : a ≠ X.env.locals := fun z => noFrame (List.mem_filterMap.mpr ⟨X.env, List.mem_cons_self, by rw [fr, z]⟩)
  have neF : a ∉ X.fs := by
    intro hm
    obtain ⟨e, he, q⟩ := List.mem_filterMap.mp hm
    exact noFrame (List.mem_filterMap.mpr ⟨e, List.mem_cons_of_mem _ he, q⟩)
  have notI : sI.heap.get? a = none := by
    cases e : sI.heap.get? a with
    | none => rfl
    | some o =>
      have z := toB a o e (by rw [st]; exact noFrame)
      rw [fly.2.1] at z
      cases z
  have not0 : X.s_0.heap.get? a = none := by
    cases e : X.s_0.heap.get? a with
    | none => rfl
    | some o =>
      obtain ⟨o', z⟩ := J.base.there a o e (by rw [hex]; exact fun z => nomatch z)
      rw [notI] at z
      cases z
  have notPin : ∀ p ∈ X.pn ++ pins, p.1 ≠ a := by
    rintro p hp rfl
    have z := (J.pin p hp).1
    rw [notI] at z
    cases z
  have S3 := J3.suite got3 dat3 na neL neF
  apply wpAny_handleBy_cons (codeAny_handlers_test _) (by intro q; cases q)
  have lookT : PySem.W.Looks (model X.prog X.w) h3 (typeOf (.ref a)) cls := by
    intro A Q E s k q
    exact wpAny_typeOf_ref (k _ _ got3) (cls3.1 ▸ q)
  have lookM := PySem.W.exm_one (M := model X.prog X.w) J3.kIn lookT caught
  have named : ∀ {Q E : Value → Shared → Prop}, Q c { t with heap := h3 } → wpAny (model X.prog X.w) (X.A.mark (some (.ref a))) (eval (.Name x np) X.env) Q E { t with heap := h3 } := by
    intro Q E q
    rcases hc with ⟨hg, hdb, hm | ⟨hm, hv, hnn⟩⟩
    · exact ld_glob (X := X.suite a ((a, oe3) :: (X.pn ++ pins))) S3 hg hm q hdb
    · exact ld_blt (X := X.suite a ((a, oe3) :: (X.pn ++ pins))) S3 hg hm hv q hnn hdb
  apply named
  apply lookM.here
  refine codeAny_handlers_suite_as ?_
  apply HandSPX.lands_againZ fly
  intro h4 fly4 up4
  have J4 : Inv X pins τ G { t with heap := h4 } := J.landed toB fly4.1 ((up.trans up3).trans up4) os ag
  obtain ⟨oe4, vs4, got4, cls4, dat4⟩ := fly4.there
  have S4 := J4.suite got4 dat4 na neL neF
  refine store_ok (X := X.suite a ((a, oe4) :: (X.pn ++ pins))) (v := .ref a) S4 hN hi (.inl hln) rfl (fun s5 S5 => ?_) (.inr hln)
  refine wpAny_mono ((hsu a oe4 cls d (X.pn ++ pins) cls4 ⟨_, dat4⟩).run [] s5 _ G _ S5 (suiteOk a na)) ?_ (fun _ _ z => False.elim z)
  rintro f s6 hsp
  cases f with
  | next =>
    obtain ⟨τ6, G6, S6, q6⟩ := hsp
    have pinned : Inv X ((a, oe4) :: pins) τ6 G6 s6 := by
      refine (S6.unsuite ok).pins_of fun p hp => ?_
      have z := S6.pin p
      cases List.mem_cons.mp hp with
      | inl e => exact z (by rw [e]; exact List.mem_append_left _ List.mem_cons_self)
      | inr e => exact z (List.mem_append_left _ (List.mem_cons_of_mem _ (List.mem_append_right _ e)))
    refine gone_ok pinned hN hi hln fun s7 J7 => ?_
    have z := J7.pin (a, oe4) (List.mem_append_right _ List.mem_cons_self)
    have J8 : Inv X pins (τ6.set i none) G6 s7 := J7.pins_of fun p hp => J7.pin p (List.mem_append_right _ (List.mem_cons_of_mem _ hp))
    exact ⟨_, _, adopt J8 z.1 z.2.2.2.2 z.2.1 z.2.2.1 not0 notPin (exI_ok z.1 cls4 dat4), q6⟩
  | brk =>
    obtain ⟨τ6, G6, S6, q6⟩ := hsp
    exact q6.elim
  | cont =>
    obtain ⟨τ6, G6, S6, q6⟩ := hsp
    exact q6.elim
  | ret u =>
    obtain ⟨v6, τ6, G6, S6, r6, q6⟩ := hsp
    exact q6.elim
/-- try: body / except x as n: suite, n's exception kept under watch behind it -/
theorem ps_try_keep (st : X.stack = X.env :: X.outer) (fr : X.env.frame = some X.env.locals) (hex : X.ex = []) (hN : X.N.Nodup) (hi : X.N[i]? = some n) (hln : X.env.kindOf n = some .local) (hc : Names X x c)
    (hb : ∀ (W : WX) (pn : List (Addr × Obj)) (xe : Value → Shared → Prop), Takes (X.tr pn xe) W → PassesOwn (model X.prog X.w) X.A X.env xe → PSs (X.tr pn xe) body (tb W))
    (hsu : ∀ (a : Addr) (oe : Obj) (cls : Value) (d : Option Addr) (pn : List (Addr × Obj)), Zc cls d oe → (∃ vs, oe.data = .fields vs) → PSs (X.suite a ((a, oe) :: pn)) (b0 :: sr) (ts a cls d)) :
    PS X (.Try body [.ExceptHandler (some (.Name x np)) (some n) (b0 :: sr) p2] [] [] p1) (fun D σ H => tb (wKeep X.K c i ts D) D σ H) := by
  constructor
  intro pins s σ H D I h
  apply wpAny_Try_except
  have run := (hb (wKeep X.K c i ts D) (X.pn ++ pins) (Watch X pins D (.ExceptHandler (some (.Name x np)) (some n) (b0 :: sr) p2)) (watched st fr hex hN hi hln hc I.ok hsu) PassesOwn.looking).run [] s σ H D (I.toTry _) h
  refine wpAny_mono run ?_ (fun _ _ z => z)
  rintro f t hsp
  cases f with
  | next =>
    obtain ⟨τ, G, J, q⟩ := hsp
    exact wpAny_execs_nil ⟨τ, G, J.ofTry I.ok, q⟩
  | brk =>
    obtain ⟨τ, G, J, q⟩ := hsp
    exact ⟨τ, G, J.ofTry I.ok, q⟩
  | cont =>
    obtain ⟨τ, G, J, q⟩ := hsp
    exact ⟨τ, G, J.ofTry I.ok, q⟩
  | ret u =>
    obtain ⟨v, τ, G, J, r, q⟩ := hsp
    exact ⟨v, τ, G, J.ofTry I.ok, r, q⟩
end
end L2X
namespace L2X
open PySem PySem.Spec PyProof.Rows L2
/-- isinstance(e, c), e a kept exception -/
def rIsX (K : PySem.W.Frag) : List V → Hp → VK → Prop := fun xs H Q => ∃ (a D : Addr) (c : V) (cv : Value) (b : Bool), xs = [.ref a, c] ∧ H a = some (ExI (.ref D) none a) ∧ ExcC K D ∧ (∀ u, RelV c u → u = cv) ∧ PySem.W.kitOne K (.ref D) cv = some b ∧ Q (.bl b) H
theorem call_isX {X : Cx} : CallR X (.builtin "isinstance") (rIsX X.K) := by
  intro pins s σ H xs us Q I r h
  obtain ⟨a, D, c, cv, b, rfl, ha, C, hcv, e, q⟩ := h
  cases r with
  | cons rx rr =>
    cases rr with
    | cons rt rr =>
      cases rr
      cases rx
      have ec := hcv _ rt
      subst ec
      obtain ⟨⟨oe, got, ⟨zc, zd⟩, vs, hv⟩, _⟩ := I.hok a _ ha
      have J : PySem.W.InstAt s.heap a oe D none := ⟨got, zc, by unfold PySem.W.notCls; rw [hv], by rw [zd]; trivial⟩
      exact PySem.W.kia_one (PySem.W.handS_kitx_exc C.hg C.hk C.hs C.hd C.ha C.hn C.ht C.hm) I.kIn J e (fun z => nomatch z) fun tk => ⟨.bl b, H, I.kept (t' := tk) fun _ _ z => z, rfl, q⟩
end L2X
namespace Dt
open PySem PySem.Spec PyProof.Rows L2 L2X
open SX (S)
/-! ### lists of marks -/
/-- tuples of a word and a truth, at the addresses vs -/
inductive Tps (H : Hp) : List V → List (Str × Bool) → Prop
  | nil : Tps H [] []
  | cons {t : Addr} {w : Str} {b : Bool} {vs : List V} {ws : List (Str × Bool)} : H t = some (.tup [.str w, .bl b]) → Tps H vs ws → Tps H (.ref t :: vs) ((w, b) :: ws)
theorem Tps.same {H H' : Hp} {vs : List V} {ws : List (Str × Bool)} (h : Tps H vs ws) (s : Same H H') : Tps H' vs ws := by
  induction h with
  | nil => exact .nil
  | cons e _ ih => exact .cons (s _ _ e) ih
theorem Tps.app {H : Hp} {vs us : List V} {ws xs : List (Str × Bool)} (h : Tps H vs ws) (g : Tps H us xs) : Tps H (vs ++ us) (ws ++ xs) := by
  induction h with
  | nil => exact g
  | cons e _ ih => exact .cons e ih
theorem Tps.len {H : Hp} {vs : List V} {ws : List (Str × Bool)} (h : Tps H vs ws) : vs.length = ws.length := by
  induction h with
  | nil => rfl
  | cons _ _ ih => exact congrArg (· + 1) ih
theorem Tps.get {H : Hp} {vs : List V} {ws : List (Str × Bool)} (h : Tps H vs ws) : ∀ {i : Nat} {x : V}, vs[i]? = some x → ∃ t w b, x = .ref t ∧ ws[i]? = some (w, b) ∧ H t = some (.tup [.str w, .bl b]) := by
  induction h with
  | nil => intro i x e; simp at e
  | @cons t w b vs ws ht _ ih =>
    intro i x e
    cases i with
    | zero =>
      have e1 : V.ref t = x := by simpa using e
      exact ⟨t, w, b, e1.symm, rfl, ht⟩
    | succ i =>
      obtain ⟨t', w', b', e1, e2, e3⟩ := ih (i := i) (x := x) (by simpa using e)
      exact ⟨t', w', b', e1, by simpa using e2, e3⟩
def Mk (H : Hp) (l : Addr) (ws : List (Str × Bool)) : Prop := ∃ vs, H l = some (.lst vs) ∧ Tps H vs ws
/-- what the law asks of the classes, for an exception of the class at D: the words by its flags, the one that comes of it -/
structure Tw (K : PySem.W.Frag) (mg : Str → Option Value) (D : Addr) (w0 : Str) : Prop where
  isi : mg "isinstance" = none
  len : mg "len" = none
  ver : mg "ValueError" = none
  vk : PySem.W.kitOne K (.ref D) (.type "ValueError") = some true
  ex : ExcC K D
  kit : ∃ b0 b1 b2 b3 b4 b5 b6 b7 b8 b9 b10 b11 : Bool, (∃ C, mg "NoPicture" = some (.ref C) ∧ PySem.W.kitOne K (.ref D) (.ref C) = some b0) ∧ (∃ C, mg "NoPlace" = some (.ref C) ∧ PySem.W.kitOne K (.ref D) (.ref C) = some b1) ∧ (∃ C, mg "NoShape" = some (.ref C) ∧ PySem.W.kitOne K (.ref D) (.ref C) = some b2) ∧ (∃ C, mg "NoSign" = some (.ref C) ∧ PySem.W.kitOne K (.ref D) (.ref C) = some b3) ∧ (∃ C, mg "NoWord" = some (.ref C) ∧ PySem.W.kitOne K (.ref D) (.ref C) = some b4) ∧ (∃ C, mg "NoLine" = some (.ref C) ∧ PySem.W.kitOne K (.ref D) (.ref C) = some b5) ∧ (∃ C, mg "NoReading" = some (.ref C) ∧ PySem.W.kitOne K (.ref D) (.ref C) = some b6) ∧ (∃ C, mg "NoTable" = some (.ref C) ∧ PySem.W.kitOne K (.ref D) (.ref C) = some b7) ∧ (∃ C, mg "NoDeed" = some (.ref C) ∧ PySem.W.kitOne K (.ref D) (.ref C) = some b8) ∧ (∃ C, mg "NoBack" = some (.ref C) ∧ PySem.W.kitOne K (.ref D) (.ref C) = some b9) ∧ (∃ C, mg "TooMany" = some (.ref C) ∧ PySem.W.kitOne K (.ref D) (.ref C) = some b10) ∧ (∃ C, mg "NoText" = some (.ref C) ∧ PySem.W.kitOne K (.ref D) (.ref C) = some b11) ∧ ([("picture", b0), ("place", b1), ("shape", b2), ("sign", b3), ("word", b4), ("line", b5), ("reading", b6), ("table", b7), ("deed", b8), ("back", b9), ("many", b10), ("text", b11)] : List (Str × Bool)).filter (·.2) = [(w0, true)]
theorem upd_at {H : Hp} {p : Addr} {o : HO} (_ : Same H (upd H p o)) : (upd H p o) p = some o := upd_same
abbrev sWord : Stmt := topS 40
theorem scWord : FnScope ["e", "marks", "met", "word", "is_it"] ["e"] (defScope sWord) := ⟨rfl, rfl, rfl, by decide +kernel, rfl, by decide +kernel, by decide +kernel⟩
def spWord (D : Addr) (w0 : Str) : Sp := fun vs H Q _ => ∃ a, vs = [.ref a] ∧ H a = some (ExI (.ref D) none a) ∧ ∀ H', Same H H' → Q (.str w0) H'
section
variable {P : Program} {w : World} {K : PySem.W.Frag} {mg : Str → Option Value} {base : Heap} {D : Addr} {w0 : Str}
theorem ok_word {f : Addr} {fd : FuncData} {k : Nat} (F : Fun K "_law_word" "_law_word" sWord f fd) (T : Tw K mg D w0) : FnOk P w K mg base CX0 (k + 1) f fd ["e"] (spWord D w0) := by
  refine F.ok scWord (fun vs H Q E h => ?_) (fun cdv A outer s H vs Q E hr h => ?_)
  · obtain ⟨a, rfl, _⟩ := h
    rfl
  · obtain ⟨a, rfl, ha, q⟩ := h
    have nd := scWord.nd
    obtain ⟨b0, b1, b2, b3, b4, b5, b6, b7, b8, b9, b10, b11, ⟨Cc0, g0, k0⟩, ⟨Cc1, g1, k1⟩, ⟨Cc2, g2, k2⟩, ⟨Cc3, g3, k3⟩, ⟨Cc4, g4, k4⟩, ⟨Cc5, g5, k5⟩, ⟨Cc6, g6, k6⟩, ⟨Cc7, g7, k7⟩, ⟨Cc8, g8, k8⟩, ⟨Cc9, g9, k9⟩, ⟨Cc10, g10, k10⟩, ⟨Cc11, g11, k11⟩, hw⟩ := T.kit
    refine ⟨_, C8.pss_cut (ps_set (i := 1) nd rfl (.inl rfl) (pe_lst (pa_cons (pe_tup (pa_cons pe_str (pa_cons (pe_callB call_isX (by rfl) T.isi PyProof.Rows.boot_isinstance (pa_cons (pv 0) (pa_cons (pe_glob (v := .ref Cc0) (by rfl) g0 rfl) pa_nil))) pa_nil))) (pa_cons (pe_tup (pa_cons pe_str (pa_cons (pe_callB call_isX (by rfl) T.isi PyProof.Rows.boot_isinstance (pa_cons (pv 0) (pa_cons (pe_glob (v := .ref Cc1) (by rfl) g1 rfl) pa_nil))) pa_nil))) pa_nil)))) (
      C8.pss_cut (ps_set (i := 1) nd rfl (.inl rfl) (pe_op op_cat (pv 1) (pe_lst (pa_cons (pe_tup (pa_cons pe_str (pa_cons (pe_callB call_isX (by rfl) T.isi PyProof.Rows.boot_isinstance (pa_cons (pv 0) (pa_cons (pe_glob (v := .ref Cc2) (by rfl) g2 rfl) pa_nil))) pa_nil))) pa_nil)))) (
      C8.pss_cut (ps_set (i := 1) nd rfl (.inl rfl) (pe_op op_cat (pv 1) (pe_lst (pa_cons (pe_tup (pa_cons pe_str (pa_cons (pe_callB call_isX (by rfl) T.isi PyProof.Rows.boot_isinstance (pa_cons (pv 0) (pa_cons (pe_glob (v := .ref Cc3) (by rfl) g3 rfl) pa_nil))) pa_nil))) (pa_cons (pe_tup (pa_cons pe_str (pa_cons (pe_callB call_isX (by rfl) T.isi PyProof.Rows.boot_isinstance (pa_cons (pv 0) (pa_cons (pe_glob (v := .ref Cc4) (by rfl) g4 rfl) pa_nil))) pa_nil))) (pa_cons (pe_tup (pa_cons pe_str (pa_cons (pe_callB call_isX (by rfl) T.isi PyProof.Rows.boot_isinstance (pa_cons (pv 0) (pa_cons (pe_glob (v := .ref Cc5) (by rfl) g5 rfl) pa_nil))) pa_nil))) pa_nil)))))) (
      C8.pss_cut (ps_set (i := 1) nd rfl (.inl rfl) (pe_op op_cat (pv 1) (pe_lst (pa_cons (pe_tup (pa_cons pe_str (pa_cons (pe_callB call_isX (by rfl) T.isi PyProof.Rows.boot_isinstance (pa_cons (pv 0) (pa_cons (pe_glob (v := .ref Cc6) (by rfl) g6 rfl) pa_nil))) pa_nil))) (pa_cons (pe_tup (pa_cons pe_str (pa_cons (pe_callB call_isX (by rfl) T.isi PyProof.Rows.boot_isinstance (pa_cons (pv 0) (pa_cons (pe_glob (v := .ref Cc7) (by rfl) g7 rfl) pa_nil))) pa_nil))) pa_nil))))) (
      C8.pss_cut (ps_set (i := 1) nd rfl (.inl rfl) (pe_op op_cat (pv 1) (pe_lst (pa_cons (pe_tup (pa_cons pe_str (pa_cons (pe_callB call_isX (by rfl) T.isi PyProof.Rows.boot_isinstance (pa_cons (pv 0) (pa_cons (pe_glob (v := .ref Cc8) (by rfl) g8 rfl) pa_nil))) pa_nil))) (pa_cons (pe_tup (pa_cons pe_str (pa_cons (pe_callB call_isX (by rfl) T.isi PyProof.Rows.boot_isinstance (pa_cons (pv 0) (pa_cons (pe_glob (v := .ref Cc9) (by rfl) g9 rfl) pa_nil))) pa_nil))) (pa_cons (pe_tup (pa_cons pe_str (pa_cons (pe_callB call_isX (by rfl) T.isi PyProof.Rows.boot_isinstance (pa_cons (pv 0) (pa_cons (pe_glob (v := .ref Cc10) (by rfl) g10 rfl) pa_nil))) pa_nil))) pa_nil)))))) (
      C8.pss_cut (ps_set (i := 1) nd rfl (.inl rfl) (pe_op op_cat (pv 1) (pe_lst (pa_cons (pe_tup (pa_cons pe_str (pa_cons (pe_callB call_isX (by rfl) T.isi PyProof.Rows.boot_isinstance (pa_cons (pv 0) (pa_cons (pe_glob (v := .ref Cc11) (by rfl) g11 rfl) pa_nil))) pa_nil))) pa_nil)))) (
      pss_cons (ps_setLc (i := 2) (own := [("word", 3), ("is_it", 4)]) (g := gTup K 2 (gCons (gName 3) (gCons (gName 4) gNil))) (by rfl) nd rfl rfl (sw_true rfl rfl rfl (by decide +kernel)) (pi_list (pv 1)) (blkOk_by (N := ["e", "marks", "met", "word", "is_it"]) (sc := defScope sWord) (by decide +kernel)) (fun _ _ _ _ _ => pg_tup rfl (pgs_cons (pg_name (i := 3) nd rfl (Or.inl rfl)) (pgs_cons (pg_name (i := 4) nd rfl (Or.inl rfl)) pgs_nil))) (fun _ _ _ _ _ => pts_one (pt_val (pv 4))) (fun _ _ _ _ _ => pv 3)) (
      pss_one (ps_ret (pe_ifExp (PW.pt (pw_and (pt_cmpR op_eq (pe_callB call_len_seq (by rfl) T.len PySem.boot_len (pa_cons (pv 2) pa_nil)) pe_int (nomark _)) (pw_and1 (pt_val (pe_callB call_isX (by rfl) T.isi PyProof.Rows.boot_isinstance (pa_cons (pv 0) (pa_cons (pe_bltn (v := .ty "ValueError") (u := .type "ValueError") (by rfl) T.ver (by decide +kernel) rfl) pa_nil))))))) (pe_ix ix_list (pv 2) pe_int (fun _ _ => rfl)) pe_str))))))))), ?_⟩
    refine ⟨fun σ' H' => ∃ l, σ' = [some (.ref a), some (.ref l), none, none, none] ∧ Same H H' ∧ Mk H' l [("picture", b0), ("place", b1)], ?_, ?_⟩
    · have ha0 : H a = some (ExI (.ref D) none a) := ha
      have S0 : Same H H := Same.refl _
      refine ⟨.ref a, rfl, a, D, .ref Cc0, .ref Cc0, b0, rfl, ha0, T.ex, (fun u r => r), k0, by show 2 ≤ sizeLine; decide, fun t0 ht0 => ?_⟩
      have s0 := same_upd (o := .tup [V.str "picture", V.bl b0]) ht0
      have S1 := S0.trans s0
      have ha1 := s0 _ _ ha0
      have f0 := upd_at (o := .tup [V.str "picture", V.bl b0]) s0
      refine ⟨.ref a, rfl, a, D, .ref Cc1, .ref Cc1, b1, rfl, ha1, T.ex, (fun u r => r), k1, by show 2 ≤ sizeLine; decide, fun t1 ht1 => ?_⟩
      have s1 := same_upd (o := .tup [V.str "place", V.bl b1]) ht1
      have S2 := S1.trans s1
      have ha2 := s1 _ _ ha1
      have f0 := s1 _ _ f0
      have f1 := upd_at (o := .tup [V.str "place", V.bl b1]) s1
      refine ⟨by show 2 ≤ sizeLine; decide, fun l hl => ?_⟩
      have sl := same_upd (o := .lst [.ref t0, .ref t1]) hl
      have tl : Tps _ [.ref t0, .ref t1] [("picture", b0), ("place", b1)] := .cons (sl _ _ f0) (.cons (sl _ _ f1) (.nil))
      have ll := upd_at (o := .lst [.ref t0, .ref t1]) sl
      exact ⟨l, rfl, S2.trans sl, _, ll, tl⟩
    · rintro _ G1 ⟨l1, rfl, sm1, vs1, hv1, tp1⟩
      refine ⟨fun σ' H' => ∃ l, σ' = [some (.ref a), some (.ref l), none, none, none] ∧ Same H H' ∧ Mk H' l [("picture", b0), ("place", b1), ("shape", b2)], ?_, ?_⟩
      · have ha0 : G1 a = some (ExI (.ref D) none a) := sm1 _ _ ha
        have S0 : Same G1 G1 := Same.refl _
        refine ⟨.ref l1, rfl, .ref a, rfl, a, D, .ref Cc2, .ref Cc2, b2, rfl, ha0, T.ex, (fun u r => r), k2, by show 2 ≤ sizeLine; decide, fun t2 ht2 => ?_⟩
        have s2 := same_upd (o := .tup [V.str "shape", V.bl b2]) ht2
        have S1 := S0.trans s2
        have ha1 := s2 _ _ ha0
        have f2 := upd_at (o := .tup [V.str "shape", V.bl b2]) s2
        refine ⟨by show 1 ≤ sizeLine; decide, fun l hl => ?_⟩
        have sl := same_upd (o := .lst [.ref t2]) hl
        have tl : Tps _ [.ref t2] [("shape", b2)] := .cons (sl _ _ f2) (.nil)
        have ll := upd_at (o := .lst [.ref t2]) sl
        have hl0 := sl _ _ (S1 _ _ hv1)
        have tp0 := (tp1.same S1).same sl
        have ln0 := tp0.len
        refine ⟨l1, l, _, _, rfl, rfl, hl0, ll, ?_, fun p hp => ?_⟩
        · rw [ln0]
          show 3 ≤ sizeLine
          decide
        · have sp := same_upd (o := .lst (vs1 ++ [.ref t2])) hp
          exact ⟨p, rfl, ((sm1.trans S1).trans sl).trans sp, _, upd_at sp, (tp0.app tl).same sp⟩
      · rintro _ G2 ⟨l2, rfl, sm2, vs2, hv2, tp2⟩
        refine ⟨fun σ' H' => ∃ l, σ' = [some (.ref a), some (.ref l), none, none, none] ∧ Same H H' ∧ Mk H' l [("picture", b0), ("place", b1), ("shape", b2), ("sign", b3), ("word", b4), ("line", b5)], ?_, ?_⟩
        · have ha0 : G2 a = some (ExI (.ref D) none a) := sm2 _ _ ha
          have S0 : Same G2 G2 := Same.refl _
          refine ⟨.ref l2, rfl, .ref a, rfl, a, D, .ref Cc3, .ref Cc3, b3, rfl, ha0, T.ex, (fun u r => r), k3, by show 2 ≤ sizeLine; decide, fun t3 ht3 => ?_⟩
          have s3 := same_upd (o := .tup [V.str "sign", V.bl b3]) ht3
          have S1 := S0.trans s3
          have ha1 := s3 _ _ ha0
          have f3 := upd_at (o := .tup [V.str "sign", V.bl b3]) s3
          refine ⟨.ref a, rfl, a, D, .ref Cc4, .ref Cc4, b4, rfl, ha1, T.ex, (fun u r => r), k4, by show 2 ≤ sizeLine; decide, fun t4 ht4 => ?_⟩
          have s4 := same_upd (o := .tup [V.str "word", V.bl b4]) ht4
          have S2 := S1.trans s4
          have ha2 := s4 _ _ ha1
          have f3 := s4 _ _ f3
          have f4 := upd_at (o := .tup [V.str "word", V.bl b4]) s4
          refine ⟨.ref a, rfl, a, D, .ref Cc5, .ref Cc5, b5, rfl, ha2, T.ex, (fun u r => r), k5, by show 2 ≤ sizeLine; decide, fun t5 ht5 => ?_⟩
          have s5 := same_upd (o := .tup [V.str "line", V.bl b5]) ht5
          have S3 := S2.trans s5
          have ha3 := s5 _ _ ha2
          have f3 := s5 _ _ f3
          have f4 := s5 _ _ f4
          have f5 := upd_at (o := .tup [V.str "line", V.bl b5]) s5
          refine ⟨by show 3 ≤ sizeLine; decide, fun l hl => ?_⟩
          have sl := same_upd (o := .lst [.ref t3, .ref t4, .ref t5]) hl
          have tl : Tps _ [.ref t3, .ref t4, .ref t5] [("sign", b3), ("word", b4), ("line", b5)] := .cons (sl _ _ f3) (.cons (sl _ _ f4) (.cons (sl _ _ f5) (.nil)))
          have ll := upd_at (o := .lst [.ref t3, .ref t4, .ref t5]) sl
          have hl0 := sl _ _ (S3 _ _ hv2)
          have tp0 := (tp2.same S3).same sl
          have ln0 := tp0.len
          refine ⟨l2, l, _, _, rfl, rfl, hl0, ll, ?_, fun p hp => ?_⟩
          · rw [ln0]
            show 6 ≤ sizeLine
            decide
          · have sp := same_upd (o := .lst (vs2 ++ [.ref t3, .ref t4, .ref t5])) hp
            exact ⟨p, rfl, ((sm2.trans S3).trans sl).trans sp, _, upd_at sp, (tp0.app tl).same sp⟩
        · rintro _ G3 ⟨l3, rfl, sm3, vs3, hv3, tp3⟩
          refine ⟨fun σ' H' => ∃ l, σ' = [some (.ref a), some (.ref l), none, none, none] ∧ Same H H' ∧ Mk H' l [("picture", b0), ("place", b1), ("shape", b2), ("sign", b3), ("word", b4), ("line", b5), ("reading", b6), ("table", b7)], ?_, ?_⟩
          · have ha0 : G3 a = some (ExI (.ref D) none a) := sm3 _ _ ha
            have S0 : Same G3 G3 := Same.refl _
            refine ⟨.ref l3, rfl, .ref a, rfl, a, D, .ref Cc6, .ref Cc6, b6, rfl, ha0, T.ex, (fun u r => r), k6, by show 2 ≤ sizeLine; decide, fun t6 ht6 => ?_⟩
            have s6 := same_upd (o := .tup [V.str "reading", V.bl b6]) ht6
            have S1 := S0.trans s6
            have ha1 := s6 _ _ ha0
            have f6 := upd_at (o := .tup [V.str "reading", V.bl b6]) s6
            refine ⟨.ref a, rfl, a, D, .ref Cc7, .ref Cc7, b7, rfl, ha1, T.ex, (fun u r => r), k7, by show 2 ≤ sizeLine; decide, fun t7 ht7 => ?_⟩
            have s7 := same_upd (o := .tup [V.str "table", V.bl b7]) ht7
            have S2 := S1.trans s7
            have ha2 := s7 _ _ ha1
            have f6 := s7 _ _ f6
            have f7 := upd_at (o := .tup [V.str "table", V.bl b7]) s7
            refine ⟨by show 2 ≤ sizeLine; decide, fun l hl => ?_⟩
            have sl := same_upd (o := .lst [.ref t6, .ref t7]) hl
            have tl : Tps _ [.ref t6, .ref t7] [("reading", b6), ("table", b7)] := .cons (sl _ _ f6) (.cons (sl _ _ f7) (.nil))
            have ll := upd_at (o := .lst [.ref t6, .ref t7]) sl
            have hl0 := sl _ _ (S2 _ _ hv3)
            have tp0 := (tp3.same S2).same sl
            have ln0 := tp0.len
            refine ⟨l3, l, _, _, rfl, rfl, hl0, ll, ?_, fun p hp => ?_⟩
            · rw [ln0]
              show 8 ≤ sizeLine
              decide
            · have sp := same_upd (o := .lst (vs3 ++ [.ref t6, .ref t7])) hp
              exact ⟨p, rfl, ((sm3.trans S2).trans sl).trans sp, _, upd_at sp, (tp0.app tl).same sp⟩
          · rintro _ G4 ⟨l4, rfl, sm4, vs4, hv4, tp4⟩
            refine ⟨fun σ' H' => ∃ l, σ' = [some (.ref a), some (.ref l), none, none, none] ∧ Same H H' ∧ Mk H' l [("picture", b0), ("place", b1), ("shape", b2), ("sign", b3), ("word", b4), ("line", b5), ("reading", b6), ("table", b7), ("deed", b8), ("back", b9), ("many", b10)], ?_, ?_⟩
            · have ha0 : G4 a = some (ExI (.ref D) none a) := sm4 _ _ ha
              have S0 : Same G4 G4 := Same.refl _
              refine ⟨.ref l4, rfl, .ref a, rfl, a, D, .ref Cc8, .ref Cc8, b8, rfl, ha0, T.ex, (fun u r => r), k8, by show 2 ≤ sizeLine; decide, fun t8 ht8 => ?_⟩
              have s8 := same_upd (o := .tup [V.str "deed", V.bl b8]) ht8
              have S1 := S0.trans s8
              have ha1 := s8 _ _ ha0
              have f8 := upd_at (o := .tup [V.str "deed", V.bl b8]) s8
              refine ⟨.ref a, rfl, a, D, .ref Cc9, .ref Cc9, b9, rfl, ha1, T.ex, (fun u r => r), k9, by show 2 ≤ sizeLine; decide, fun t9 ht9 => ?_⟩
              have s9 := same_upd (o := .tup [V.str "back", V.bl b9]) ht9
              have S2 := S1.trans s9
              have ha2 := s9 _ _ ha1
              have f8 := s9 _ _ f8
              have f9 := upd_at (o := .tup [V.str "back", V.bl b9]) s9
              refine ⟨.ref a, rfl, a, D, .ref Cc10, .ref Cc10, b10, rfl, ha2, T.ex, (fun u r => r), k10, by show 2 ≤ sizeLine; decide, fun t10 ht10 => ?_⟩
              have s10 := same_upd (o := .tup [V.str "many", V.bl b10]) ht10
              have S3 := S2.trans s10
              have ha3 := s10 _ _ ha2
              have f8 := s10 _ _ f8
              have f9 := s10 _ _ f9
              have f10 := upd_at (o := .tup [V.str "many", V.bl b10]) s10
              refine ⟨by show 3 ≤ sizeLine; decide, fun l hl => ?_⟩
              have sl := same_upd (o := .lst [.ref t8, .ref t9, .ref t10]) hl
              have tl : Tps _ [.ref t8, .ref t9, .ref t10] [("deed", b8), ("back", b9), ("many", b10)] := .cons (sl _ _ f8) (.cons (sl _ _ f9) (.cons (sl _ _ f10) (.nil)))
              have ll := upd_at (o := .lst [.ref t8, .ref t9, .ref t10]) sl
              have hl0 := sl _ _ (S3 _ _ hv4)
              have tp0 := (tp4.same S3).same sl
              have ln0 := tp0.len
              refine ⟨l4, l, _, _, rfl, rfl, hl0, ll, ?_, fun p hp => ?_⟩
              · rw [ln0]
                show 11 ≤ sizeLine
                decide
              · have sp := same_upd (o := .lst (vs4 ++ [.ref t8, .ref t9, .ref t10])) hp
                exact ⟨p, rfl, ((sm4.trans S3).trans sl).trans sp, _, upd_at sp, (tp0.app tl).same sp⟩
            · rintro _ G5 ⟨l5, rfl, sm5, vs5, hv5, tp5⟩
              refine ⟨fun σ' H' => ∃ l, σ' = [some (.ref a), some (.ref l), none, none, none] ∧ Same H H' ∧ Mk H' l [("picture", b0), ("place", b1), ("shape", b2), ("sign", b3), ("word", b4), ("line", b5), ("reading", b6), ("table", b7), ("deed", b8), ("back", b9), ("many", b10), ("text", b11)], ?_, ?_⟩
              · have ha0 : G5 a = some (ExI (.ref D) none a) := sm5 _ _ ha
                have S0 : Same G5 G5 := Same.refl _
                refine ⟨.ref l5, rfl, .ref a, rfl, a, D, .ref Cc11, .ref Cc11, b11, rfl, ha0, T.ex, (fun u r => r), k11, by show 2 ≤ sizeLine; decide, fun t11 ht11 => ?_⟩
                have s11 := same_upd (o := .tup [V.str "text", V.bl b11]) ht11
                have S1 := S0.trans s11
                have ha1 := s11 _ _ ha0
                have f11 := upd_at (o := .tup [V.str "text", V.bl b11]) s11
                refine ⟨by show 1 ≤ sizeLine; decide, fun l hl => ?_⟩
                have sl := same_upd (o := .lst [.ref t11]) hl
                have tl : Tps _ [.ref t11] [("text", b11)] := .cons (sl _ _ f11) (.nil)
                have ll := upd_at (o := .lst [.ref t11]) sl
                have hl0 := sl _ _ (S1 _ _ hv5)
                have tp0 := (tp5.same S1).same sl
                have ln0 := tp0.len
                refine ⟨l5, l, _, _, rfl, rfl, hl0, ll, ?_, fun p hp => ?_⟩
                · rw [ln0]
                  show 12 ≤ sizeLine
                  decide
                · have sp := same_upd (o := .lst (vs5 ++ [.ref t11])) hp
                  exact ⟨p, rfl, ((sm5.trans S1).trans sl).trans sp, _, upd_at sp, (tp0.app tl).same sp⟩
              · rintro _ G6 ⟨l6, rfl, sm6, vs6, hv6, tp6⟩
                have ln := tp6.len
                have ln' : vs6.length = 12 := ln
                refine ⟨.ref l6, rfl, l6, rfl, ⟨_, SqL.of hv6⟩, fun Dd hDd => lc_list (K := K) (a := l6) (xs := vs6) (fun i H2 => Same G6 H2 ∧ H2 Dd = some (.lst (((([("picture", b0), ("place", b1), ("shape", b2), ("sign", b3), ("word", b4), ("line", b5), ("reading", b6), ("table", b7), ("deed", b8), ("back", b9), ("many", b10), ("text", b11)] : List (Str × Bool)).take i).filter (·.2)).map fun p => V.str p.1))) ⟨same_upd hDd, upd_same⟩ (fun i H2 _ z => SqL.of (z.1 _ _ hv6)) ?_ ?_⟩
                · rintro i x H2 hi ⟨sm, h2⟩
                  obtain ⟨t, w1, b1, rfl, hw1, ht⟩ := tp6.get hi
                  have hil : i < 12 := by
                    rcases Nat.lt_or_ge i vs6.length with z | z
                    · omega
                    · rw [List.getElem?_eq_none z] at hi
                      cases hi
                  refine ⟨t, [.str w1, .bl b1], rfl, SqT.of (sm _ _ ht), rfl, .str w1, [.bl b1], rfl, .bl b1, [], rfl, rfl, rfl, .bl b1, rfl, b1, rfl, ?_⟩
                  have tk := take_snoc hw1
                  cases b1 with
                  | false =>
                    refine iteF ⟨sm, ?_⟩
                    rw [tk, List.filter_append, List.map_append]
                    simpa using h2
                  | true =>
                    refine iteT ⟨.str w1, rfl, _, h2, ?_, ?_, ?_⟩
                    · rw [List.length_map]
                      refine Nat.lt_of_le_of_lt (List.length_filter_le _ _) ?_
                      rw [List.length_take]
                      exact small1000 (by omega)
                    · exact fun b o e => by
                        rw [upd_ne (ne_of_none e hDd)]
                        exact sm _ _ e
                    · rw [upd_same, tk, List.filter_append, List.map_append]
                      rfl
                · rintro H2 ⟨sm, h2⟩
                  have e12 : (([("picture", b0), ("place", b1), ("shape", b2), ("sign", b3), ("word", b4), ("line", b5), ("reading", b6), ("table", b7), ("deed", b8), ("back", b9), ("many", b10), ("text", b11)] : List (Str × Bool)).take vs6.length) = ([("picture", b0), ("place", b1), ("shape", b2), ("sign", b3), ("word", b4), ("line", b5), ("reading", b6), ("table", b7), ("deed", b8), ("back", b9), ("many", b10), ("text", b11)] : List (Str × Bool)) := by
                    rw [ln']
                    rfl
                  rw [e12, hw] at h2
                  refine ⟨.ref Dd, rfl, Dd, _, rfl, .inl (SqL.of h2), rfl, _, rfl, iteT ?_⟩
                  refine ⟨.ref a, rfl, a, D, .ty "ValueError", .type "ValueError", true, rfl, (sm6.trans sm) _ _ ha, T.ex, (fun u r => r), T.vk, true, rfl, iteT ?_⟩
                  exact ⟨.ref Dd, rfl, Dd, _, 0, .str w0, rfl, rfl, SqL.of h2, atI_nat (j := 0) rfl, q _ (sm6.trans sm)⟩
end
end Dt
/-! lambdas as values: made, kept under watch, called through a def -/
namespace L2X
open PySem PySem.Spec PyProof.Rows L2 LamX
/-- the lambda of these cells stands at f, its code at c -/
def CloO (q : Str) (pr : Arguments) (body : Expr) (sc : Scope) (cl : List (Str × Addr)) (c f : Addr) : HO :=
  .ext fun h => ∃ pm ctv, h.get? f = some (PySem.W.kla_obj "<lambda>" q pr body sc cl pm c ctv)
theorem cloO_ok {P : Program} {w : World} {H : Hp} {h : Heap} {q : Str} {pr : Arguments} {body : Expr} {sc : Scope} {cl : List (Str × Addr)} {c f : Addr} {pm ctv : Value}
    (e : h.get? f = some (PySem.W.kla_obj "<lambda>" q pr body sc cl pm c ctv)) : ObjOk P w H h f (CloO q pr body sc cl c f) := by
  refine ⟨⟨pm, ctv, e⟩, ⟨_, e⟩, ?_⟩
  rintro h1 h2 ⟨pm', ctv', e'⟩ k
  exact ⟨pm', ctv', k _ e'⟩
section
variable {X : Cx}
def lamQ (X : Cx) : Str := X.env.qual ++ "<lambda>"
/-- what the making of a lambda asks, and what comes of it -/
def tLamV (T : List (Addr × Str)) (X : Cx) (pr : Arguments) (body : Expr) (sc : Scope) : TE := fun _ H Q =>
  Tabs T H ∧ ∀ (f c : Addr) (H1 : Hp), ExtN H H1 → Tabs T H1 → H1 c = some (CodeO c (lamQ X)) → H1 f = none → H f = none →
    (∀ b q' pr' body' sc' cl' c', H1 b = some (CloO q' pr' body' sc' cl' c' b) → c ≠ b) → Q (.ref f) (upd H1 f (CloO (lamQ X) pr body sc (cloFrom X.env.cells sc.names []) c f))
theorem pe_lamV {T : List (Addr × Str)} {c P : Addr} {pr : Arguments} {body : Expr} {sc : Scope} {pos : Pos} (TB : TabB X.base X.mg c P) (hcode : X.env.code = .ref c) (hm : (P, lamQ X) ∈ T)
    (hu : ∀ p ∈ T, p.1 = P → p.2 = lamQ X) (L : LamS X.env.scope sc) (hdef : defaultsOf pr X.env = ([], [])) : PE X (.Lambda pr body sc pos) (tLamV T X pr body sc) := by
  constructor
  rintro pins s σ H Q I ⟨hT, h⟩
  obtain ⟨ps, hP, trip, known⟩ := hT _ hm
  have clOk := closure_ok (L.has I.ok)
  have globs : s.heap.Ns mainGlobals X.mg := I.mod.glob.keeps I.bk
  have code0 := TB.code.keeps I.bk
  have blt0 : s.heap.BuiltinsAt X.mg P := TB.bm.keeps I.bk
  have atP : s.heap.get? P = some { cls := .none, data := .fields ps } := I.hok P _ hP
  -- the end of both ways: the def object is new
  have fin : ∀ (h' : Heap) (tk : Nat) (c' : Addr) (pm ctv : Value) (H1 : Hp), s.heap.objs.size ≤ h'.objs.size →
      Inv X pins σ H1 { s with heap := h'.push (PySem.W.kla_obj "<lambda>" (lamQ X) pr body sc (cloFrom X.env.cells sc.names []) pm c' ctv), toks := tk } →
      ExtN H H1 → Tabs T H1 → H1 c' = some (CodeO c' (lamQ X)) → H1 h'.objs.size = none →
      EP X pins σ Q (.ref h'.objs.size) { s with heap := h'.push (PySem.W.kla_obj "<lambda>" (lamQ X) pr body sc (cloFrom X.env.cells sc.names []) pm c' ctv), toks := tk } := by
    intro h' tk c' pm ctv H1 big J ext tabs hc n1
    have got : (h'.push (PySem.W.kla_obj "<lambda>" (lamQ X) pr body sc (cloFrom X.env.cells sc.names []) pm c' ctv)).get? h'.objs.size = _ := Heap.get?_push_size _ rfl
    have older : ∀ {b : Addr} {o : Obj}, s.heap.get? b = some o → b ≠ h'.objs.size := fun e => Nat.ne_of_lt (Nat.lt_of_lt_of_le (Heap.lt_size e) big)
    have n0 : X.s_0.heap.get? h'.objs.size = none := Heap.get?_none_of_le (Nat.le_trans I.sz big)
    have nL : h'.objs.size ≠ X.env.locals := Nat.ne_of_gt (Nat.lt_of_lt_of_le I.lt big)
    have np : ∀ p ∈ X.pn ++ pins, p.1 ≠ h'.objs.size := fun p hp => older (I.pin p hp).1
    have apart : ∀ b q' pr' body' sc' cl' c2, H1 b = some (CloO q' pr' body' sc' cl' c2 b) → c' ≠ b := by
      rintro b q' pr' body' sc' cl' c2 hb rfl
      obtain ⟨⟨pm2, ct2, e1⟩, _⟩ := J.hok c' _ hb
      obtain ⟨⟨oc, vs, t, e2, e3, _⟩, _⟩ := J.hok c' _ hc
      rw [e1] at e2
      cases e2
      cases e3
    refine ⟨.ref h'.objs.size, _, adopt J got (fun v z => ?_) n1 nL n0 np (cloO_ok got), rfl, h _ c' H1 ext tabs hc n1 (I.hok.fresh big) apart⟩
    cases z
  refine PySem.W.kla_eval hdef ?_
  cases among : codeAmong pos ps.toList with
  | some cv =>
    obtain ⟨c', rfl, hc'⟩ := known pos cv among
    refine PySem.W.kla_makeFunctionHit (mg := X.mg) (c := c) (P := P) (ps := ps) clOk I.ok.glob globs hcode code0 atP trip among blt0 ?_
    intro ctv h' tk keeps big
    exact fin h' tk c' _ ctv H big (I.kept fun b o e => Heap.get?_push_of_some _ (keeps b o e)) (ExtN.refl H) hT hc' (I.hok.fresh big)
  | none =>
    refine PySem.W.kla_makeFunction (mg := X.mg) (c := c) (P := P) (ps := ps) clOk I.ok.glob globs hcode code0 atP trip among TB.gP blt0 ?_
    intro c' ctv h' tk keeps ge lt rec tab
    obtain ⟨c2, oc, vs, t, e2, hoc, hd, hv⟩ := rec
    cases e2
    have big : s.heap.objs.size ≤ h'.objs.size := Nat.le_of_lt (Nat.lt_of_le_of_lt ge lt)
    have nc : H c' = none := I.hok.fresh ge
    have nPc : P ≠ c' := ne_of_none hP nc
    have J := inv_table (t' := tk) (more := #[rawInt pos.line, rawInt pos.col, .ref c']) (q := lamQ X) I hP
      (h' := h'.push (PySem.W.kla_obj "<lambda>" (lamQ X) pr body sc (cloFrom X.env.cells sc.names []) ((X.mg "__name__").getD .none) c' ctv))
      (fun b o hb e => Heap.get?_push_of_some _ (keeps b o hb e)) (Heap.get?_push_of_some _ tab) ge ⟨oc, vs, t, Heap.get?_push_of_some _ hoc, hd, hv⟩
    have ext : ExtN H (upd (upd H P (.tbl (ps ++ #[rawInt pos.line, rawInt pos.col, .ref c']))) c' (CodeO c' (lamQ X))) := by
      intro b o e notTab
      have nb : b ≠ P := by
        rintro rfl
        rw [hP] at e
        cases e
        exact notTab ps rfl
      rw [upd_ne (ne_of_none e nc), upd_ne nb]
      exact e
    have lst : (ps ++ #[rawInt pos.line, rawInt pos.col, .ref c']).toList = ps.toList ++ [rawInt pos.line, rawInt pos.col, .ref c'] := by simp
    refine fin h' tk c' _ ctv _ big J ext ?_ upd_same ?_
    · intro p hp
      by_cases hb : p.1 = P
      · refine ⟨ps ++ #[rawInt pos.line, rawInt pos.col, .ref c'], ?_, ?_, ?_⟩
        · rw [hb, upd_ne nPc, upd_same]
        · rw [lst]
          exact PySem.TriplesOk_snoc _ _ _ _ trip
        · intro p' cv hcv
          rw [hu p hp hb]
          rw [lst] at hcv
          cases among_app _ trip hcv with
          | inl z =>
            obtain ⟨c0, e1, e2⟩ := known p' cv z
            exact ⟨c0, e1, ext _ _ e2 codeO_ne⟩
          | inr z => exact ⟨c', z, upd_same⟩
      · obtain ⟨ps', a1, a2, a3⟩ := hT p hp
        refine ⟨ps', ?_, a2, ?_⟩
        · rw [upd_ne (ne_of_none a1 nc), upd_ne hb]
          exact a1
        · intro p' cv hcv
          obtain ⟨c0, e1, e2⟩ := a3 p' cv hcv
          exact ⟨c0, e1, ext _ _ e2 codeO_ne⟩
    · have n1 : h'.objs.size ≠ c' := Nat.ne_of_gt lt
      have n2 : h'.objs.size ≠ P := Nat.ne_of_gt (Nat.lt_of_lt_of_le (Heap.lt_size atP) big)
      rw [upd_ne n1, upd_ne n2]
      exact I.hok.fresh big
/-- a def that calls what it gets, a; TT: what it makes of the lambda's reading (with room for calls of its own) -/
def GivesR (X : Cx) (k : Nat) (Ng : List Str) (x : Str) (sg : Scope) (g : Addr) (cdg : Value) (bg : List Stmt) (a : Str) (q : Str) (TT : (XK → Hp → VK → Prop) → Hp → VK → Prop) : Prop :=
  ∀ (f c : Addr) (s : Shared) (H : Hp) (Q : VK) (tl : XK → Hp → VK → Prop), Room k (X.A.deeper (envOfC x sg s.heap.objs.size g cdg)) →
    (∀ (W : WX) (pn : List (Addr × Obj)) (xe : Value → Shared → Prop) (E : XK) (q1 q2 : Pos),
      Takes ((cxOf L2.CX0 X.prog X.w X.K X.mg X.base Ng x sg g cdg X.A X.stack s H L2.E0).tr pn xe) W → (∀ cls d σ' H', E cls d H' → W cls d σ' H') →
      PE ((cxOf L2.CX0 X.prog X.w X.K X.mg X.base Ng x sg g cdg X.A X.stack s H L2.E0).tr pn xe) (.Call (.Name a q1) [] [] q2)
        (fun σZ HZ Q => σZ[0]? = some (some (.ref f)) ∧ HZ c = some (CodeO c q) ∧ tl E HZ Q)) →
    H c = some (CodeO c q) → TT tl H Q →
    ∃ t, PSs (cxOf L2.CX0 X.prog X.w X.K X.mg X.base Ng x sg g cdg X.A X.stack s H L2.E0).nox bg t ∧ t { nx := fun _ H' => Q .non H', rt := Q } (L2.start Ng [.ref f]) H
/-- f(w) in a comprehension's block, w one of the frame's own lambdas, f a def that calls what it gets: the reading -/
def tCloCall {ι : Type} (X : Cx) (iw : Nat) (pr : ι → Arguments) (body : ι → Expr) (sc : ι → Scope) (t : ι → XK → TE) (TT : (XK → Hp → VK → Prop) → Hp → VK → Prop) (σ0 : L2.St) : TE := fun τ H Q =>
  ∃ (j : ι) (f c : Addr), τ[iw]? = some (some (.ref f)) ∧ H f = some (CloO (lamQ X) (pr j) (body j) (sc j) (cloFrom X.env.cells (sc j).names []) c f) ∧ H c = some (CodeO c (lamQ X)) ∧ c ≠ f ∧
    TT (fun E H' Q' => t j E σ0 H' Q') (delH H f) Q
theorem pe_clocall {ι : Type} {pins : List (Addr × Obj)} {σ0 : L2.St} {s1 : Shared} {H1 : Hp} {csc : Scope} {L : Addr} {cl : List (Str × Addr)} {fp : List Addr} (I1 : Inv X pins σ0 H1 s1) (hfp : ∀ b ∈ fp, FpOk X pins H1 b)
    {pr : ι → Arguments} {body : ι → Expr} {sc : ι → Scope} {t : ι → XK → TE} {TT : (XK → Hp → VK → Prop) → Hp → VK → Prop} {iw : Nat} {x a y : Str} {g : Addr} {k : Nat} {pg : Arguments} {bg : List Stmt} {sg : Scope} {dV kV doc pm cdv ct oc : Value} {an od : Option Addr}
    {osl : Array (Option Value)} {Ng : List Str} {p p' pos : Pos}
    (hg : Gl (Bk X csc s1 H1 L cl fp) x) (hm : X.mg x = some (.ref g)) (hk : PySem.W.keepIn X.K (.ref g) = true)
    (lk : X.K.lookup g = some ⟨oc, od, .func (PySem.W.fnOf x x pg bg sg dV kV doc pm an cdv ct), osl⟩) (hcg : PySem.W.codeIn X.K cdv x = true) (hb : L2.Binds X.K (PySem.W.fnOf x x pg bg sg dV kV doc pm an cdv ct) [a] [])
    (Sg : FnScope Ng [a] sg) (hNg : Ng[0]? = some a) (hva : Vis sg a) (hG : GivesR X (k + 1) Ng x sg g cdv bg a (lamQ X) TT) (hr : Room (k + 2) X.A)
    (hL : ∀ j, LamS X.env.scope (sc j)) (hbind : ∀ (j : ι) (q : Str) (cl : List (Str × Addr)) (pm cv ctv : Value), bindArgs (PySem.W.kla_fn "<lambda>" q (pr j) (body j) (sc j) cl pm cv ctv) ⟨[], []⟩ = pure [])
    (hbody : ∀ (j : ι) (A : Around) (outer : List Env) (s : Shared) (H : Hp) (E : XK) (f c : Addr), Room k (A.deeper (lamEnv X (sc j) s.heap.objs.size f c)) → PE (lamCx X A outer s H E (sc j) f c) (body j) (t j E))
    (hw : PE (Bk X csc s1 H1 L cl fp) (.Name y p') (tVar iw))
    (hdb : (x == ("__debug__" : Str)) = false := by decide) (hd : (a == ("__debug__" : Str)) = false := by decide) (hcd : (a == ("__classdict__" : Str)) = false := by decide) :
    PE (Bk X csc s1 H1 L cl fp) (.Call (.Name x p) [.Name y p'] [] pos) (tCloCall X iw pr body sc t TT σ0) := by
  constructor
  rintro pj s τ H Q B ⟨j, f, c, slot, clo, code, neC, h⟩
  refine wpAny_Call_Name_kw (ld_glob B hg hm ?_ hdb)
  have args : PA (Bk X csc s1 H1 L cl fp) [.Name y p'] (tCons (tVar iw) tNil) := pa_cons hw pa_nil
  refine PySem.W.callWith_K (h₀ := X.base) B.ok.mod.kin hk (thn (args.run pos pj s τ H (fun vs G => vs = [.ref f] ∧ G = H) B ⟨.ref f, slot, rfl, rfl⟩) ?_) (by rfl) (by rfl)
  rintro us s2 ⟨vs, G, B2, rel, rfl, rfl⟩
  refine ⟨B2.kIn, ?_⟩
  cases rel with
  | cons r0 rn =>
    cases rn
    cases r0
    have B3 := letgo B2 clo
    obtain ⟨⟨pm', ctv', got⟩, _⟩ := B2.hok f _ clo
    have offF : f ∉ frs X.stack := by
      intro hm'
      have z := B2.stkFree f hm'
      rw [clo] at z
      cases z
    have Iout : Inv X pins σ0 (delH G f) s2 := out_of I1 hfp B3
    have rc : codeAny (model X.prog X.w) X.A (.call (.ref g) ⟨[.ref f], []⟩) (CR L2.CX0 X.stack X.prog X.w (delH G f) s2 Q L2.E0) s2 := by
      refine run_ofS (N := Ng) (ps := [a]) (us := [.ref f]) (vs := [.ref f]) lk hcg Sg hr B3.env0 (hb s2 [.ref f] B3.kIn rfl) (.cons rfl .nil) rfl ?_
      intro hr'
      obtain ⟨t', ht', hq'⟩ := hG f c s2 (delH G f) Q (fun E H' Q' => t j E σ0 H' Q') hr'
        (fun W pn xe E q1 q2 tk hW => pe_act (i := 0) Iout (hL j) got delH_same offF (hbind j _ _ _ _ _) tk hW hr' (fun A outer s H hr2 => hbody j A outer s H E f c hr2) hNg hva hd hcd)
        (by rw [delH_ne neC]; exact code) h
      exact ⟨t', ht'.nox, hq'⟩
    refine wpAny_call (codeAny_mono rc ?_)
    rintro r s3 hq
    cases r with
    | error e => exact (show False from hq).elim
    | ok fl =>
      cases fl with
      | ret u => exact B3.after hq
      | next => exact False.elim hq
      | brk => exact False.elim hq
      | cont => exact False.elim hq
end
end L2X
namespace Dt
open PySem PySem.Spec PyProof.Rows L2 L2X LamX
theorem takesLen {X : Cx} {W : WX} (tk : Takes X W) : Takes X (fun cls d σ H => σ.length = X.N.length → W cls d σ H) := by
  rintro u s' ⟨a, B, sI, pins, σ, H, cls, d, e, I, nb, up, sky, na, os, ag, w⟩
  exact tk u s' ⟨a, B, sI, pins, σ, H, cls, d, e, I, nb, up, sky, na, os, ag, w I.len⟩
abbrev sRef : Stmt := topS 41
theorem scRef : FnScope ["work", "error", "e"] ["work"] (defScope sRef) := ⟨rfl, rfl, rfl, by decide +kernel, rfl, by decide +kernel, by decide +kernel⟩
/-- what _law_refused makes of a work that is refused by the class at D: the word w0 -/
def TRef (D : Addr) (w0 : Str) : (XK → Hp → VK → Prop) → Hp → VK → Prop := fun tl H Q => ∀ R : VK,
  tl (fun cls d H' => cls = .ref D ∧ d = none ∧ ∀ H'', Same H' H'' → Q (.str w0) H'') H R
theorem ref_gives {X : Cx} {k : Nat} {q w0 : Str} {g fW CD D : Addr} {fdW : FuncData} {cdg : Value}
    (GW : FnOk X.prog X.w X.K X.mg X.base CX0 (k + 1) fW fdW ["e"] (spWord D w0)) (mW : X.mg "_law_word" = some (.ref fW)) (kW : PySem.W.keepIn X.K (.ref fW) = true) (bW : Binds X.K fdW ["e"] [])
    (mD : X.mg "DotError" = some (.ref CD)) (exm : PySem.W.exmOne X.K (.ref D) (.ref CD) = some true) :
    GivesR X (k + 1) ["work", "error", "e"] "_law_refused" (defScope sRef) g cdg (defBody sRef) "work" q (TRef D w0) := by
  intro f c s H Q tl hr act hc h
  have nd := scRef.nd
  refine ⟨_, pss_cons (ps_set (i := 1) nd rfl (.inl rfl) pe_non)
    (C8.pss_cut (ps_try_keep (i := 2) (c := .ref CD) (ts := fun a cls d => tAsg (tVar 2) (gName 1))
        (tb := fun W Dn σ H => ∃ Ech : XK, (∀ cls d σ' H', Ech cls d H' → σ'.length = 3 → W cls d σ' H') ∧ σ[0]? = some (some (.ref f)) ∧ H c = some (CodeO c q) ∧ tl Ech H (fun _ H' => Dn.nx σ H'))
        rfl rfl rfl nd rfl rfl ⟨rfl, by decide, .inl mD⟩ (fun W pn xe tk _ => ?_) (fun a oe cls d pn _ _ => pss_one (ps_set (i := 1) nd rfl (.inl rfl) (pv 2))))
      (pss_one (ps_ret (pe_ifExp (pt_cmp (pc_isN (pv 1))) pe_str (pe_call GW hr (by rfl) mW kW bW .nil pass0 (pa_cons (pv 1) pa_nil)))))), ?_⟩
  · constructor
    rintro pins s' σ H' Dn I ⟨Ech, hW, h1, h2, h3⟩
    exact (pss_one (ps_expr (act _ pn xe Ech _ _ (takesLen tk) hW))).run pins s' σ H' Dn I ⟨h1, h2, h3⟩
  · refine ⟨fun σ' H' => ∃ a y0, σ' = [y0, some (.ref a), none] ∧ H' a = some (ExI (.ref D) none a) ∧ ∀ H'', Same H' H'' → Q (.str w0) H'', ?_, ?_⟩
    · refine ⟨_, ?_, rfl, hc, h _⟩
      rintro cls d σ' H' ⟨rfl, rfl, hq⟩ hlen
      refine ⟨exm, fun a ha => ?_⟩
      match σ', hlen with
      | [y0, y1, y2], _ => exact ⟨.ref a, rfl, a, y0, rfl, upd_same, fun H'' sm => hq H'' ((same_upd ha).trans sm)⟩
    · rintro σ' H' ⟨a, y0, rfl, ha, hq⟩
      refine ⟨.ref a, rfl, _, rfl, iteF ?_⟩
      exact ⟨.ref a, rfl, a, rfl, ha, hq⟩
end Dt
namespace L2X
open PySem PySem.Spec PyProof.Rows L2
section
variable {X : Cx}
/-- a tuple once is itself -/
theorem tuple_mul1 (l : Addr) (items : Array Value) (n : Nat) (dd : Option Addr) (sl : Array (Option Value)) (u : Tok) :
    Meets (Builtin.«tuple.__mul__» ⟨[.ref l, .int 1 u], []⟩) (fun _ R s => s.heap.get? l = some { cls := .type "tuple", dict := dd, data := .seq items n, slots := sl } ∧ R (.ok (.ret (Value.ref l))) s) :=
  .of_wp fun prog w A R s h => by
    obtain ⟨hp, g, d, tk, os⟩ := s
    obtain ⟨hl, h⟩ := h
    have f1 := AutoSeq1.idx_int
    wp_walk using wpAny_loadPart' hl
    exact ⟨_, rfl, h⟩
/-- list(text) -/
theorem vals_signs : ∀ (l : List Nat) (its : List Value), l.length = its.length → (∀ (j : Nat) (v : Value), its[j]? = some v → ∃ (c : Nat) (u : Tok), l[j]? = some c ∧ v = Value.str ⟨#[c]⟩ u) → Vals (l.map fun c => V.str ⟨#[c]⟩) its
  | [], [], _, _ => .nil
  | [], _ :: _, h, _ => by cases h
  | _ :: _, [], h, _ => by cases h
  | c :: r, v :: t, h, g => by
    obtain ⟨c', u, e1, e2⟩ := g 0 v rfl
    have e3 : c = c' := Option.some.inj e1
    subst e3
    refine .cons ⟨u, e2⟩ (vals_signs r t (Nat.succ.inj h) fun j w e => ?_)
    obtain ⟨c2, u2, e4, e5⟩ := g (j + 1) w e
    exact ⟨c2, u2, e4, e5⟩
theorem call_listS (hc : X.calm = true) : CallR X (.type "list") (fun xs H Q => ∃ x : Str, xs = [.str x] ∧ x.length ≤ sizeLine ∧ ∀ l, H l = none → Q (.ref l) (upd H l (.lst (x.cps.toList.map fun c => V.str ⟨#[c]⟩)))) := by
  intro pins s σ H xs us Q I r h
  obtain ⟨x, rfl, hx, q⟩ := h
  obtain ⟨u, rfl, t, rfl⟩ := vals1 r
  refine call_list_str (I.ok.hd hc) x t (fun h' tk acc c' keeps got it => ?_) hx
  have hl : x.cps.toList.length = acc.toList.length := by
    rw [Array.length_toList, Array.length_toList, it.1]
  have vs := vals_signs x.cps.toList acc.toList hl fun j v e => by
    obtain ⟨c, u', e1, e2⟩ := it.2 j v (by rw [← Array.getElem?_toList]; exact e)
    exact ⟨c, u', by rw [Array.getElem?_toList]; exact e1, e2⟩
  refine ⟨.ref s.heap.objs.size, _, I.laid (t' := tk) keeps (Nat.le_refl _) ?_, rfl, q _ (I.hok.fresh (Nat.le_refl _))⟩
  refine ⟨?_, acc.toList, c', vs, ?_⟩
  · rw [List.length_map]
    exact hx
  · rw [got]
/-- t * n, n from 1 on -/
def rRepA (K : PySem.W.Frag) : R2 := fun x y H Q => ∃ l k xs, x = .ref l ∧ y = .int k ∧ SqT K H l xs ∧ xs ≠ [] ∧ 1 ≤ k ∧ k ≤ 1000 ∧ xs.length ≤ 1000 ∧ (k = 1 → Q (.ref l) H) ∧ (2 ≤ k → ∀ p, H p = none → Q (.ref p) (upd H p (.tup (List.replicate k.toNat xs).flatten)))
theorem op_repA : OpR X (binaryOp .Mult) (rRepA X.K) := by
  intro pins s σ H x y v u Q I rx ry h
  obtain ⟨l, k, xs, rfl, rfl, hT, hne, h1, h2, hz, q1, q2⟩ := h
  by_cases e1 : k = 1
  · subst e1
    cases rx
    obtain ⟨t, rfl⟩ := ry
    obtain ⟨its, _, ⟨⟨cls, dd, data, sl⟩, got, hc, n, hd⟩, _⟩ := I.tuple hT
    simp only at hc hd
    subst hc hd
    have once := tuple_mul1 l its.toArray n dd sl t
    have back := int_rmul_tuple 1 t l its.toArray n dd sl
    refine wpAny_binaryOp_repeat_ref (T := "tuple") (U := "int") (by decide) ⟨_, got, rfl⟩ (fun s' => typeIs_int s' 1 t)
      noFill_tuple_mul F.fills_int_mul F.slot_int_rmul repeat_tuple F.slot_int_index.lookup ?_
    refine call_meets F.slot_int_rmul (typeIs_int s 1 t) F.entry_int_rmul (F.args_int_rmul_2 _ _) back ⟨got, rfl, ⟨_, got, rfl⟩, ?_⟩
    refine call_meets F.slot_tuple_mul ⟨_, got, rfl⟩ F.entry_tuple_mul (F.args_tuple_mul_2 _ _) once ⟨got, ?_⟩
    exact ⟨.ref l, H, I, rfl, q1 rfl⟩
  · exact op_repT pins s σ H _ _ v u Q I rx ry ⟨l, k, xs, rfl, rfl, hT, hne, by omega, h2, hz, q2 (by omega)⟩
end
end L2X
namespace Dt
open PySem PySem.Spec PyProof.Rows L2 L2X
open SX (S)
/-! ### rows and pictures by their signs -/
theorem cnt_two : ∀ l : List Nat, cnt 35 l + cnt 46 l ≤ l.length ∧ (cnt 35 l + cnt 46 l = l.length ↔ ∀ c ∈ l, c = 35 ∨ c = 46)
  | [] => ⟨by rw [cnt_nil, cnt_nil]; exact Int.le_refl _, by rw [cnt_nil, cnt_nil]; exact ⟨fun _ _ h => (List.not_mem_nil h).elim, fun _ => rfl⟩⟩
  | n :: r => by
    obtain ⟨h1, h2⟩ := cnt_two r
    rw [cnt_cons, cnt_cons, List.length_cons]
    have e : ∀ c ∈ n :: r, (c = 35 ∨ c = 46) ↔ True ∧ (c = 35 ∨ c = 46) := fun c _ => by simp
    by_cases a : n = 35
    · subst a
      rw [if_pos rfl, if_neg (by decide)]
      refine ⟨by omega, ⟨fun z => ?_, fun z => ?_⟩⟩
      · have z2 := h2.mp (by omega)
        intro c hc
        rcases List.mem_cons.mp hc with q | q
        · exact .inl q
        · exact z2 c q
      · have := h2.mpr fun c hc => z c (List.mem_cons_of_mem _ hc)
        omega
    · by_cases b : n = 46
      · subst b
        rw [if_neg (by decide), if_pos rfl]
        refine ⟨by omega, ⟨fun z => ?_, fun z => ?_⟩⟩
        · have z2 := h2.mp (by omega)
          intro c hc
          rcases List.mem_cons.mp hc with q | q
          · exact .inr q
          · exact z2 c q
        · have := h2.mpr fun c hc => z c (List.mem_cons_of_mem _ hc)
          omega
      · rw [if_neg a, if_neg b]
        refine ⟨by omega, ⟨fun z => by omega, fun z => ?_⟩⟩
        rcases z n List.mem_cons_self with q | q
        · exact absurd q a
        · exact absurd q b
theorem rowOk_S (l : List Nat) : rowOk (.str (S l)) = (decide (1 ≤ l.length) && decide (l.length ≤ 120) && decide (∀ c ∈ l, c = 35 ∨ c = 46)) := by
  have e : decide (Txt.count (S l) "#" + Txt.count (S l) "." = ((S l).length : Int)) = decide (∀ c ∈ l, c = 35 ∨ c = 46) := by
    rw [s_hash, s_dot, count_cnt, count_cnt, SX.S_len]
    exact Bool.eq_iff_iff.mpr ⟨fun h => decide_eq_true ((cnt_two l).2.mp (of_decide_eq_true h)), fun h => decide_eq_true ((cnt_two l).2.mpr (of_decide_eq_true h))⟩
  rw [rowOk_str, e, SX.S_len]
theorem rowOk_rv {wide : Nat} {l : List Nat} (h : RowR wide l) (w0 : 1 ≤ wide) (w1 : wide ≤ 120) : rowOk (rv l) = true := by
  unfold rv
  rw [rowOk_S, h.len, decide_eq_true w0, decide_eq_true w1, decide_eq_true h.sg]
  rfl
theorem rowOk_bad {l : List Nat} {c : Nat} (hc : c ∈ l) (h1 : c ≠ 35) (h2 : c ≠ 46) : rowOk (.str (S l)) = false := by
  rw [rowOk_S, decide_eq_false (p := ∀ c ∈ l, c = 35 ∨ c = 46), Bool.and_false]
  intro z
  rcases z c hc with q | q
  · exact h1 q
  · exact h2 q
theorem rowOk_len {l : List Nat} (h : l.length = 0 ∨ 120 < l.length) : rowOk (.str (S l)) = false := by
  rw [rowOk_S]
  rcases h with h | h
  · rw [decide_eq_false (by omega : ¬ 1 ≤ l.length)]
    rfl
  · rw [decide_eq_false (by omega : ¬ l.length ≤ 120), Bool.and_false, Bool.false_and]
theorem lenV_S (l : List Nat) : lenV (.str (S l)) = (l.length : Int) := by
  show ((S l).length : Int) = _
  rw [SX.S_len]
theorem picOk_pic {high wide : Nat} {rs : List (List Nat)} (h : PicR high wide rs) : picOk (rs.map rv) = true := by
  unfold picOk
  have a1 : decide (1 ≤ (rs.map rv).length) = true := decide_eq_true (by rw [List.length_map, h.len]; exact h.h0)
  have a2 : decide ((rs.map rv).length ≤ 60) = true := decide_eq_true (by rw [List.length_map, h.len]; exact h.h1)
  have a3 : (rs.map rv).all rowOk = true := List.all_eq_true.mpr fun y hy => by
    obtain ⟨l, hl, rfl⟩ := List.mem_map.mp hy
    exact rowOk_rv (h.row l hl) h.w0 h.w1
  have len : ∀ y ∈ rs.map rv, lenV y = (wide : Int) := fun y hy => by
    obtain ⟨l, hl, rfl⟩ := List.mem_map.mp hy
    unfold rv
    rw [lenV_S, (h.row l hl).len]
  have a4 : ((rs.map rv).all fun y => decide (lenV y = lenV ((rs.map rv).headD .non))) = true := List.all_eq_true.mpr fun y hy => by
    refine decide_eq_true ?_
    rw [len y hy]
    cases e : rs.map rv with
    | nil =>
      rw [e] at hy
      cases hy
    | cons x r =>
      have z := len x (by rw [e]; exact List.mem_cons_self)
      exact z.symm
  rw [a1, a2, a3, a4]
  rfl
/-- one row put in the place of another: no picture -/
theorem picOk_odd {high wide r : Nat} {rs : List (List Nat)} {one : V} (h : PicR high wide rs) (hr : r < high) (b : rowOk one = false ∨ (2 ≤ high ∧ lenV one ≠ (wide : Int))) :
    picOk ((rs.map rv).take r ++ [one] ++ (rs.map rv).drop (r + 1)) = false := by
  cases e : picOk ((rs.map rv).take r ++ [one] ++ (rs.map rv).drop (r + 1)) with
  | false => rfl
  | true =>
    exfalso
    unfold picOk at e
    rw [Bool.and_eq_true, Bool.and_eq_true, Bool.and_eq_true] at e
    obtain ⟨⟨⟨_, _⟩, e3⟩, e4⟩ := e
    have m1 : one ∈ (rs.map rv).take r ++ [one] ++ (rs.map rv).drop (r + 1) := by simp
    rcases b with b | ⟨b1, b2⟩
    · have z := List.all_eq_true.mp e3 one m1
      rw [b] at z
      cases z
    · have len : ∀ y ∈ rs.map rv, lenV y = (wide : Int) := fun y hy => by
        obtain ⟨l, hl, rfl⟩ := List.mem_map.mp hy
        unfold rv
        rw [lenV_S, (h.row l hl).len]
      obtain ⟨y, m2, hy⟩ : ∃ y, y ∈ (rs.map rv).take r ++ [one] ++ (rs.map rv).drop (r + 1) ∧ y ∈ rs.map rv := by
        have hl : (rs.map rv).length = high := by rw [List.length_map, h.len]
        by_cases hr0 : r = 0
        · subst hr0
          have : 1 < (rs.map rv).length := by omega
          refine ⟨(rs.map rv)[1], ?_, List.getElem_mem _⟩
          refine List.mem_append_right _ ?_
          exact List.mem_of_getElem? (i := 0) (by rw [List.getElem?_drop, List.getElem?_eq_getElem this])
        · have : 0 < (rs.map rv).length := by omega
          refine ⟨(rs.map rv)[0], ?_, List.getElem_mem _⟩
          refine List.mem_append_left _ (List.mem_append_left _ ?_)
          exact List.mem_of_getElem? (i := 0) (by rw [List.getElem?_take, if_pos (by omega), List.getElem?_eq_getElem this])
      have z1 := of_decide_eq_true (List.all_eq_true.mp e4 one m1)
      have z2 := of_decide_eq_true (List.all_eq_true.mp e4 y m2)
      exact b2 (z1.trans (z2.symm.trans (len y hy)))
end Dt
namespace Dt
open PySem PySem.Spec PyProof.Rows L2 L2X
open SX (S)
/-! ### tuples cut and put together, whatever objects they are -/
theorem cutV_to (xs : List V) (r : Nat) : cutV xs none (some (r : Int)) = xs.take r := by
  unfold cutV
  rw [HT.sIx_none, HT.sIx_nat, List.drop_zero, Nat.sub_zero]
  by_cases h : r ≤ xs.length
  · rw [Nat.min_eq_left h]
  · rw [Nat.min_eq_right (by omega), List.take_of_length_le (Nat.le_refl _), List.take_of_length_le (by omega)]
theorem cutV_from (xs : List V) (r : Nat) : cutV xs (some (r : Int)) none = xs.drop r := by
  unfold cutV
  rw [HT.sIx_none, HT.sIx_nat]
  by_cases h : r ≤ xs.length
  · rw [Nat.min_eq_left h, List.take_of_length_le (by rw [List.length_drop]; omega)]
  · rw [Nat.min_eq_right (by omega), List.drop_of_length_le (Nat.le_refl _), List.drop_of_length_le (by omega), List.take_nil]
theorem cutV_whole {xs : List V} {lo hi : Option Int} (h : HT.sIx xs.length 0 lo = 0 ∧ HT.sIx xs.length xs.length hi = xs.length) : cutV xs lo hi = xs := by
  unfold cutV
  rw [h.1, h.2, List.drop_zero, Nat.sub_zero, List.take_length]
theorem sl_any {K : PySem.W.Frag} {H : Hp} {a : Addr} {xs : List V} {lo hi : Option Int} {Q : VK} (h : H a = some (.tup xs)) (q : ∀ z H2, Same H H2 → H2 z = some (.tup (cutV xs lo hi)) → Q (.ref z) H2) : rSlA K (.ref a) lo hi H Q :=
  ⟨a, xs, rfl, SqT.of h, fun w => q a H (Same.refl H) (by rw [cutV_whole w]; exact h), fun _ p hp => q p _ (same_upd hp) upd_same⟩
theorem cat_any {K : PySem.W.Frag} {H : Hp} {a b : Addr} {xs ys : List V} {Q : VK} (h : H a = some (.tup xs)) (g : H b = some (.tup ys)) (hz : xs.length + ys.length ≤ sizeLine) (q : ∀ z H2, Same H H2 → H2 z = some (.tup (xs ++ ys)) → Q (.ref z) H2) :
    rCatA K (.ref a) (.ref b) H Q :=
  ⟨a, b, xs, ys, rfl, rfl, SqT.of h, SqT.of g, hz, fun e => q b H (Same.refl H) (by rw [e]; exact g), fun _ e => q a H (Same.refl H) (by rw [e, List.append_nil]; exact h), fun _ _ p hp => q p _ (same_upd hp) upd_same⟩
theorem rep_any {K : PySem.W.Frag} {H : Hp} {a : Addr} {x : V} {k : Nat} {Q : VK} (h : H a = some (.tup [x])) (h1 : 1 ≤ k) (h2 : k ≤ 1000) (q : ∀ z H2, Same H H2 → H2 z = some (.tup (List.replicate k x)) → Q (.ref z) H2) :
    rRepA K (.ref a) (.int k) H Q := by
  have flat : ∀ n : Nat, (List.replicate n [x]).flatten = List.replicate n x := by
    intro n
    induction n with
    | zero => rfl
    | succ n ih => rw [List.replicate_succ, List.flatten_cons, ih, List.replicate_succ]; rfl
  refine ⟨a, k, [x], rfl, rfl, SqT.of h, (by simp), by omega, by omega, by show 1 ≤ 1000; decide, fun e => q a H (Same.refl H) ?_, fun _ p hp => q p _ (same_upd hp) ?_⟩
  · have : k = 1 := by omega
    subst this
    exact h
  · rw [upd_same, Int.toNat_natCast, flat]
theorem rep_anyI {K : PySem.W.Frag} {H : Hp} {a : Addr} {x : V} {i : Int} {k : Nat} {Q : VK} (e : i = (k : Int)) (h : H a = some (.tup [x])) (h1 : 1 ≤ k) (h2 : k ≤ 1000) (q : ∀ z H2, Same H H2 → H2 z = some (.tup (List.replicate k x)) → Q (.ref z) H2) :
    rRepA K (.ref a) (.int i) H Q := by
  rw [e]
  exact rep_any h h1 h2 q
theorem cutS_butlast {l : List Nat} (h : 1 ≤ l.length) : cutS (S l) none (some (-1)) = S (l.take (l.length - 1)) := by
  unfold cutS
  have e : HT.sIx (S l).length (S l).length (some (-1)) = l.length - 1 := by
    rw [SX.S_len]
    show (if (-1 : Int) < 0 then ((-1 : Int) + (l.length : Int)).toNat else min (-1 : Int).toNat l.length) = _
    rw [if_pos (by decide)]
    omega
  rw [e]
  show (⟨((l.drop 0).take (l.length - 1 - 0)).toArray⟩ : Str) = _
  rw [List.drop_zero, Nat.sub_zero]
theorem cutS_tail (l : List Nat) : cutS (S l) (some 1) none = S (l.drop 1) := by
  unfold cutS
  have e : HT.sIx (S l).length 0 (some 1) = min 1 l.length := by
    rw [SX.S_len]
    exact HT.sIx_nat l.length 0 1
  rw [e, HT.sIx_none, SX.S_len]
  cases l with
  | nil => rfl
  | cons c r =>
    have m : min 1 (c :: r).length = 1 := by
      rw [List.length_cons]
      omega
    rw [m]
    show (⟨(List.take ((c :: r).length - 1) r).toArray⟩ : Str) = _
    rw [List.length_cons, Nat.add_sub_cancel, List.take_length]
    rfl
/-! ### what stays through draws -/
theorem Dn.tup {d g c a : Addr} {H H' : Hp} {xs : List V} (s : Dn d g H H') (D : Dr H d g c) (h : H a = some (.tup xs)) : H' a = some (.tup xs) := by
  obtain ⟨⟨r, t, h1⟩, ⟨gs, h2, _⟩, _, _⟩ := D
  exact s _ _ h (ne_of h h1 (by intro z; cases z)) (ne_of h h2 (by intro z; cases z))
theorem tyB_dn {K : PySem.W.Frag} {d g c : Addr} {H H' : Hp} {x : V} {T : String} (s : Dn d g H H') (D : Dr H d g c) (D' : Dr H' d g c) (t : TyB K H x T) : TyB K H' x T := by
  obtain ⟨⟨r, tt, h1⟩, ⟨gs, h2, _⟩, _, _⟩ := D
  obtain ⟨⟨r', tt', h1'⟩, ⟨gs', h2', _⟩, _, _⟩ := D'
  cases t with
  | non => exact .non
  | bl b => exact .bl b
  | int i => exact .int i
  | str x => exact .str x
  | byt b => exact .byt b
  | @lst a xs h =>
    rcases h with (h | ⟨o, h⟩) | h
    · by_cases e : a = g
      · rw [e]
        exact .lst (SqL.of h2')
      · exact .lst (SqL.of (s _ _ h (ne_of h h1 (by intro z; cases z)) e))
    · exact .lst (.inl (.inr ⟨o, s _ _ h (ne_of h h1 (by intro z; cases z)) (ne_of h h2 (by intro z; cases z))⟩))
    · exact .lst (.inr h)
  | @tup a xs h =>
    rcases h with (h | ⟨o, h⟩) | h
    · exact .tup (SqT.of (s _ _ h (ne_of h h1 (by intro z; cases z)) (ne_of h h2 (by intro z; cases z))))
    · exact .tup (.inl (.inr ⟨o, s _ _ h (ne_of h h1 (by intro z; cases z)) (ne_of h h2 (by intro z; cases z))⟩))
    · exact .tup (.inr h)
  | @dK a kvs h =>
    by_cases e : a = d
    · rw [e]
      exact .dK h1'
    · exact .dK (s _ _ h e (ne_of h h2 (by intro z; cases z)))
theorem sqT_dn {K : PySem.W.Frag} {d g c a : Addr} {H H' : Hp} {xs : List V} (s : Dn d g H H') (D : Dr H d g c) (h : SqT K H a xs) : SqT K H' a xs := by
  obtain ⟨⟨r, tt, h1⟩, ⟨gs, h2, _⟩, _, _⟩ := D
  rcases h with (h | ⟨o, h⟩) | h
  · exact SqT.of (s _ _ h (ne_of h h1 (by intro z; cases z)) (ne_of h h2 (by intro z; cases z)))
  · exact .inl (.inr ⟨o, s _ _ h (ne_of h h1 (by intro z; cases z)) (ne_of h h2 (by intro z; cases z))⟩)
  · exact .inr h
theorem Kn.dn {K : PySem.W.Frag} {d g c : Addr} {H H' : Hp} {x : V} (h : Kn K H x) (s : Dn d g H H') (D : Dr H d g c) (D' : Dr H' d g c) : Kn K H' x := by
  obtain ⟨⟨T, t, ok⟩, z⟩ := h
  exact ⟨⟨T, tyB_dn s D D' t, ok⟩, z⟩
theorem Asked.dn {K : PySem.W.Frag} {d g c : Addr} {H H' : Hp} {x : V} {b : Bool} (h : Asked K H x b) (s : Dn d g H H') (D : Dr H d g c) (D' : Dr H' d g c) : Asked K H' x b := by
  rcases h with ⟨T, t, ok, ne, e⟩ | ⟨a, xs, e, h1, h2, e2⟩
  · exact .inl ⟨T, tyB_dn s D D' t, ok, ne, e⟩
  · exact .inr ⟨a, xs, e, sqT_dn s D h1, fun l y hy => (h2 l y hy).dn s D D', e2⟩
theorem tyB_same {K : PySem.W.Frag} {H H' : Hp} {x : V} {T : String} (t : TyB K H x T) (s : Same H H') : TyB K H' x T := by
  cases t with
  | non => exact .non
  | bl b => exact .bl b
  | int i => exact .int i
  | str x => exact .str x
  | byt b => exact .byt b
  | lst h => exact .lst (s.seq h)
  | tup h => exact .tup (sameT s h)
  | dK h => exact .dK (s _ _ h)
theorem asked_same {K : PySem.W.Frag} {H H' : Hp} {x : V} {b : Bool} (h : Asked K H x b) (s : Same H H') : Asked K H' x b := by
  rcases h with ⟨T, t, ok, ne, e⟩ | ⟨a, xs, e, h1, h2, e2⟩
  · exact .inl ⟨T, tyB_same t s, ok, ne, e⟩
  · exact .inr ⟨a, xs, e, sameT s h1, fun l y hy => (h2 l y hy).same s, e2⟩
def Bad0 (K : PySem.W.Frag) (H : Hp) (o : V) : Prop := Kn K H o ∧ rowOk o = false
def Bad1 (K : PySem.W.Frag) (H : Hp) (wide : Nat) (o : V) : Prop := Kn K H o ∧ (rowOk o = false ∨ lenV o ≠ (wide : Int))
theorem kn_str {K : PySem.W.Frag} {H : Hp} {z : Str} (h : z.length ≤ sizeLine) : Kn K H (.str z) := ⟨⟨"str", .str z, rfl⟩, fun y e => by cases e; exact h⟩
/-! ### _law_odd_picture -/
abbrev sOdd : Stmt := topS 39
theorem scOdd : FnScope ["draw", "picture", "r", "wide", "row", "rows", "some", "one"] ["draw", "picture"] (defScope sOdd) := ⟨rfl, rfl, rfl, by decide +kernel, rfl, by decide +kernel, by decide +kernel⟩
def spOdd (K : PySem.W.Frag) : Sp := fun vs H Q _ => ∃ (d g c a : Addr) (high wide : Nat) (rs : List (List Nat)), vs = [.ref d, .ref a] ∧ Dr H d g c ∧ PicR high wide rs ∧ H a = some (.tup (rs.map rv)) ∧
  ∀ x H', Asked K H' x false → Dr H' d g c → Dn d g H H' → Q x H'
section
variable {P : Program} {w : World} {K : PySem.W.Frag} {mg : Str → Option Value} {base : Heap}
theorem ok_odd {f fN : Addr} {fd fdN : FuncData} {k : Nat} (F : Fun K "_law_odd_picture" "_law_odd_picture" sOdd f fd) (T : Tx mg) (GN : FnOk P w K mg base CX0 (k + 1) fN fdN ["draw", "below"] spNext) (mN : mg "_law_next" = some (.ref fN)) (kN : PySem.W.keepIn K (.ref fN) = true) (bN : Binds K fdN ["draw", "below"] []) :
    FnOk P w K mg base CX0 (k + 2) f fd ["draw", "picture"] (spOdd K) := by
  refine F.ok scOdd (fun vs H Q E h => ?_) (fun cdv A outer s H vs Q E hr h => ?_)
  · obtain ⟨d, g, c, a, high, wide, rs, rfl, _⟩ := h
    rfl
  · obtain ⟨d, g, c, a, high, wide, rs, rfl, D, pr, ha, q⟩ := h
    have hu := hu_of hr
    have nd := scOdd.nd
    refine ⟨_, C8.pss_cut (ps_asg (pe_tup (pa_cons (pe_call GN hr (by rfl) mN kN bN .nil pass0 (pa_cons (pv 0) (pa_cons (pe_callB call_len_seq (by rfl) T.len PySem.boot_len (pa_cons (pv 1) pa_nil)) pa_nil))) (pa_cons (pe_callB call_len_str (by rfl) T.len PySem.boot_len (pa_cons (pe_ix (r := rIxT K) ix_tup (pv 1) pe_int (fun _ _ => rfl)) pa_nil)) pa_nil))) (pg_tup rfl (pgs_cons (pg_name (i := 2) nd rfl (.inr rfl)) (pgs_cons (pg_name (i := 3) nd rfl (.inl rfl)) pgs_nil)))) (
      C8.pss_cut (ps_set (i := 4) nd rfl (.inl rfl) (pe_ix (r := rIxT K) ix_tup (pv 1) (pv 2) (fun _ _ => rfl))) (
      C8.pss_cut (ps_set (i := 5) nd rfl (.inl rfl) (pe_lst (pa_cons (pe_slice sl_str (pv 4) po_none (po_some (pe_un un_neg pe_int))) (pa_cons (pe_op op_add_str (pv 4) pe_str) (pa_cons (pe_op op_add_str (pe_slice sl_str (pv 4) po_none (po_some (pe_un un_neg pe_int))) pe_str) (pa_cons (pe_op op_add_str (pe_slice sl_str (pv 4) po_none (po_some (pe_un un_neg pe_int))) pe_str) (pa_cons pe_str (pa_cons pe_non (pa_cons pe_int (pa_cons (pe_callTy (call_listS rfl) (by rfl) T.list (by decide +kernel) (pa_cons (pv 4) pa_nil)) (pa_cons (pe_op (r := rRepA K) op_repA (pe_tup (pa_cons pe_str pa_nil)) (pv 3)) (pa_cons (pe_op op_add_str (pe_slice sl_str (pv 4) (po_some pe_int) po_none) pe_str) pa_nil)))))))))))) (
      C8.pss_cut (ps_setLc (i := 6) (own := [("one", 7)]) (g := gName 7) (by rfl) nd rfl rfl (sw_true rfl rfl rfl (by decide +kernel)) (pi_list (pv 5)) (blkOk_by (N := ["draw", "picture", "r", "wide", "row", "rows", "some", "one"]) (sc := defScope sOdd) (by decide +kernel)) (fun _ _ _ _ _ => pg_name (i := 7) nd rfl (Or.inl rfl)) (fun _ _ _ _ _ => pts_nil) (fun _ _ _ _ _ => pe_op (r := rCatA K) op_catA (pe_op (r := rCatA K) op_catA (pe_slice (r := rSlA K) sl_tupA (pv 1) po_none (po_some (pv 2))) (pe_tup (pa_cons (pv 7) pa_nil))) (pe_slice (r := rSlA K) sl_tupA (pv 1) (po_some (pe_op op_add (pv 2) pe_int)) po_none))) (
      C8.pss_cut (ps_if (pt_cmpR op_eq (pe_callB call_len_seq (by rfl) T.len PySem.boot_len (pa_cons (pv 1) pa_nil)) pe_int (nomark _)) (pss_one (ps_set (i := 6) nd rfl (.inl rfl) (pe_slice sl_list (pv 6) (po_some pe_int) po_none))) pss_nil) (
      C8.pss_cut (ps_set (i := 6) nd rfl (.inl rfl) (pe_op op_cat (pv 6) (pe_lst (pa_cons (pe_tup pa_nil) (pa_cons pe_non (pa_cons pe_int (pa_cons pe_bl (pa_cons pe_str (pa_cons (pe_callTy call_list_of (by rfl) T.list (by decide +kernel) (pa_cons (pv 1) pa_nil)) (pa_cons pe_dnewK (pa_cons (pe_tup (pa_cons (pe_op op_mul_str pe_str pe_int) pa_nil)) (pa_cons (pe_op (r := rRepA K) op_repA (pe_tup (pa_cons pe_str pa_nil)) pe_int) (pa_cons (pe_tup (pa_cons pe_str pa_nil)) (pa_cons (pe_ix (r := rIxT K) ix_tup (pv 1) pe_int (fun _ _ => rfl)) (pa_cons (pe_lst (pa_cons pe_str pa_nil)) pa_nil))))))))))))))) (
      pss_one (ps_ret (pe_ix (r := rIxL K) ix_list (pv 6) (pe_call GN hr (by rfl) mN kN bN .nil pass0 (pa_cons (pv 0) (pa_cons (pe_callB call_len_seq (by rfl) T.len PySem.boot_len (pa_cons (pv 6) pa_nil)) pa_nil))) (fun _ _ => rfl))))))))), ?_⟩
    have hlen : (rs.map rv).length = high := by rw [List.length_map, pr.len]
    obtain ⟨l00, hl00⟩ : ∃ l, rs[0]? = some l := ⟨rs[0]'(by rw [pr.len]; exact pr.h0), List.getElem?_eq_getElem _⟩
    have at0 : atI (rs.map rv) 0 = some (rv l00) := atI_nat (j := 0) (by rw [List.getElem?_map, hl00]; rfl)
    have row0 := pr.row l00 (List.mem_of_getElem? hl00)
    have W1 := pr.w1
    have HH1 := pr.h1
    have small : ∀ {n : Nat}, n ≤ 300 → n ≤ sizeLine := fun h => Nat.le_of_lt (small1000 (by omega))
    have z0 : (S l00).length ≤ sizeLine := by
      rw [SX.S_len, row0.len]
      exact small (by omega)
    -- r, wide
    refine ⟨fun σ' H' => ∃ r : Nat, σ' = [some (.ref d), some (.ref a), some (.int r), some (.int wide), none, none, none, none] ∧ r < high ∧ Dr H' d g c ∧ Dn d g H H', ?_, ?_⟩
    · refine ⟨.ref d, rfl, .ref a, rfl, a, _, rfl, .inr (SqT.of ha), d, g, c, ((rs.map rv).length : Int), rfl, D, by rw [hlen]; have := pr.h0; omega, by rw [hlen]; omega, fun n H1 n0 n1 D1 dn1 => ?_⟩
      obtain ⟨j, rfl⟩ := Int.eq_ofNat_of_zero_le n0
      have ha1 := dn1.tup D ha
      refine ⟨.ref a, rfl, a, _, 0, rv l00, rfl, rfl, SqT.of ha1, at0, S l00, rfl, z0, by show 2 ≤ sizeLine; decide, fun t ht => ?_⟩
      have st := same_upd (o := .tup [V.int (j : Int), V.int ((S l00).length : Int)]) ht
      refine ⟨t, _, rfl, SqT.of upd_same, rfl, .int j, _, rfl, .int _, [], rfl, rfl, j, ?_, ?_, D1.same st, dn1.trans (Dn.same st)⟩
      · have e : V.int ((S l00).length : Int) = V.int (wide : Int) := by rw [SX.S_len, row0.len]
        rw [e]
        rfl
      · rw [hlen] at n1
        omega
    · rintro _ G1 ⟨r, rfl, hr1, D1, dn1⟩
      obtain ⟨l0, hl0⟩ : ∃ l, rs[r]? = some l := ⟨rs[r]'(by rw [pr.len]; exact hr1), List.getElem?_eq_getElem _⟩
      have rowr := pr.row l0 (List.mem_of_getElem? hl0)
      have atr : atI (rs.map rv) (r : Int) = some (rv l0) := atI_nat (by rw [List.getElem?_map, hl0]; rfl)
      have ha1 := dn1.tup D ha
      -- row
      refine ⟨fun σ' H' => σ' = [some (.ref d), some (.ref a), some (.int r), some (.int wide), some (rv l0), none, none, none] ∧ H' = G1, ?_, ?_⟩
      · exact ⟨.ref a, rfl, .int r, rfl, a, _, r, rv l0, rfl, rfl, SqT.of ha1, atr, rfl, rfl⟩
      · rintro _ G1 ⟨rfl, rfl⟩
        have zl : (S l0).length ≤ sizeLine := by
          rw [SX.S_len, rowr.len]
          exact small (by omega)
        have w0 := pr.w0
        -- rows
        refine ⟨fun σ' H' => ∃ (lr : Addr) (o0 o1 : V) (rest : List V), σ' = [some (.ref d), some (.ref a), some (.int r), some (.int wide), some (rv l0), some (.ref lr), none, none] ∧ Same G1 H' ∧ H' lr = some (.lst (o0 :: o1 :: rest)) ∧ Bad1 K H' wide o0 ∧ Bad1 K H' wide o1 ∧ rest.length = 8 ∧ ∀ o ∈ rest, Bad0 K H' o, ?_, ?_⟩
        · have cut1 : cutS (S l0) none (some (-1)) = S (l0.take (wide - 1)) := by
            rw [cutS_butlast (by rw [rowr.len]; exact w0), rowr.len]
          have cut2 : cutS (S l0) (some 1) none = S (l0.drop 1) := cutS_tail l0
          have zc1 : (cutS (S l0) none (some (-1))).length ≤ 120 := by
            rw [cut1, SX.S_len, List.length_take, rowr.len]
            omega
          have zc2 : (cutS (S l0) (some 1) none).length ≤ 120 := by
            rw [cut2, SX.S_len, List.length_drop, rowr.len]
            omega
          have zl0 : (S l0).length ≤ 120 := by
            rw [SX.S_len, rowr.len]
            omega
          have one1 : ∀ x : Str, x.length = 1 → ∀ y : Str, y.length ≤ 120 → y.length + x.length ≤ sizeLine := fun x hx y hy => small (by omega)
          refine ⟨rv l0, rfl, 1, rfl, -1, rfl, S l0, rfl, zl, rv l0, rfl, S l0, ".", rfl, rfl, one1 _ (by decide +kernel) _ zl0, rv l0, rfl, 1, rfl, -1, rfl, S l0, rfl, zl, _, "x", rfl, rfl, one1 _ (by decide +kernel) _ zc1,
            rv l0, rfl, 1, rfl, -1, rfl, S l0, rfl, zl, _, "\n", rfl, rfl, one1 _ (by decide +kernel) _ zc1, rv l0, rfl, S l0, rfl, zl, fun l8 hl8 => ⟨by show 1 ≤ sizeLine; decide, fun t9 ht9 => ⟨.int wide, rfl, rep_any upd_same w0 (by omega) fun z9 H9 s9 h9 => ?_⟩⟩⟩
          refine ⟨rv l0, rfl, 1, rfl, S l0, rfl, zl, _, " ", rfl, rfl, one1 _ (by decide +kernel) _ zc2, by show 10 ≤ sizeLine; decide, fun lr hlr => ?_⟩
          have s8 := same_upd (o := .lst ((S l0).cps.toList.map fun c => V.str ⟨#[c]⟩)) hl8
          have st9 := same_upd (o := .tup [V.str "#"]) ht9
          have slr := same_upd (o := .lst [V.str (cutS (S l0) none (some (-1))), V.str (S l0 ++ "."), V.str (cutS (S l0) none (some (-1)) ++ "x"), V.str (cutS (S l0) none (some (-1)) ++ "\n"), V.str "", V.non, V.int 5, V.ref l8, V.ref z9, V.str (cutS (S l0) (some 1) none ++ " ")]) hlr
          have sA : Same G1 _ := ((s8.trans st9).trans s9).trans slr
          refine ⟨lr, _, _, _, rfl, sA, upd_same, ?_, ?_, rfl, ?_⟩
          · refine ⟨kn_str (small (by omega)), ?_⟩
            rw [cut1]
            by_cases e : wide = 1
            · refine .inl (rowOk_len (.inl ?_))
              rw [List.length_take]
              omega
            · refine .inr ?_
              rw [lenV_S, List.length_take, rowr.len]
              omega
          · have e : (S l0 ++ "." : Str) = S (l0 ++ [46]) := by rw [s_dot, SX.S_cat]
            refine ⟨kn_str ?_, .inr ?_⟩
            · rw [e, SX.S_len, List.length_append, rowr.len]
              exact small (by show wide + 1 ≤ 300; omega)
            · rw [e, lenV_S, List.length_append, rowr.len]
              show ((wide + 1 : Nat) : Int) ≠ wide
              omega
          · have bad : ∀ (z : Str) (cs : List Nat) (m : Nat), z = S cs → cs.length ≤ 300 → m ∈ cs → m ≠ 35 → m ≠ 46 → Bad0 K (upd H9 lr (.lst [V.str (cutS (S l0) none (some (-1))), V.str (S l0 ++ "."), V.str (cutS (S l0) none (some (-1)) ++ "x"), V.str (cutS (S l0) none (some (-1)) ++ "\n"), V.str "", V.non, V.int 5, V.ref l8, V.ref z9, V.str (cutS (S l0) (some 1) none ++ " ")])) (.str z) := by
              rintro z cs m rfl hz hm h1 h2
              exact ⟨kn_str (by rw [SX.S_len]; exact small hz), rowOk_bad hm h1 h2⟩
            have sx : ("x" : Str) = S [120] := by decide +kernel
            have sn : ("\n" : Str) = S [10] := by decide +kernel
            have sb : (" " : Str) = S [32] := by decide +kernel
            have lt1 : (l0.take (wide - 1)).length ≤ 120 := by
              rw [List.length_take, rowr.len]
              omega
            have lt2 : (l0.drop 1).length ≤ 120 := by
              rw [List.length_drop, rowr.len]
              omega
            intro o ho
            simp only [List.mem_cons, List.not_mem_nil, or_false] at ho
            rcases ho with rfl | rfl | rfl | rfl | rfl | rfl | rfl | rfl
            · exact bad _ (l0.take (wide - 1) ++ [120]) 120 (by rw [cut1, sx, SX.S_cat]) (by rw [List.length_append]; show _ + 1 ≤ 300; omega) (by simp) (by decide) (by decide)
            · exact bad _ (l0.take (wide - 1) ++ [10]) 10 (by rw [cut1, sn, SX.S_cat]) (by rw [List.length_append]; show _ + 1 ≤ 300; omega) (by simp) (by decide) (by decide)
            · refine ⟨kn_str (small (by decide +kernel)), ?_⟩
              rw [s_empty]
              exact rowOk_len (.inl rfl)
            · exact ⟨⟨⟨"NoneType", .non, rfl⟩, fun z e => by cases e⟩, rfl⟩
            · exact ⟨⟨⟨"int", .int 5, rfl⟩, fun z e => by cases e⟩, rfl⟩
            · exact ⟨⟨⟨"list", .lst (SqL.of (slr _ _ (s9 _ _ (st9 _ _ (upd_same (H := G1) (a := l8)))))), rfl⟩, fun z e => by cases e⟩, rfl⟩
            · exact ⟨⟨⟨"tuple", .tup (SqT.of (slr _ _ h9)), rfl⟩, fun z e => by cases e⟩, rfl⟩
            · exact bad _ (l0.drop 1 ++ [32]) 32 (by rw [cut2, sb, SX.S_cat]) (by rw [List.length_append]; show _ + 1 ≤ 300; omega) (by simp) (by decide) (by decide)
        · rintro _ G3 ⟨lr, o0, o1, rest, rfl, sm3, hlr, b0, b1, hrest, brest⟩
          have D3 := D1.same sm3
          have dn3 := dn1.trans (Dn.same sm3)
          have ha3 := sm3 _ _ ha1
          -- some
          refine ⟨fun σ' H' => ∃ (ls : Addr) (ts : List V), σ' = [some (.ref d), some (.ref a), some (.int r), some (.int wide), some (rv l0), some (.ref lr), some (.ref ls), none] ∧ Same G3 H' ∧ G3 ls = none ∧ H' ls = some (.lst ts) ∧ ts.length = 10 ∧ ∀ (j : Nat) t, ts[j]? = some t → (2 ≤ high ∨ 2 ≤ j) → Asked K H' t false, ?_, ?_⟩
          · refine ⟨.ref lr, rfl, lr, rfl, ⟨_, SqL.of hlr⟩, fun Dd hDd => lc_list (K := K) (a := lr) (xs := o0 :: o1 :: rest) (fun i H2 => Same G3 H2 ∧ ∃ ts : List V, H2 Dd = some (.lst ts) ∧ ts.length = i ∧ ∀ (j : Nat) t, ts[j]? = some t → (2 ≤ high ∨ 2 ≤ j) → Asked K H2 t false)
              ⟨same_upd hDd, [], upd_same, rfl, fun j t e => by simp at e⟩ (fun i H2 _ z => SqL.of (z.1 _ _ hlr)) ?_ ?_⟩
            · rintro i x H2 hi ⟨sm, ts, hts, lts, ats⟩
              have hil : i < 10 := by
                rcases Nat.lt_or_ge i (o0 :: o1 :: rest).length with z | z
                · simp only [List.length_cons, hrest] at z
                  omega
                · rw [List.getElem?_eq_none z] at hi
                  cases hi
              have ha2 := sm _ _ ha3
              have szt : ((rs.map rv).take r).length = r := by
                rw [List.length_take, hlen]
                omega
              have szd : ((rs.map rv).drop (r + 1)).length ≤ 60 := by
                rw [List.length_drop, hlen]
                omega
              refine ⟨rfl, .ref a, rfl, .int r, rfl, r, rfl, sl_any ha2 fun z1 K1 s1 h1 => ⟨x, rfl, by show 1 ≤ sizeLine; decide, fun t ht => ?_⟩⟩
              rw [cutV_to] at h1
              have st := same_upd (o := .tup [x]) ht
              refine cat_any (st _ _ h1) upd_same ?_ fun z2 K2 s2 h2 => ⟨.ref a, rfl, .int r, rfl, r, 1, rfl, rfl, (r : Int) + 1, rfl, ?_⟩
              · rw [szt]
                exact small (by show r + 1 ≤ 300; omega)
              dsimp only [tNoPart]
              refine sl_any (s2 _ _ (st _ _ (s1 _ _ ha2))) fun z3 K3 s3 h3 => ?_
              have e1 : (r : Int) + 1 = ((r + 1 : Nat) : Int) := by omega
              rw [e1, cutV_from] at h3
              refine cat_any (s3 _ _ h2) h3 ?_ fun z4 K4 s4 h4 => ?_
              · rw [List.length_append, szt]
                exact small (by show r + 1 + _ ≤ 300; omega)
              have s14 : Same H2 K4 := (((s1.trans st).trans s2).trans s3).trans s4
              have hD4 := s14 _ _ hts
              have nDz : Dd ≠ z4 := ne_of hD4 h4 (by intro z; cases z)
              have sDd : ∀ o : HO, Same G3 (upd K4 Dd o) := fun o b u e => by
                rw [upd_ne (ne_of_none e hDd)]
                exact s14 _ _ (sm _ _ e)
              refine ⟨ts, hD4, by rw [lts]; exact small1000 (by omega), sDd _, ts ++ [.ref z4], upd_same, by rw [List.length_append, lts]; rfl, fun j t' e hj => ?_⟩
              have keepA : ∀ {y : V}, Asked K K4 y false → (∃ u, y ≠ .ref Dd ∨ y = u) → True := fun _ _ => trivial
              -- from K4 to the list's new state: the list at Dd is the only thing that changes
              have up : ∀ {y : V} {T : String}, TyB K K4 y T → TyB K (upd K4 Dd (.lst (ts ++ [.ref z4]))) y T := by
                intro y T t0
                cases t0 with
                | non => exact .non
                | bl b => exact .bl b
                | int i => exact .int i
                | str x => exact .str x
                | byt b => exact .byt b
                | @lst b xs h =>
                  by_cases eb : b = Dd
                  · rw [eb]
                    exact .lst (SqL.of upd_same)
                  · rcases h with (h | ⟨o, h⟩) | h
                    · exact .lst (SqL.of (by rw [upd_ne eb]; exact h))
                    · exact .lst (.inl (.inr ⟨o, by rw [upd_ne eb]; exact h⟩))
                    · exact .lst (.inr h)
                | @tup b xs h =>
                  rcases h with (h | ⟨o, h⟩) | h
                  · exact .tup (SqT.of (by rw [upd_ne (ne_of h hD4 (by intro z; cases z))]; exact h))
                  · exact .tup (.inl (.inr ⟨o, by rw [upd_ne (ne_of h hD4 (by intro z; cases z))]; exact h⟩))
                  · exact .tup (.inr h)
                | @dK b kvs h => exact .dK (by rw [upd_ne (ne_of h hD4 (by intro z; cases z))]; exact h)
              have upT : ∀ {b : Addr} {xs : List V}, SqT K K4 b xs → SqT K (upd K4 Dd (.lst (ts ++ [.ref z4]))) b xs := by
                intro b xs h
                rcases h with (h | ⟨o, h⟩) | h
                · exact SqT.of (by rw [upd_ne (ne_of h hD4 (by intro z; cases z))]; exact h)
                · exact .inl (.inr ⟨o, by rw [upd_ne (ne_of h hD4 (by intro z; cases z))]; exact h⟩)
                · exact .inr h
              have upK : ∀ {y : V}, Kn K K4 y → Kn K (upd K4 Dd (.lst (ts ++ [.ref z4]))) y := by
                rintro y ⟨⟨T, t0, ok⟩, z⟩
                exact ⟨⟨T, up t0, ok⟩, z⟩
              have upA : ∀ {y : V}, Asked K K4 y false → Asked K (upd K4 Dd (.lst (ts ++ [.ref z4]))) y false := by
                intro y h
                rcases h with ⟨T, t0, ok, ne, e⟩ | ⟨b, xs, e, h1, h2, e2⟩
                · exact .inl ⟨T, up t0, ok, ne, e⟩
                · exact .inr ⟨b, xs, e, upT h1, fun l y hy => upK (h2 l y hy), e2⟩
              by_cases hjl : j < ts.length
              · rw [List.getElem?_append_left hjl] at e
                exact upA (asked_same (ats j t' e hj) s14)
              · have ej : j = ts.length := by
                  rcases Nat.lt_or_ge j (ts ++ [V.ref z4]).length with z | z
                  · rw [List.length_append] at z
                    simp only [List.length_cons, List.length_nil] at z
                    omega
                  · rw [List.getElem?_eq_none z] at e
                    cases e
                subst ej
                rw [List.getElem?_append_right (Nat.le_refl _), Nat.sub_self] at e
                have et : t' = .ref z4 := (Option.some.inj e).symm
                subst et
                refine upA (.inr ⟨z4, _, rfl, SqT.of h4, fun _ y hy => ?_, ?_⟩)
                · have knx : Kn K H2 x := by
                    have hm := List.mem_of_getElem? hi
                    rcases List.mem_cons.mp hm with q1 | q1
                    · subst q1; exact b0.1.same sm
                    · rcases List.mem_cons.mp q1 with q2 | q2
                      · subst q2; exact b1.1.same sm
                      · exact (brest x q2).1.same sm
                  have knr : ∀ y ∈ rs.map rv, Kn K K4 y := fun y hy => by
                    obtain ⟨l, hl, rfl⟩ := List.mem_map.mp hy
                    exact kn_str (by rw [SX.S_len, (pr.row l hl).len]; exact small (by omega))
                  rcases List.mem_append.mp hy with q1 | q1
                  · rcases List.mem_append.mp q1 with q2 | q2
                    · exact knr y (List.mem_of_mem_take q2)
                    · rw [List.mem_singleton.mp q2]
                      exact knx.same s14
                  · exact knr y (List.mem_of_mem_drop q1)
                · refine (picOk_odd pr hr1 ?_).symm
                  have hm : i = 0 ∧ x = o0 ∨ i = 1 ∧ x = o1 ∨ x ∈ rest := by
                    match i, hi with
                    | 0, e => exact .inl ⟨rfl, (Option.some.inj e).symm⟩
                    | 1, e => exact .inr (.inl ⟨rfl, (Option.some.inj e).symm⟩)
                    | i + 2, e => exact .inr (.inr (List.mem_of_getElem? (i := i) e))
                  rcases hm with ⟨ei, q1⟩ | ⟨ei, q1⟩ | q1
                  · rw [q1]
                    rcases b0.2 with q2 | q2
                    · exact .inl q2
                    · exact .inr ⟨by omega, q2⟩
                  · rw [q1]
                    rcases b1.2 with q2 | q2
                    · exact .inl q2
                    · exact .inr ⟨by omega, q2⟩
                  · exact .inl (brest x q1).2
            · rintro H2 ⟨sm, ts, hts, lts, ats⟩
              refine ⟨Dd, ts, rfl, sm, hDd, hts, ?_, ats⟩
              rw [lts]
              simp only [List.length_cons, hrest]
          · rintro _ G4 ⟨ls, ts, rfl, sm4, nls, hls, lts, ats⟩
            have D4 := D3.same sm4
            have dn4 := dn3.trans (Dn.same sm4)
            have ha4 := sm4 _ _ ha3
            have nlsg : ls ≠ g := (D3.new nls).2
            have nlsd : ls ≠ d := (D3.new nls).1
            -- if len(picture) == 1
            refine ⟨fun σ' H' => ∃ (l2 : Addr) (us : List V), σ' = [some (.ref d), some (.ref a), some (.int r), some (.int wide), some (rv l0), some (.ref lr), some (.ref l2), none] ∧ Same G4 H' ∧ l2 ≠ g ∧ l2 ≠ d ∧ H' l2 = some (.lst us) ∧ us.length ≤ 10 ∧ ∀ t ∈ us, Asked K H' t false, ?_, ?_⟩
            · refine ⟨.ref a, rfl, a, _, rfl, .inr (SqT.of ha4), rfl, _, rfl, ite2 (fun e => ?_) (fun e => ?_)⟩
              · refine ⟨.ref ls, rfl, 2, rfl, ?_⟩
                dsimp only [tNoPart]
                refine ⟨ls, ts, rfl, SqL.of hls, fun p hp => ?_⟩
                have sp := same_upd (o := .lst (cutV ts (some 2) none)) hp
                have hdrop : cutV ts (some 2) none = ts.drop 2 := cutV_from ts 2
                refine ⟨p, ts.drop 2, rfl, sp, (D4.new hp).2, (D4.new hp).1, by rw [upd_same, hdrop], by rw [List.length_drop]; omega, fun t ht => ?_⟩
                obtain ⟨j, hj⟩ := List.getElem?_of_mem ht
                rw [List.getElem?_drop] at hj
                exact asked_same (ats (2 + j) t hj (.inr (by omega))) sp
              · have h2 : 2 ≤ high := by
                  have h0 := pr.h0
                  rcases Nat.lt_or_ge high 2 with z | z
                  · exfalso
                    apply e
                    have : high = 1 := by omega
                    exact decide_eq_true (by rw [hlen, this]; rfl)
                  · exact z
                refine ⟨ls, ts, rfl, Same.refl _, nlsg, nlsd, hls, by omega, fun t ht => ?_⟩
                obtain ⟨j, hj⟩ := List.getElem?_of_mem ht
                exact ats j t hj (.inl h2)
            · rintro _ G5 ⟨l2, us, rfl, sm5, n2g, n2d, hl2, lus, aus⟩
              have D5 := D4.same sm5
              have dn5 := dn4.trans (Dn.same sm5)
              have ha5 := sm5 _ _ ha4
              -- some = some + [..]
              refine ⟨fun σ' H' => ∃ (l3 : Addr) (vs : List V), σ' = [some (.ref d), some (.ref a), some (.int r), some (.int wide), some (rv l0), some (.ref lr), some (.ref l3), none] ∧ Same G5 H' ∧ G5 l3 = none ∧ H' l3 = some (.lst vs) ∧ 0 < vs.length ∧ vs.length ≤ 30 ∧ ∀ t ∈ vs, Asked K H' t false, ?_, ?_⟩
              · have mk120 : MulOk ("#" : Str) 121 := by
                  refine ⟨by decide, fun _ _ => by decide +kernel, fun _ _ => by decide +kernel⟩
                refine ⟨.ref l2, rfl, by show 0 ≤ sizeLine; decide, fun t0 ht0 => ⟨.ref a, rfl, a, _, rfl, .inr (SqT.of (same_upd ht0 _ _ ha5)), fun l1 hl1 => ?_⟩⟩
                have s0 := same_upd (o := .tup []) ht0
                have s1 := same_upd (o := .lst (rs.map rv)) hl1
                refine fun dd hdd => ⟨"#", 121, rfl, rfl, mk120, by show 1 ≤ sizeLine; decide, fun t2 ht2 => ⟨by show 1 ≤ sizeLine; decide, fun t3 ht3 => ?_⟩⟩
                have sd := same_upd (o := .dK []) hdd
                have s2 := same_upd (o := .tup [V.str (Txt.mul "#" 121)]) ht2
                have s3 := same_upd (o := .tup [V.str "#"]) ht3
                dsimp only [tC]
                refine rep_anyI (k := 61) (x := V.str "#") rfl upd_same (by decide) (by decide) fun z3 K3 sz3 hz3 => ?_
                refine ⟨by show 1 ≤ sizeLine; decide, fun t4 ht4 => ?_⟩
                have s4 := same_upd (o := .tup [V.str ""]) ht4
                have sX : Same G5 _ := ((((s0.trans s1).trans sd).trans s2).trans s3).trans (sz3.trans s4)
                refine ⟨.ref a, rfl, a, _, 0, rv l00, rfl, rfl, SqT.of (sX _ _ ha5), at0, by show 1 ≤ sizeLine; decide, fun l5 hl5 => ⟨by show 12 ≤ sizeLine; decide, fun l6 hl6 => ?_⟩⟩
                have s5 := same_upd (o := .lst [V.str ".#"]) hl5
                have s6 := same_upd (o := .lst [V.ref t0, V.non, V.int 5, V.bl true, V.str "#.", V.ref l1, V.ref dd, V.ref t2, V.ref z3, V.ref t4, rv l00, V.ref l5]) hl6
                have sY := (sX.trans s5).trans s6
                refine ⟨l2, l6, us, _, rfl, rfl, sY _ _ hl2, upd_same, ?_, fun p hp => ?_⟩
                · show us.length + 12 ≤ sizeLine
                  exact small (by omega)
                · have sp := same_upd (o := .lst (us ++ [V.ref t0, V.non, V.int 5, V.bl true, V.str "#.", V.ref l1, V.ref dd, V.ref t2, V.ref z3, V.ref t4, rv l00, V.ref l5])) hp
                  have sZ := sY.trans sp
                  refine ⟨p, _, rfl, sZ, sY.free hp, upd_same, ?_, ?_, fun t ht => ?_⟩
                  · rw [List.length_append]
                    show 0 < us.length + 12
                    omega
                  · rw [List.length_append]
                    show us.length + 12 ≤ 30
                    omega
                  · rcases List.mem_append.mp ht with q1 | q1
                    · exact asked_same (aus t q1) sZ
                    · have f0 := sp _ _ (s6 _ _ (s5 _ _ (s4 _ _ (sz3 _ _ (s3 _ _ (s2 _ _ (sd _ _ (s1 _ _ (upd_same (H := G5) (a := t0) (o := .tup []))))))))))
                      have f1 := sp _ _ (s6 _ _ (s5 _ _ (s4 _ _ (sz3 _ _ (s3 _ _ (s2 _ _ (sd _ _ (upd_at s1))))))))
                      have fd := sp _ _ (s6 _ _ (s5 _ _ (s4 _ _ (sz3 _ _ (s3 _ _ (s2 _ _ (upd_at sd)))))))
                      have f2 := sp _ _ (s6 _ _ (s5 _ _ (s4 _ _ (sz3 _ _ (s3 _ _ (upd_at s2))))))
                      have f3 := sp _ _ (s6 _ _ (s5 _ _ (s4 _ _ hz3)))
                      have f4 := sp _ _ (s6 _ _ (s5 _ _ (upd_at s4)))
                      have f5 := sp _ _ (s6 _ _ (upd_at s5))
                      simp only [List.mem_cons, List.not_mem_nil, or_false] at q1
                      rcases q1 with rfl | rfl | rfl | rfl | rfl | rfl | rfl | rfl | rfl | rfl | rfl | rfl
                      · exact .inr ⟨t0, [], rfl, SqT.of f0, (fun _ y hy => nomatch hy), rfl⟩
                      · exact .inl ⟨_, .non, rfl, by decide, rfl⟩
                      · exact .inl ⟨_, .int 5, rfl, by decide, rfl⟩
                      · exact .inl ⟨_, .bl true, rfl, by decide, rfl⟩
                      · exact .inl ⟨_, .str _, rfl, by decide, rfl⟩
                      · exact .inl ⟨_, .lst (SqL.of f1), rfl, by decide, rfl⟩
                      · exact .inl ⟨_, .dK fd, rfl, by decide, rfl⟩
                      · have em : Txt.mul "#" 121 = S (List.replicate 121 35) := by
                          rw [s_hash]
                          exact mul_sign 35 121 (by decide)
                        refine .inr ⟨t2, _, rfl, SqT.of f2, fun _ y hy => ?_, ?_⟩
                        · rw [List.mem_singleton.mp hy, em]
                          exact kn_str (by rw [SX.S_len, List.length_replicate]; exact small (by decide))
                        · unfold picOk
                          rw [em]
                          have z : [V.str (S (List.replicate 121 35))].all rowOk = false := by
                            show (rowOk (.str (S (List.replicate 121 35))) && true) = false
                            rw [rowOk_len (.inr (by rw [List.length_replicate]; decide))]
                            rfl
                          rw [z, Bool.and_false, Bool.false_and]
                      · refine .inr ⟨z3, _, rfl, SqT.of f3, fun le => ?_, ?_⟩
                        · rw [List.length_replicate] at le
                          exact absurd le (by decide)
                        · unfold picOk
                          rw [List.length_replicate, decide_eq_false (by decide : ¬ 61 ≤ 60), Bool.and_false, Bool.false_and, Bool.false_and]
                      · refine .inr ⟨t4, _, rfl, SqT.of f4, fun _ y hy => ?_, ?_⟩
                        · rw [List.mem_singleton.mp hy]
                          exact kn_str (small (by decide +kernel))
                        · unfold picOk
                          have z : [V.str ("" : Str)].all rowOk = false := by
                            show (rowOk (.str ("" : Str)) && true) = false
                            rw [s_empty, rowOk_len (.inl rfl)]
                            rfl
                          rw [z, Bool.and_false, Bool.false_and]
                      · exact .inl ⟨_, .str _, rfl, by decide, rfl⟩
                      · exact .inl ⟨_, .lst (SqL.of f5), rfl, by decide, rfl⟩
              · rintro _ G6 ⟨l3, vs, rfl, sm6, nl3, hl3, lv0, lv1, avs⟩
                have D6 := D5.same sm6
                have dn6 := dn5.trans (Dn.same sm6)
                obtain ⟨n3d, n3g⟩ := D5.new nl3
                refine ⟨.ref l3, rfl, .ref d, rfl, .ref l3, rfl, l3, vs, rfl, .inl (SqL.of hl3), d, g, c, (vs.length : Int), rfl, D6, by omega, by omega, fun n H7 n0 n1 D7 dn7 => ?_⟩
                obtain ⟨j, rfl⟩ := Int.eq_ofNat_of_zero_le n0
                have hj : j < vs.length := by omega
                have hx : vs[j]? = some vs[j] := List.getElem?_eq_getElem hj
                exact ⟨l3, vs, (j : Int), vs[j], rfl, rfl, SqL.of (dn7 _ _ hl3 n3d n3g), atI_nat hx, q _ H7 ((avs _ (List.getElem_mem hj)).dn dn7 D6 D7) D7 (dn6.trans dn7)⟩
end
end Dt
/-! the end of a law whose own body asks who is around it: the law is run at its caller alone -/
namespace L2X
open PySem PySem.Spec PyProof.Rows L2 LamX
abbrev tabO : Obj := { cls := .none, data := .fields #[] }
abbrev lstO (vs : List Value) : Obj := { cls := .type "list", data := .seq vs.toArray }
/-- what is under watch when the law begins: the tables; the script, if the written part has it not -/
def beginH (K : PySem.W.Frag) (cs : List (Addr × Addr)) (a : Addr) (vs : List Value) (ns : List Int) : Hp := fun b =>
  if b ∈ cs.map (·.2) then some (.tbl #[]) else if b = a ∧ K.lookup a = none then some (.frz (lstO vs) (.lst (ns.map V.int))) else none
section
variable {P : Program} {w : World} {K : PySem.W.Frag} {mg mb : Str → Option Value} {fa a : Addr} {cs : List (Addr × Addr)} {s : Shared} {vs : List Value} {ns : List Int}
theorem begin_tab {p : Addr × Addr} (hp : p ∈ cs) : beginH K cs a vs ns p.2 = some (.tbl #[]) := by
  unfold beginH
  exact if_pos (List.mem_map.mpr ⟨p, hp, rfl⟩)
theorem begin_some {b : Addr} {u : HO} (e : beginH K cs a vs ns b = some u) : (b ∈ cs.map (·.2) ∧ u = .tbl #[]) ∨ (b = a ∧ K.lookup a = none ∧ u = .frz (lstO vs) (.lst (ns.map V.int))) := by
  unfold beginH at e
  split at e
  · rename_i h
    exact .inl ⟨h, (Option.some.inj e).symm⟩
  · split at e
    · rename_i h
      exact .inr ⟨h.1, h.2, (Option.some.inj e).symm⟩
    · cases e
theorem begin_none (hT : ∀ p ∈ cs, s.heap.get? p.2 = some tabO) (ha : s.heap.get? a = some (lstO vs)) {b : Addr} {o : Obj} (e : s.heap.get? b = some o) (n1 : o ≠ tabO) (n2 : o ≠ lstO vs) : beginH K cs a vs ns b = none := by
  cases q : beginH K cs a vs ns b with
  | none => rfl
  | some u =>
    exfalso
    rcases begin_some q with ⟨hm, _⟩ | ⟨rfl, _, _⟩
    · obtain ⟨p, hp, rfl⟩ := List.mem_map.mp hm
      rw [hT p hp] at e
      exact n1 (Option.some.inj e).symm
    · rw [ha] at e
      exact n2 (Option.some.inj e).symm
theorem law_callG (KX : K.In s.heap) (hns : s.heap.Ns mainGlobals mg) (hb : s.heap.Ns builtinsNs mb) (hbb : ∀ x : Str, x ≠ "__name__" → mb x = bootBuiltins x) (hlim : s.heap.NoLimit) (hg : s.gens = #[])
    (hT : ∀ p ∈ cs, s.heap.get? p.2 = some tabO) (nT : ∀ p ∈ cs, K.lookup p.2 = none) (C : ∀ p ∈ cs, PySem.W.CodeHd s.heap p.1 p.2)
    (hbm : ∃ (bm : Addr) (ob : Obj), mg "__builtins__" = some (.ref bm) ∧ bm ≠ builtinsNs ∧ s.heap.get? bm = some ob ∧ ob.cls = .type "module" ∧ ob.dict = some builtinsNs ∧ ob.data = .plain)
    (ha : s.heap.get? a = some (lstO vs)) (hi : IntsAre vs ns) (hl : ns.length ≤ sizeLine)
    (run : ∀ (base : Heap) (H : Hp), K.In base → base.Ns mainGlobals mg → (∀ p ∈ cs, TabB base mg p.1 p.2) → (∀ p ∈ cs, H p.2 = some (.tbl #[])) → SqL K H a (ns.map V.int) → Env0 P w K mg base callerA [] s H →
      codeAny (model P w) callerA (.call (.ref fa) ⟨[.ref a], []⟩) (CR L2.CX0 [] P w H s (fun v _ => v = .bl true) L2.E0) s) :
    codeAny (model P w) callerA (.call (.ref fa) ⟨[.ref a], []⟩) (fun r s' => r = .ok (.ret (.bool true)) ∧ OldK s.heap s'.heap ∧ s'.os = s.os ∧ AllBare s'.gens) s := by
  have rv := vals_ints hi
  have lv := hi.length
  generalize eH : beginH K cs a vs ns = H
  have tabs : ∀ p ∈ cs, H p.2 = some (.tbl #[]) := fun p hp => by rw [← eH]; exact begin_tab hp
  have off : ∀ {b : Addr} {o : Obj}, s.heap.get? b = some o → o ≠ tabO → o ≠ lstO vs → H b = none := fun e n1 n2 => by rw [← eH]; exact begin_none hT ha e n1 n2
  have isT : ∀ {b : Addr}, b ∈ cs.map (·.2) → s.heap.get? b = some tabO := by
    intro b hm
    obtain ⟨p, hp, rfl⟩ := List.mem_map.mp hm
    exact hT p hp
  have aT : a ∉ cs.map (·.2) := by
    intro hm
    have z := isT hm
    rw [ha] at z
    cases z
  -- the ground
  have nsK : ∀ {b : Addr} {m : Str → Option Value}, s.heap.Ns b m → (hidT s.heap H).Ns b m := by
    rintro b m ⟨o, es, ep, e, d, r⟩
    refine ⟨o, es, ep, hidT_get e (off e ?_ ?_), d, r⟩ <;> (rintro rfl; cases d)
  have inK : K.In (hidT s.heap H) := by
    intro b o e
    refine hidT_get (KX b o e) ?_
    cases q : H b with
    | none => rfl
    | some u =>
      exfalso
      rw [← eH] at q
      rcases begin_some q with ⟨hm, _⟩ | ⟨rfl, hk, _⟩
      · obtain ⟨p, hp, rfl⟩ := List.mem_map.mp hm
        rw [nT p hp] at e
        cases e
      · rw [hk] at e
        cases e
  have mod : L2.Mod K mg (hidT s.heap H) := by
    obtain ⟨mc, h1, h2⟩ := hlim
    exact ⟨inK, nsK hns, ⟨mb, nsK hb, hbb⟩, ⟨mc, nsK h1, h2⟩⟩
  have tabB : ∀ p ∈ cs, TabB (hidT s.heap H) mg p.1 p.2 := by
    intro p hp
    have tp := hT p hp
    obtain ⟨og, es, ep, gg, gd, _⟩ := id hns
    constructor
    · obtain ⟨o, us, file, tf, flags, tg, inF, text, tt, e1, r1, r2, r3, r4, r5, r6, r7, r8, hne⟩ := C p hp
      refine ⟨o, us, file, tf, flags, tg, inF, text, tt, hidT_get e1 (off e1 ?_ ?_), r1, r2, r3, r4, r5, r6, r7, r8, hne⟩
      · rintro rfl
        cases r2
        simp at r3
      · rintro rfl
        cases r2
    · obtain ⟨bm, ob, b1, b2, b3, b4, b5, b6⟩ := hbm
      refine ⟨bm, ob, b1, b2, ?_, ?_, hidT_get b3 (off b3 ?_ ?_), b4, b5, b6⟩
      · rintro rfl
        rw [gg] at b3
        cases b3
        rw [gd] at b6
        cases b6
      · rintro rfl
        rw [tp] at b3
        cases b3
        cases b6
      · rintro rfl
        cases b6
      · rintro rfl
        cases b6
    · intro z
      rw [z, tp] at gg
      cases gg
      cases gd
  have hokH : HOk P w H s.heap := by
    intro b u e
    rw [← eH] at e
    rcases begin_some e with ⟨hm, rfl⟩ | ⟨rfl, _, rfl⟩
    · exact isT hm
    · exact ⟨ha, by rw [List.length_map]; exact hl, vs, _, rv, ha⟩
  have sq : SqL K H a (ns.map V.int) := by
    cases hk : K.lookup a with
    | some o =>
      have z := KX a o hk
      rw [ha] at z
      cases z
      exact .inr ⟨_, vs.toArray, _, hk, rfl, rfl, rfl, by rw [List.size_toArray, lv]; exact hl, by simpa using rv⟩
    | none =>
      refine .inl (.inr ⟨lstO vs, ?_⟩)
      rw [← eH]
      unfold beginH
      rw [if_neg aT, if_pos ⟨rfl, hk⟩]
  have e0 : Env0 P w K mg (hidT s.heap H) callerA [] s H :=
    by
    constructor
    · rfl
    · exact mod
    · exact fun b o e => of_hidT e
    · exact Nat.le_of_eq (hidT_size _ _)
    · trivial
    · exact fun b hb => nomatch (show b ∈ ([] : List Addr) from hb)
    · exact hokH
    · exact .of_eq hg
  refine codeAny_mono (run _ H inK (nsK hns) tabB tabs sq e0) ?_
  rintro r s' h
  cases r with
  | error e => exact (show False from h).elim
  | ok fl =>
    cases fl with
    | next => exact False.elim h
    | brk => exact False.elim h
    | cont => exact False.elim h
    | ret u =>
      obtain ⟨v, H', os, bare, un, hok', rr, rfl⟩ := h
      obtain rfl : u = Value.bool true := rr
      have stay : ∀ b o, b ∉ cs.map (·.2) → s.heap.get? b = some o → s'.heap.get? b = some o := by
        intro b o nb e
        cases q : H b with
        | none => exact un.keep b o e q (fun z => nomatch z) (fun z => nomatch z)
        | some u =>
          have q2 := q
          rw [← eH] at q2
          rcases begin_some q2 with ⟨hm, _⟩ | ⟨rfl, _, rfl⟩
          · exact absurd hm nb
          · obtain ⟨z, _⟩ := hok' _ _ (un.frzs _ _ _ q)
            rw [ha] at e
            cases e
            exact z
      have grow : ∀ p ∈ cs, ∃ more : Array Value, s'.heap.get? p.2 = some { cls := .none, data := .fields more } := by
        intro p hp
        obtain ⟨more, z⟩ := un.tbls p.2 #[] (tabs p hp)
        exact ⟨_, hok' p.2 _ z⟩
      refine ⟨rfl, ⟨fun b o e => ?_, fun b o e => ?_⟩, os, bare⟩
      · by_cases hb : b ∈ cs.map (·.2)
        · obtain ⟨p, hp, rfl⟩ := List.mem_map.mp hb
          obtain ⟨more, hm⟩ := grow p hp
          rw [hT p hp] at e
          cases e
          exact .inr (.inl ⟨((C p hp).tab (hT p hp)).isCodeTable, rfl, #[], more, rfl, by rw [Array.empty_append]; exact hm⟩)
        · exact .inl (stay b o hb e)
      · by_cases hb : b ∈ cs.map (·.2)
        · obtain ⟨p, hp, rfl⟩ := List.mem_map.mp hb
          obtain ⟨more, hm⟩ := grow p hp
          exact ⟨_, hm⟩
        · exact ⟨o, stay b o hb e⟩
end
end L2X
namespace Dt
open PySem PySem.Spec PyProof.Rows L2 L2X
open SX (S)
theorem pss_never {X : Cx} {st : List Stmt} : PSs X st (fun _ _ _ => False) := ⟨fun _ _ _ _ _ _ h => h.elim⟩
theorem pg_never {X : Cx} {tg : Expr} : PG X tg (fun _ _ _ _ => False) := ⟨fun _ _ _ _ _ _ _ _ _ h => h.elim⟩
abbrev sSize : Stmt := topS 27
theorem scSize : FnScope ["picture"] ["picture"] (defScope sSize) := ⟨rfl, rfl, rfl, by decide +kernel, rfl, by decide +kernel, by decide +kernel⟩
/-- size of a picture, or of what is none -/
def spSize (K : PySem.W.Frag) (C : Addr) : Sp := fun vs H Q E => ∃ x, vs = [x] ∧ ((Asked K H x false ∧ ∀ H', Same H H' → E (.ref C) none H') ∨
  ∃ a xs, x = .ref a ∧ SqT K H a xs ∧ (∀ y ∈ xs, Kn K H y) ∧ picOk xs = true ∧ ∀ p H', Same H H' → H p = none → H' p = some (.tup [.int (xs.length : Int), .int (lenV (xs.headD .non))]) → Q (.ref p) H')
theorem Asked.same {K : PySem.W.Frag} {H H' : Hp} {x : V} {b : Bool} (h : Asked K H x b) (s : Same H H') : Asked K H' x b := by
  rcases h with ⟨T, t, ok, ne, e⟩ | ⟨a, xs, e, h1, h2, e2⟩
  · refine .inl ⟨T, ?_, ok, ne, e⟩
    cases t with
    | non => exact .non
    | bl b => exact .bl b
    | int i => exact .int i
    | str x => exact .str x
    | byt b => exact .byt b
    | lst h => exact .lst (s.seq h)
    | tup h => exact .tup (sameT s h)
    | dK h => exact .dK (s _ _ h)
  · exact .inr ⟨a, xs, e, sameT s h1, fun l y hy => (h2 l y hy).same s, e2⟩
section
variable {P : Program} {w : World} {K : PySem.W.Frag} {mg : Str → Option Value} {base : Heap} {C : Addr}
/-- want_picture, and whoever calls it first -/
structure GW (P : Program) (w : World) (K : PySem.W.Frag) (mg : Str → Option Value) (base : Heap) (C : Addr) (k : Nat) : Prop where
  ex : ∃ f fd, FnOk P w K mg base (L2.CX P w) k f fd ["thing"] (spWant K C) ∧ mg "want_picture" = some (.ref f) ∧ PySem.W.keepIn K (.ref f) = true ∧ Binds K fd ["thing"] []
structure GS (P : Program) (w : World) (K : PySem.W.Frag) (mg : Str → Option Value) (base : Heap) (C : Addr) (k : Nat) : Prop where
  ex : ∃ f fd, FnOk P w K mg base (L2.CX P w) k f fd ["picture"] (spSize K C) ∧ mg "size" = some (.ref f) ∧ PySem.W.keepIn K (.ref f) = true ∧ Binds K fd ["picture"] []
theorem ok_size {f : Addr} {fd : FuncData} {k : Nat} (F : Fun K "size" "size" sSize f fd) (X : Tx mg) (G : GW P w K mg base C (k + 1)) : FnOk P w K mg base (L2.CX P w) (k + 2) f fd ["picture"] (spSize K C) := by
  obtain ⟨fW, fdW, GW, mW, kW, bW⟩ := G.ex
  refine F.okX scSize (fun vs H Q E h => ?_) (fun cdv A outer s H vs Q E hr h => ?_)
  · obtain ⟨x, rfl, _⟩ := h
    rfl
  · obtain ⟨x, rfl, h⟩ := h
    refine ⟨_, pss_cons (ps_expr (pe_callS GW hr (by rfl) mW kW bW (fun σ => passAt (takes_of rfl rfl rfl rfl) σ) (pa_cons (pv 0) pa_nil)))
      (pss_one (ps_ret (pe_tup (pa_cons (pe_callB call_len_seq (by rfl) X.len PySem.boot_len (pa_cons (pv 0) pa_nil)) (pa_cons (pe_callB call_len_str (by rfl) X.len PySem.boot_len (pa_cons (pe_ix (r := rIxT K) ix_tup (pv 0) pe_int (fun _ _ => rfl)) pa_nil)) pa_nil))))), ?_⟩
    rcases h with ⟨ask, q⟩ | ⟨a, xs, rfl, hx, kn, ok, q⟩
    · exact ⟨x, rfl, x, false, rfl, ask, (fun e => nomatch e), fun _ H' sm => q H' sm⟩
    · refine ⟨.ref a, rfl, .ref a, true, rfl, .inr ⟨a, xs, rfl, hx, fun _ => kn, ok.symm⟩, fun _ H' sm => ?_, fun e => nomatch e⟩
      have hx' := sameT sm hx
      unfold picOk at ok
      rw [Bool.and_eq_true, Bool.and_eq_true, Bool.and_eq_true] at ok
      obtain ⟨⟨⟨o1, o2⟩, o3⟩, o4⟩ := ok
      cases xs with
      | nil => exact absurd (of_decide_eq_true o1) (by decide)
      | cons x0 r =>
        have hk := List.all_eq_true.mp o3 x0 List.mem_cons_self
        cases x0 with
        | str z =>
          have hz := (kn _ List.mem_cons_self).2 z rfl
          refine ⟨.ref a, rfl, a, _, rfl, .inr hx', .ref a, rfl, a, _, 0, .str z, rfl, rfl, hx', atI_nat (j := 0) rfl, z, rfl, hz, by show 2 ≤ sizeLine; decide, fun p hp => ?_⟩
          exact q p _ (sm.trans (same_upd hp)) (sm.free hp) upd_same
        | _ => cases hk
end
theorem upd_at2 {H : Hp} {p : Addr} {o : HO} : (upd H p o) p = some o := upd_same
theorem kn_str2 {K : PySem.W.Frag} {H : Hp} {z : Str} (h : z.length ≤ sizeLine) : Kn K H (.str z) := ⟨⟨"str", .str z, rfl⟩, fun y e => by cases e; exact h⟩
theorem kn_rows {K : PySem.W.Frag} {H : Hp} {high wide : Nat} {rs : List (List Nat)} (h : PicR high wide rs) : ∀ y ∈ rs.map rv, Kn K H y := by
  intro y hy
  obtain ⟨x, hx, rfl⟩ := List.mem_map.mp hy
  refine kn_str2 ?_
  show x.length ≤ sizeLine
  have := (h.row x hx).len
  have := h.w1
  exact Nat.le_of_lt (small1000 (by omega))
theorem askPic {K : PySem.W.Frag} {H : Hp} {high wide : Nat} {rs : List (List Nat)} {a : Addr} (h : PicR high wide rs) (e : H a = some (.tup (rs.map rv))) : Asked K H (.ref a) true :=
  .inr ⟨a, _, rfl, SqT.of e, fun _ => kn_rows h, (picOk_pic h).symm⟩
theorem picSize {high wide : Nat} {rs : List (List Nat)} (h : PicR high wide rs) : (((rs.map rv).length : Nat) : Int) = (high : Int) ∧ lenV ((rs.map rv).headD .non) = (wide : Int) := by
  refine ⟨by rw [List.length_map, h.len], ?_⟩
  cases rs with
  | nil =>
    have h1 := h.len
    have h2 := h.h0
    simp at h1
    omega
  | cons l r =>
    have e := (h.row l List.mem_cons_self).len
    show lenV (rv l) = _
    unfold rv
    rw [lenV_S, e]
end Dt
namespace L2X
open PySem PySem.Spec PyProof.Rows L2
/-- repr(a), a data, where no repr runs around -/
theorem call_reprD {X : Cx} (hgd : X.A.guards = some []) (hu : X.A.units + 64 < cLine) : CallR X (.builtin "repr") (fun xs H Q => ∃ a d, xs = [.ref a] ∧ Dp X.K H (.ref a) d ∧ d.showable = true ∧ d.hasDict = false ∧ d.depth ≤ 60 ∧ d.shown.length ≤ sizeLine ∧ Q (.str d.shown) H) := by
  intro pins s σ H xs us Q I r h
  obtain ⟨a, d, rfl, dp, hs, hd, hdp, hz, q⟩ := h
  obtain ⟨u, rfl, rx⟩ := vals1 r
  obtain ⟨as, rd⟩ := Dp.reads I d (.ref a) u dp rx
  cases rx
  exact repr_of_reads' rd hs (fun z => by rw [hd] at z; cases z) hgd (by omega) (fun b o e => e) (fun h' t tk keep => ⟨.str d.shown, H, I.kept (t' := tk) keep, ⟨_, rfl⟩, q⟩) hz
end L2X
namespace Dt
open PySem PySem.Spec PyProof.Rows L2 L2X LamX
/-! ### kinds stay -/
structure Kd (H H' : Hp) : Prop where
  tup : ∀ b xs, H b = some (.tup xs) → H' b = some (.tup xs)
  frz : ∀ b o u, H b = some (.frz o u) → H' b = some (.frz o u)
  lst : ∀ b xs, H b = some (.lst xs) → ∃ ys, H' b = some (.lst ys)
  dct : ∀ b ks, H b = some (.dK ks) → ∃ ls, H' b = some (.dK ls)
theorem Kd.refl {H : Hp} : Kd H H := ⟨fun _ _ e => e, fun _ _ _ e => e, fun _ xs e => ⟨xs, e⟩, fun _ ks e => ⟨ks, e⟩⟩
theorem Kd.trans {H H1 H2 : Hp} (a : Kd H H1) (b : Kd H1 H2) : Kd H H2 where
  tup := fun x xs e => b.tup _ _ (a.tup _ _ e)
  frz := fun x o u e => b.frz _ _ _ (a.frz _ _ _ e)
  lst := fun x xs e => by
    obtain ⟨ys, z⟩ := a.lst _ _ e
    exact b.lst _ _ z
  dct := fun x ks e => by
    obtain ⟨ys, z⟩ := a.dct _ _ e
    exact b.dct _ _ z
theorem Kd.same {H H' : Hp} (s : Same H H') : Kd H H' := ⟨fun _ _ e => s _ _ e, fun _ _ _ e => s _ _ e, fun _ xs e => ⟨xs, s _ _ e⟩, fun _ ks e => ⟨ks, s _ _ e⟩⟩
theorem Kd.ext {H H' : Hp} (s : ExtN H H') : Kd H H' := ⟨fun _ _ e => s _ _ e (fun _ z => nomatch z), fun _ _ _ e => s _ _ e (fun _ z => nomatch z), fun _ xs e => ⟨xs, s _ _ e (fun _ z => nomatch z)⟩, fun _ ks e => ⟨ks, s _ _ e (fun _ z => nomatch z)⟩⟩
theorem Kd.list {H : Hp} {l : Addr} {xs ys : List V} (h : H l = some (.lst xs)) : Kd H (upd H l (.lst ys)) where
  tup := fun b zs e => by rw [upd_ne (ne_of e h (by intro z; cases z))]; exact e
  frz := fun b o u e => by rw [upd_ne (ne_of e h (by intro z; cases z))]; exact e
  lst := fun b zs e => by
    by_cases hb : b = l
    · rw [hb]
      exact ⟨ys, upd_same⟩
    · exact ⟨zs, by rw [upd_ne hb]; exact e⟩
  dct := fun b ks e => ⟨ks, by rw [upd_ne (ne_of e h (by intro z; cases z))]; exact e⟩
theorem Kd.del {H : Hp} {f : Addr} {φ : Heap → Prop} (h : H f = some (.ext φ)) : Kd H (delH H f) where
  tup := fun b zs e => by rw [delH_ne (ne_of e h (by intro z; cases z))]; exact e
  frz := fun b o u e => by rw [delH_ne (ne_of e h (by intro z; cases z))]; exact e
  lst := fun b zs e => ⟨zs, by rw [delH_ne (ne_of e h (by intro z; cases z))]; exact e⟩
  dct := fun b ks e => ⟨ks, by rw [delH_ne (ne_of e h (by intro z; cases z))]; exact e⟩
theorem Kd.sqT {K : PySem.W.Frag} {H H' : Hp} {a : Addr} {xs : List V} (k : Kd H H') (h : SqT K H a xs) : SqT K H' a xs := by
  rcases h with (h | ⟨o, h⟩) | h
  · exact SqT.of (k.tup _ _ h)
  · exact .inl (.inr ⟨o, k.frz _ _ _ h⟩)
  · exact .inr h
theorem Kd.ty {K : PySem.W.Frag} {H H' : Hp} {x : V} {T : String} (k : Kd H H') (t : TyB K H x T) : TyB K H' x T := by
  cases t with
  | non => exact .non
  | bl b => exact .bl b
  | int i => exact .int i
  | str x => exact .str x
  | byt b => exact .byt b
  | lst h =>
    rcases h with (h | ⟨o, h⟩) | h
    · obtain ⟨ys, z⟩ := k.lst _ _ h
      exact .lst (SqL.of z)
    · exact .lst (.inl (.inr ⟨o, k.frz _ _ _ h⟩))
    · exact .lst (.inr h)
  | tup h => exact .tup (k.sqT h)
  | dK h =>
    obtain ⟨ls, z⟩ := k.dct _ _ h
    exact .dK z
theorem Kd.kn {K : PySem.W.Frag} {H H' : Hp} {x : V} (k : Kd H H') (h : Kn K H x) : Kn K H' x := by
  obtain ⟨⟨T, t, ok⟩, z⟩ := h
  exact ⟨⟨T, k.ty t, ok⟩, z⟩
theorem Kd.asked {K : PySem.W.Frag} {H H' : Hp} {x : V} {b : Bool} (k : Kd H H') (h : Asked K H x b) : Asked K H' x b := by
  rcases h with ⟨T, t, ok, ne, e⟩ | ⟨a, xs, e, h1, h2, e2⟩
  · exact .inl ⟨T, k.ty t, ok, ne, e⟩
  · exact .inr ⟨a, xs, e, k.sqT h1, fun l y hy => k.kn (h2 l y hy), e2⟩
theorem Dr.ext {H H' : Hp} {d g c : Addr} (D : Dr H d g c) (s : ExtN H H') : Dr H' d g c := by
  obtain ⟨⟨r, t, h1⟩, ⟨gs, h2, h3⟩, ⟨cs, h4, h5⟩, h6⟩ := D
  exact ⟨⟨r, t, s _ _ h1 (fun _ z => nomatch z)⟩, ⟨gs, s _ _ h2 (fun _ z => nomatch z), h3⟩, ⟨cs, s _ _ h4 (fun _ z => nomatch z), h5⟩, h6⟩
theorem Dr.del {H : Hp} {d g c f : Addr} {φ : Heap → Prop} (D : Dr H d g c) (h : H f = some (.ext φ)) : Dr (delH H f) d g c := by
  obtain ⟨⟨r, t, h1⟩, ⟨gs, h2, h3⟩, ⟨cs, h4, h5⟩, h6⟩ := D
  exact ⟨⟨r, t, by rw [delH_ne (ne_of h1 h (by intro z; cases z))]; exact h1⟩, ⟨gs, by rw [delH_ne (ne_of h2 h (by intro z; cases z))]; exact h2, h3⟩, ⟨cs, by rw [delH_ne (ne_of h4 h (by intro z; cases z))]; exact h4, h5⟩, h6⟩
theorem Dr.updl {H : Hp} {d g c l : Addr} {xs : List V} (D : Dr H d g c) (n1 : l ≠ d) (n2 : l ≠ g) (n3 : l ≠ c) : Dr (upd H l (.lst xs)) d g c := by
  obtain ⟨⟨r, t, h1⟩, ⟨gs, h2, h3⟩, ⟨cs, h4, h5⟩, h6⟩ := D
  exact ⟨⟨r, t, by rw [upd_ne n1.symm]; exact h1⟩, ⟨gs, by rw [upd_ne n2.symm]; exact h2, h3⟩, ⟨cs, by rw [upd_ne n3.symm]; exact h4, h5⟩, h6⟩
theorem Dr.newc {d g c p : Addr} {H : Hp} (D : Dr H d g c) (hn : H p = none) : p ≠ d ∧ p ≠ g ∧ p ≠ c := by
  obtain ⟨h1, h2⟩ := D.new hn
  obtain ⟨_, _, ⟨cs, h4, _⟩, _⟩ := D
  exact ⟨h1, h2, fun z => by rw [z, h4] at hn; cases hn⟩
theorem Dn.tabs {d g c : Addr} {H H' : Hp} {T : List (Addr × Str)} (s : Dn d g H H') (D : Dr H d g c) (h : Tabs T H) : Tabs T H' := by
  obtain ⟨⟨r, t, h1⟩, ⟨gs, h2, _⟩, _, _⟩ := D
  intro p hp
  obtain ⟨ps, e1, e2, e3⟩ := h p hp
  refine ⟨ps, s _ _ e1 (ne_of e1 h1 (by intro z; cases z)) (ne_of e1 h2 (by intro z; cases z)), e2, fun pos cv hc => ?_⟩
  obtain ⟨c0, e4, e5⟩ := e3 pos cv hc
  exact ⟨c0, e4, s _ _ e5 (ne_of e5 h1 (by intro z; unfold CodeO at z; cases z)) (ne_of e5 h2 (by intro z; unfold CodeO at z; cases z))⟩
end Dt
/-! zip of two and enumerate, over any of a list, a tuple, a text -/
namespace L2X
open PySem PySem.Spec PyProof.Rows L2
inductive Src
  | lst (a : Addr)
  | tup (a : Addr)
  | txt (z : Str)
def chars (z : Str) : List V := z.cps.toList.map fun c => V.str ⟨#[c]⟩
/-- what stands in it -/
def Src.has (K : PySem.W.Frag) (H : Hp) : Src → List V → Prop
  | .lst a, xs => SqL K H a xs
  | .tup a, xs => SqT K H a xs
  | .txt z, xs => xs = chars z
def Src.val : Src → V
  | .lst a => .ref a
  | .tup a => .ref a
  | .txt z => .str z
/-- its iterator at its i-th item -/
def Src.it (it : Addr) (i : Nat) (h : Heap) : Src → Prop
  | .lst a => h.IsListIter it a i
  | .tup a => h.IsTupleIter it a i
  | .txt z => ∃ t, h.IsStrIter it (strIterType z) z t i
def Src.off (c : Addr) : Src → Prop
  | .lst a => a ≠ c
  | .tup a => a ≠ c
  | .txt _ => True
theorem Src.it_obj {S : Src} {it : Addr} {i : Nat} {h : Heap} (e : S.it it i h) : ∃ o, h.get? it = some o ∧ ∀ v, o.data ≠ .cell v := by
  cases S with
  | lst a =>
    obtain ⟨o, e1, _, d⟩ := e
    exact ⟨o, e1, fun v q => by rw [d] at q; cases q⟩
  | tup a =>
    obtain ⟨o, e1, _, d⟩ := e
    exact ⟨o, e1, fun v q => by rw [d] at q; cases q⟩
  | txt z =>
    obtain ⟨t, o, e1, _, d⟩ := e
    exact ⟨o, e1, fun v q => by rw [d] at q; cases q⟩
theorem Src.it_at {S : Src} {it : Addr} {i : Nat} {h h' : Heap} (e : S.it it i h) (k : ∀ o, h.get? it = some o → h'.get? it = some o) : S.it it i h' := by
  cases S with
  | lst a => exact Heap.IsListIter.at e k
  | tup a => exact Heap.IsTupleIter.at e k
  | txt z =>
    obtain ⟨t, o, e1, e2, d⟩ := e
    exact ⟨t, o, k _ e1, e2, d⟩
section
variable {X : Cx} {pins : List (Addr × Obj)} {σ : L2.St} {H : Hp} {s : Shared}
theorem Src.inj {S : Src} {xs ys : List V} (I : Inv X pins σ H s) (h : S.has X.K H xs) (h' : S.has X.K H ys) : xs = ys := by
  cases S with
  | lst a => exact I.list_inj h h'
  | tup a => exact I.tuple_inj h h'
  | txt z => exact Eq.trans h (Eq.symm h')
/-- what its iterator draws, now -/
theorem Src.draws {S : Src} {xs : List V} {it : Addr} {i : Nat} {A : Around} (I : Inv X pins σ H s) (hh : A.handled = none) (h : S.has X.K H xs) (st : S.it it i s.heap) (off : S.off it) :
    ∃ (fp : List Addr) (P : Nat → Value → Prop) (St : Nat → Heap → Prop), Draws X.prog X.w A it fp xs.length P St ∧ St i s.heap ∧ it ∈ fp ∧ (∀ c, c ≠ it → S.off c → c ∉ fp) ∧ (∀ j v, P j v → ∃ x, xs[j]? = some x ∧ RelV x v) ∧ (∀ j h, St j h → S.it it j h) := by
  cases S with
  | lst a =>
    obtain ⟨its, rv, p, _⟩ := I.list h
    have el : its.toArray.size = xs.length := by rw [rv.length]; simp
    rw [← el]
    refine ⟨[it, a], _, _, Draws.list hh it a off its.toArray, ⟨st, p.isList⟩, by simp, fun c hc ho hm => ?_, fun j v hv => ?_, fun j h e => e.1⟩
    · have e' : c = it ∨ c = a := by simpa using hm
      rcases e' with e' | e'
      · exact hc e'
      · exact ho e'.symm
    · have hv' : its[j]? = some v := by simpa using hv
      have hj : j < xs.length := by
        rw [← el]
        have := (List.getElem?_eq_some_iff.mp hv').1
        simpa using this
      obtain ⟨u, hu, ru⟩ := rv.get (List.getElem?_eq_getElem hj)
      rw [hv'] at hu
      cases hu
      exact ⟨_, List.getElem?_eq_getElem hj, ru⟩
  | tup a =>
    obtain ⟨its, rv, p, _⟩ := I.tuple h
    have el : its.toArray.size = xs.length := by rw [rv.length]; simp
    rw [← el]
    refine ⟨[it, a], _, _, Draws.tuple hh it a off its.toArray, ⟨st, p⟩, by simp, fun c hc ho hm => ?_, fun j v hv => ?_, fun j h e => e.1⟩
    · have e' : c = it ∨ c = a := by simpa using hm
      rcases e' with e' | e'
      · exact hc e'
      · exact ho e'.symm
    · have hv' : its[j]? = some v := by simpa using hv
      have hj : j < xs.length := by
        rw [← el]
        have := (List.getElem?_eq_some_iff.mp hv').1
        simpa using this
      obtain ⟨u, hu, ru⟩ := rv.get (List.getElem?_eq_getElem hj)
      rw [hv'] at hu
      cases hu
      exact ⟨_, List.getElem?_eq_getElem hj, ru⟩
  | txt z =>
    obtain ⟨t, st⟩ := st
    have hx : xs = chars z := h
    have el : z.cps.size = xs.length := by rw [hx]; simp [chars]
    rw [← el]
    refine ⟨[it], _, _, Draws.text hh it z t, st, by simp, fun c hc _ hm => hc (by simpa using hm), fun j v hv => ?_, fun j h e => ⟨t, e⟩⟩
    obtain ⟨c, u, e1, rfl⟩ := hv
    refine ⟨.str ⟨#[c]⟩, ?_, _, rfl⟩
    rw [hx]
    unfold chars
    rw [List.getElem?_map, Array.getElem?_toList, e1]
    rfl
/-- two things at each turn, in new pairs -/
def ItzG (K : PySem.W.Frag) (A B : Src) : It :=
  ⟨fun i H => ∃ (xs ys : List V) (x y : V), A.has K H xs ∧ B.has K H ys ∧ xs[i]? = some x ∧ ys[i]? = some y,
    fun i H v H' => ∃ T x y, v = .ref T ∧ H T = none ∧ H' = upd H T (.tup [x, y]) ∧ (∀ xs, A.has K H xs → xs[i]? = some x) ∧ ∀ ys, B.has K H ys → ys[i]? = some y,
    fun i H => ∃ xs ys : List V, A.has K H xs ∧ B.has K H ys ∧ (xs.length = i ∧ i ≤ ys.length ∨ ys.length = i ∧ i ≤ xs.length)⟩
structure Apart5 (A B : Src) (z TI TO i1 i2 : Addr) : Prop where
  TIz : TI ≠ z
  TOz : TO ≠ z
  i1z : i1 ≠ z
  i2z : i2 ≠ z
  TITO : TI ≠ TO
  TIi1 : TI ≠ i1
  TIi2 : TI ≠ i2
  TOi1 : TO ≠ i1
  TOi2 : TO ≠ i2
  i12 : i1 ≠ i2
  az : A.off z
  aT : A.off TO
  a1 : A.off i1
  a2 : A.off i2
  bz : B.off z
  bT : B.off TO
  b1 : B.off i1
  b2 : B.off i2
theorem turn_zipG {P : Program} {w : World} {K : PySem.W.Frag} {elts : List Expr} {kk : Nat} {tpos : Pos} {A B : Src} {z TI TO i1 i2 : Addr} (D : Apart5 A B z TI TO i1 i2) :
    Turn P w K (.Tuple elts kk tpos) (ItzG K A B) [z, TI, TO, i1, i2] z (fun i h => IsZip h z TI TO .none ∧ IsTupOf2 h TI (.ref i1) (.ref i2) ∧ (∃ x y, IsTupOf2 h TO x y) ∧ A.it i1 i h ∧ B.it i2 i h) where
  mem := by simp
  obj := fun i h st c hc => by
    obtain ⟨hz, hTI, ⟨x, y, hTO⟩, h1, h2⟩ := st
    have e' : c = z ∨ c = TI ∨ c = TO ∨ c = i1 ∨ c = i2 := by simpa using hc
    rcases e' with q | q | q | q | q
    · rw [q]; exact ⟨_, hz, fun v q => nomatch q⟩
    · rw [q]; exact ⟨_, hTI, fun v q => nomatch q⟩
    · rw [q]; exact ⟨_, hTO, fun v q => nomatch q⟩
    · rw [q]; exact Src.it_obj h1
    · rw [q]; exact Src.it_obj h2
  keep := fun i h h' st k => by
    obtain ⟨hz, hTI, ⟨x, y, hTO⟩, h1, h2⟩ := st
    exact ⟨k z (by simp) _ hz, k TI (by simp) _ hTI, ⟨x, y, k TO (by simp) _ hTO⟩, Src.it_at h1 fun o q => k i1 (by simp) o q, Src.it_at h2 fun o q => k i2 (by simp) o q⟩
  item := by
    intro X hP hw hK hc i pins s σ H E I hf st hg
    subst hP hw hK
    obtain ⟨hz, hTI, ⟨x0, y0, hTO⟩, h1, h2⟩ := st
    obtain ⟨xs, ys, x, y, hqx, hqy, hx, hy⟩ := hg
    obtain ⟨f1, P1, S1, D1, s1, m1, o1, p1, t1⟩ := Src.draws (A := X.A.in1) I (I.ok.hd hc) hqx h1 D.a1
    obtain ⟨f2, P2, S2, D2, s2, m2, o2, p2, t2⟩ := Src.draws (A := X.A.in1) I (I.ok.hd hc) hqy h2 D.b2
    have sep : ZipSep2 z TI TO i1 i2 f1 f2 := ⟨D.TIz, D.TOz, D.TITO, D.TIi1, m1, o1 _ D.i1z.symm D.az, o1 _ D.TOi1 D.aT, D.TIi2, m2, o2 _ D.i2z.symm D.bz, o2 _ D.TOi2 D.bT, o2 _ D.i12 D.b1, o1 _ D.i12.symm D.a2⟩
    have hzl : z < s.heap.objs.size := Heap.lt_size hz
    refine wpAny_pyNext_zipD2_item sep D1 D2 hz hTI hTO s1 s2 (List.getElem?_eq_some_iff.mp hx).1 (List.getElem?_eq_some_iff.mp hy).1 fun u u2 h' tk q1 q2 z' TO' h1' h2' hT hsz hk => ?_
    obtain ⟨x', ex, ru⟩ := p1 _ _ q1
    rw [hx] at ex
    cases ex
    obtain ⟨y', ey, ru2⟩ := p2 _ _ q2
    rw [hy] at ey
    cases ey
    refine ⟨_, rfl, wpAny_letOwnedTupleGo_zip (s := { s with heap := h', toks := tk }) z' fun h'' z'' sb => ?_⟩
    have hT2 : h''.get? s.heap.objs.size = some { cls := .type "tuple", data := .seq #[u, u2] } := (sb.2 _ (Nat.ne_of_gt hzl)).trans hT
    have new : ObjOk X.prog X.w (upd H s.heap.objs.size (.tup [x, y])) h'' s.heap.objs.size (.tup [x, y]) :=
      ⟨by show 2 ≤ sizeLine; decide, [u, u2], .cons ru (.cons ru2 .nil), ⟨_, hT2, rfl, _, rfl⟩⟩
    have I1 : Inv X pins σ (upd H s.heap.objs.size (.tup [x, y])) { s with heap := h'', toks := tk } :=
      I.turnedNew (t' := tk) (ch := [z, TI, TO, i1, i2]) (fun c o hb q => (sb.2 c (fun q' => hb (by simp [q']))).trans (hk c o (fun q' => hb (by simp [q'])) (fun q' => hb (by simp [q'])) (fun q' => hb (by simp [q'])) (fun q' => hb (by simp [q'])) q)) hf (Nat.le_refl _) new
    refine ⟨.ref s.heap.objs.size, _, I1, rfl, ⟨_, x, y, rfl, I.hok.fresh (Nat.le_refl _), rfl, fun l hl => by rw [Src.inj I hl hqx]; exact hx, fun l hl => by rw [Src.inj I hl hqy]; exact hy⟩, ⟨z'', ?_, ⟨u, u2, ?_⟩, ?_, ?_⟩, fun c hcm => ?_⟩
    · exact (sb.2 _ D.TIz).trans (hk _ _ D.TIz D.TITO D.TIi1 D.TIi2 hTI)
    · exact (sb.2 _ D.TOz).trans TO'
    · exact Src.it_at (t1 _ _ h1') fun o q => (sb.2 _ D.i1z).trans q
    · exact Src.it_at (t2 _ _ h2') fun o q => (sb.2 _ D.i2z).trans q
    · have hlt : c < s.heap.objs.size := by
        have e' : c = z ∨ c = TI ∨ c = TO ∨ c = i1 ∨ c = i2 := by simpa using hcm
        rcases e' with q | q | q | q | q
        · rw [q]; exact hzl
        · rw [q]; exact Heap.lt_size hTI
        · rw [q]; exact Heap.lt_size hTO
        · rw [q]; obtain ⟨_, e1, _⟩ := Src.it_obj h1; exact Heap.lt_size e1
        · rw [q]; obtain ⟨_, e2, _⟩ := Src.it_obj h2; exact Heap.lt_size e2
      rw [upd_ne (Nat.ne_of_lt hlt)]
      exact (hf c hcm).1
  done := by
    intro X hP hw hK hc i pins s σ H E I hf st hg
    subst hP hw hK
    obtain ⟨hz, hTI, ⟨x0, y0, hTO⟩, h1, h2⟩ := st
    obtain ⟨xs, ys, hqx, hqy, hend⟩ := hg
    obtain ⟨f1, P1, S1, D1, s1, m1, o1, p1, t1⟩ := Src.draws (A := X.A.in1) I (I.ok.hd hc) hqx h1 D.a1
    obtain ⟨f2, P2, S2, D2, s2, m2, o2, p2, t2⟩ := Src.draws (A := X.A.in1) I (I.ok.hd hc) hqy h2 D.b2
    have sep : ZipSep2 z TI TO i1 i2 f1 f2 := ⟨D.TIz, D.TOz, D.TITO, D.TIi1, m1, o1 _ D.i1z.symm D.az, o1 _ D.TOi1 D.aT, D.TIi2, m2, o2 _ D.i2z.symm D.bz, o2 _ D.TOi2 D.bT, o2 _ D.i12 D.b1, o1 _ D.i12.symm D.a2⟩
    exact wpAny_pyNext_zipD2_end sep D1 D2 hz hTI hTO s1 s2 (by omega) (by omega) (by omega) fun h' tk hk => ⟨rfl, I.turnedL (t' := tk) (ch := [z, TI, TO, i1, i2]) (fun c o hb q =>
      hk c o (fun q' => hb (by simp [q'])) (fun q' => hb (by simp [q'])) (fun q' => hb (by simp [q'])) (fun q' => hb (by simp [q'])) q) hf⟩
  self := fun A i s Q E st h => wpAny_pyIter_zip st.1 h
/-- how a source begins -/
theorem Src.begins {S : Src} {xs : List V} {u : Value} (I : Inv X pins σ H s) (h : S.has X.K H xs) (r : RelV S.val u) : ∃ (o : Obj) (Hh : Heap → Prop), Begins u o Hh ∧ Hh s.heap ∧ (∀ (h' : Heap) (it : Addr), h'.get? it = some o → S.it it 0 h') ∧ ∀ c, s.heap.objs.size ≤ c → S.off c := by
  cases S with
  | lst a =>
    cases r
    obtain ⟨its, rv, p, _⟩ := I.list h
    exact ⟨_, _, begins_list a its.toArray, p.isList, fun h' it e => ⟨_, e, rfl, rfl⟩, fun c hc => Nat.ne_of_lt (Nat.lt_of_lt_of_le p.lt hc)⟩
  | tup a =>
    cases r
    obtain ⟨its, rv, p, _⟩ := I.tuple h
    obtain ⟨o, e, _⟩ := id p
    exact ⟨_, _, begins_tuple a its.toArray, p, fun h' it e => ⟨_, e, rfl, rfl⟩, fun c hc => Nat.ne_of_lt (Nat.lt_of_lt_of_le (Heap.lt_size e) hc)⟩
  | txt z =>
    obtain ⟨t, rfl⟩ := r
    exact ⟨_, _, begins_text z t, trivial, fun h' it e => ⟨t, _, e, rfl, rfl⟩, fun _ _ => trivial⟩
theorem ap_ne (N a b : Nat) (h : a ≠ b) : N + a ≠ N + b := by omega
theorem apart5_new {A B : Src} {N : Nat} (f1 : ∀ c, N ≤ c → A.off c) (f2 : ∀ c, N ≤ c → B.off c) : Apart5 A B (N + 4) (N + 2) (N + 3) N (N + 1) :=
  ⟨ap_ne N 2 4 (by decide), ap_ne N 3 4 (by decide), ap_ne N 0 4 (by decide), ap_ne N 1 4 (by decide), ap_ne N 2 3 (by decide), ap_ne N 2 0 (by decide), ap_ne N 2 1 (by decide), ap_ne N 3 0 (by decide), ap_ne N 3 1 (by decide), ap_ne N 0 1 (by decide),
    f1 _ (Nat.le_add_right _ _), f1 _ (Nat.le_add_right _ _), f1 _ (Nat.le_refl _), f1 _ (Nat.le_add_right _ _), f2 _ (Nat.le_add_right _ _), f2 _ (Nat.le_add_right _ _), f2 _ (Nat.le_refl _), f2 _ (Nat.le_add_right _ _)⟩
def iZipG (K : PySem.W.Frag) (ta : TA) : TI := fun σ H R => ta σ H fun vs H1 => ∃ (A B : Src) (xs ys : List V), vs = [A.val, B.val] ∧ A.has K H1 xs ∧ B.has K H1 ys ∧ R (ItzG K A B) H1
theorem pi_zipG {X : Cx} {e e2 : Expr} {ta : TA} {p pos tpos : Pos} {elts : List Expr} {kk : Nat} (hg : Gl X "zip") (hm : X.mg "zip" = none) (ha : PA X [e, e2] ta)
    (hs : starEach [e, e2] X.env = (false, eval e X.env) :: starEach [e2] X.env := by rfl) (hpl : (backTo pos (starEach [e2] X.env)).any (·.1) = false := by rfl) :
    PI X (.Tuple elts kk tpos) (.Call (.Name "zip" p) [e, e2] [] pos) (iZipG X.K ta) := by
  refine ⟨fun pins s σ H R I h => ?_⟩
  refine Call_ (ld_blt I hg hm PyProof.Rows.boot_zip (PyProof.Rows.callWith_type1 (thn (ha.run pos pins s σ H _ I h) fun us s1 ⟨vs, H1, I1, r1, q1⟩ => ?_) hs hpl))
  obtain ⟨A, B, xs, ys, ex, ha1, hb1, q⟩ := q1
  subst ex
  cases r1 with
  | cons r rr =>
    cases rr with
    | cons r' rr =>
      cases rr
      obtain ⟨o1, G1, B1, g1, n1, f1⟩ := Src.begins I1 ha1 r
      obtain ⟨o2, G2, B2, g2, n2, f2⟩ := Src.begins I1 hb1 r'
      refine zip_begins2 B1 B2 g1 g2 fun h' hz hTI hTO e1 e2 hsz hk => wpAny_pyIter_zip hz ?_
      have I2 : Inv X pins σ H1 { s1 with heap := h' } := I1.kept (t' := s1.toks) hk
      have ap : Apart5 A B (s1.heap.objs.size + 4) (s1.heap.objs.size + 2) (s1.heap.objs.size + 3) s1.heap.objs.size (s1.heap.objs.size + 1) :=
        apart5_new f1 f2
      refine ⟨s1.heap.objs.size + 4, [s1.heap.objs.size + 4, s1.heap.objs.size + 2, s1.heap.objs.size + 3, s1.heap.objs.size, s1.heap.objs.size + 1], _, _, H1, rfl, I2, turn_zipG ap, ⟨hz, hTI, ⟨_, _, hTO⟩, n1 _ _ e1, n2 _ _ e2⟩, fun c hcm => ?_, q⟩
      have e' : c = s1.heap.objs.size + 4 ∨ c = s1.heap.objs.size + 2 ∨ c = s1.heap.objs.size + 3 ∨ c = s1.heap.objs.size ∨ c = s1.heap.objs.size + 1 := by simpa using hcm
      have hle : s1.heap.objs.size ≤ c := by
        rcases e' with z | z | z | z | z
        · rw [z]; exact Nat.le_add_right _ _
        · rw [z]; exact Nat.le_add_right _ _
        · rw [z]; exact Nat.le_add_right _ _
        · rw [z]; exact Nat.le_refl _
        · rw [z]; exact Nat.le_add_right _ _
      exact I1.fpOk hle (I1.hok.fresh hle)
/-! ### enumerate -/
def IteG (K : PySem.W.Frag) (A : Src) : It :=
  ⟨fun i H => ∃ (xs : List V) (x : V), A.has K H xs ∧ xs[i]? = some x, fun i H v H' => ∃ T x, v = .ref T ∧ H T = none ∧ H' = upd H T (.tup [.int (i : Nat), x]) ∧ ∀ xs, A.has K H xs → xs[i]? = some x, fun i H => ∃ xs : List V, A.has K H xs ∧ xs.length = i⟩
theorem turn_enumG {P : Program} {w : World} {K : PySem.W.Frag} {elts : List Expr} {kk : Nat} {tpos : Pos} {A : Src} {e it : Addr} (hne : e ≠ it) (oe : A.off e) (oi : A.off it) :
    Turn P w K (.Tuple elts kk tpos) (IteG K A) [e, it] e (fun i h => (∃ old, IsEnum h e it ((i : Nat) : Int) old) ∧ A.it it i h) where
  mem := by simp
  obj := fun i h st b hb => by
    obtain ⟨⟨old, he⟩, hi⟩ := st
    have e' : b = e ∨ b = it := by simpa using hb
    rcases e' with z | z
    · rw [z]; exact ⟨_, he, fun v q => nomatch q⟩
    · rw [z]; exact Src.it_obj hi
  keep := fun i h h' st k => let ⟨⟨old, he⟩, hi⟩ := st; ⟨⟨old, k e (by simp) _ he⟩, Src.it_at hi fun o q => k it (by simp) o q⟩
  item := by
    intro X hP hw hK hc i pins s σ H E I hf st hg
    subst hP hw hK
    obtain ⟨⟨old, he⟩, hit⟩ := st
    obtain ⟨xs, x, hq, hx⟩ := hg
    obtain ⟨f1, P1, S1, D1, s1, m1, o1, p1, t1⟩ := Src.draws (A := X.A.in1) I (I.ok.hd hc) hq hit oi
    have hel : e < s.heap.objs.size := Heap.lt_size he
    have hil : it < s.heap.objs.size := by obtain ⟨_, q, _⟩ := Src.it_obj hit; exact Heap.lt_size q
    refine wpAny_pyNext_enum_itemD D1 he s1 (List.getElem?_eq_some_iff.mp hx).1 hne (o1 _ hne oe) fun u h' tk q1 ho hit' hT hsz hk => ?_
    obtain ⟨x', ex, ru⟩ := p1 _ _ q1
    rw [hx] at ex
    cases ex
    refine ⟨_, rfl, wpAny_letOwnedTupleGo_enum (s := { s with heap := h', toks := tk + 1 }) ho fun h'' he' sb => ?_⟩
    have hT2 : h''.get? s.heap.objs.size = some { cls := .type "tuple", data := .seq #[.int i tk, u] } := (sb.2 _ (Nat.ne_of_gt hel)).trans hT
    have new : ObjOk X.prog X.w (upd H s.heap.objs.size (.tup [.int (i : Nat), x])) h'' s.heap.objs.size (.tup [.int (i : Nat), x]) :=
      ⟨by show 2 ≤ sizeLine; decide, [.int i tk, u], .cons ⟨_, rfl⟩ (.cons ru .nil), ⟨_, hT2, rfl, _, rfl⟩⟩
    have I1 : Inv X pins σ (upd H s.heap.objs.size (.tup [.int (i : Nat), x])) { s with heap := h'', toks := tk + 1 } :=
      I.turnedNew (t' := tk + 1) (ch := [e, it]) (fun b ob hb q => (sb.2 b (fun z => hb (by simp [z]))).trans (hk b ob (fun z => hb (by simp [z])) (fun z => hb (by simp [z])) q)) hf (Nat.le_refl _) new
    refine ⟨.ref s.heap.objs.size, _, I1, rfl, ⟨_, x, rfl, I.hok.fresh (Nat.le_refl _), rfl, fun ys hy => by rw [Src.inj I hy hq]; exact hx⟩, ⟨⟨u, ?_⟩, Src.it_at (t1 _ _ hit') fun o q => (sb.2 it (Ne.symm hne)).trans q⟩, fun b hb => ?_⟩
    · have e1 : ((i + 1 : Nat) : Int) = (i : Int) + 1 := by omega
      rw [e1]; exact he'
    · have hb' : b < s.heap.objs.size := by
        have e' : b = e ∨ b = it := by simpa using hb
        rcases e' with z | z
        · rw [z]; exact hel
        · rw [z]; exact hil
      rw [upd_ne (Nat.ne_of_lt hb')]
      exact (hf b hb).1
  done := by
    intro X hP hw hK hc i pins s σ H E I hf st hg
    subst hP hw hK
    obtain ⟨⟨old, he⟩, hit⟩ := st
    obtain ⟨xs, hq, hx⟩ := hg
    subst hx
    obtain ⟨f1, P1, S1, D1, s1, m1, o1, p1, t1⟩ := Src.draws (A := X.A.in1) I (I.ok.hd hc) hq hit oi
    obtain ⟨f0, f1', f2, f3, f4, f5⟩ := hf it (by simp)
    exact wpAny_pyNext_enum_endD D1 he s1 fun h' eb => ⟨rfl, I.turned (t' := s.toks) (fun b o hb q => eb b o hb q) f0 f1' f3 f4 f5⟩
  self := fun A i s Q E st h => let ⟨⟨_, he⟩, _⟩ := st; wpAny_pyIter_enum he h
theorem meets_enumerate_new1B {v : Value} {o : Obj} {H : Heap → Prop} (B : Begins v o H) :
    Meets (Builtin.«enumerate.__new__» ⟨[.type "enumerate", v], []⟩) (fun _ R s => H s.heap ∧
      R (.ok (.ret (.ref (s.heap.push o).objs.size))) { s with heap := (s.heap.push o).push { cls := .type "enumerate", data := .fields #[.none, .bool false, .ref s.heap.objs.size, rawInt 0, .none, .none] } }) :=
  .of_wp fun prog w A R s h => by
    obtain ⟨hp, g, d, tk, os⟩ := s; obtain ⟨h1, h⟩ := h
    have hsub := sub_enumerate
    have q1 : ∀ {A' : Around} {E : Value → Shared → Prop} {Q : Value → Shared → Prop}, Q (.ref hp.objs.size) ⟨hp.push o, g, d, tk, os⟩ → wpAny (model prog w) A' (pyIter v) Q E ⟨hp, g, d, tk, os⟩ :=
      fun q => B.iter prog w _ _ ⟨hp, g, d, tk, os⟩ _ h1 q
    wp_walk
    refine wpAny_stack_any fun st => wpAny_pure ?_
    split
    · rename_i c _ _ _ _ _
      cases (c == Value.type "enumerate")
      · wp_walk using q1
        exact ⟨_, rfl, h⟩
      · wp_walk using q1
        exact ⟨_, rfl, h⟩
    · wp_walk using q1
      exact ⟨_, rfl, h⟩
theorem enum_begins1 {prog : Program} {w : World} {A : Around} {E : Value → Shared → Prop} {s : Shared} {v : Value} {o : Obj} {H : Heap → Prop} {Q : Value → Shared → Prop} (B : Begins v o H) (h1 : H s.heap)
    (h : ∀ h', IsEnum h' (s.heap.objs.size + 1) s.heap.objs.size 0 .none → h'.get? s.heap.objs.size = some o → h'.objs.size = s.heap.objs.size + 2 →
      (∀ b o, s.heap.get? b = some o → h'.get? b = some o) → Q (.ref (s.heap.objs.size + 1)) { s with heap := h' }) :
    wpAny (model prog w) A (call (.type "enumerate") [v]) Q E s := by
  refine callType_new F.called_enumerate (by decide) (F.typeCall_enumerate_1 _) (F.newCall_enumerate_1 _) (fun obj => F.args_object_init_2 obj _) F.entry_enumerate_new
    (meets_enumerate_new1B B) ⟨h1, ?_⟩
  have hz : (s.heap.push o).objs.size = s.heap.objs.size + 1 := Heap.size_push ..
  show _ ∧ _
  rw [hz]
  have he : IsEnum ((s.heap.push o).push { cls := .type "enumerate", data := .fields #[.none, .bool false, .ref s.heap.objs.size, rawInt 0, .none, .none] }) (s.heap.objs.size + 1) s.heap.objs.size 0 .none := by
    have := Heap.get?_push_size (s.heap.push o) (o := { cls := .type "enumerate", data := .fields #[.none, .bool false, .ref s.heap.objs.size, rawInt 0, .none, .none] }) rfl
    rw [hz] at this
    exact this
  exact ⟨⟨_, he, rfl⟩, h _ he (Heap.get?_push_of_some _ (Heap.get?_push_size _ B.free)) (by rw [Heap.size_push, hz]) fun b o x => Heap.get?_push_of_some _ (Heap.get?_push_of_some _ x)⟩
def iEnumG (K : PySem.W.Frag) (ta : TA) : TI := fun σ H R => ta σ H fun vs H1 => ∃ (A : Src) (xs : List V), vs = [A.val] ∧ A.has K H1 xs ∧ R (IteG K A) H1
theorem pi_enumG {X : Cx} {e : Expr} {ta : TA} {p pos tpos : Pos} {elts : List Expr} {kk : Nat} (hg : Gl X "enumerate") (hm : X.mg "enumerate" = none) (ha : PA X [e] ta) (hs : starEach [e] X.env = [(false, eval e X.env)] := by rfl) :
    PI X (.Tuple elts kk tpos) (.Call (.Name "enumerate" p) [e] [] pos) (iEnumG X.K ta) := by
  refine ⟨fun pins s σ H R I h => ?_⟩
  refine Call_ (ld_blt I hg hm boot_enumerate (PyProof.Rows.callWith_type1 (thn (ha.run pos pins s σ H _ I h) fun us s1 ⟨vs, H1, I1, r1, q1⟩ => ?_) hs rfl))
  obtain ⟨A, xs, ex, hq, q⟩ := q1
  subst ex
  cases r1 with
  | cons r rr =>
    cases rr
    obtain ⟨o1, G1, B1, g1, n1, f1⟩ := Src.begins I1 hq r
    refine enum_begins1 B1 g1 fun h' he hit hsz hk => wpAny_pyIter_enum he ?_
    have I2 : Inv X pins σ H1 { s1 with heap := h' } := I1.kept (t' := s1.toks) hk
    refine ⟨s1.heap.objs.size + 1, [s1.heap.objs.size + 1, s1.heap.objs.size], _, _, H1, rfl, I2, turn_enumG (Nat.succ_ne_self _) (f1 _ (Nat.le_add_right _ _)) (f1 _ (Nat.le_refl _)), ⟨⟨.none, he⟩, n1 _ _ hit⟩, fun b hb => ?_, q⟩
    have e' : b = s1.heap.objs.size + 1 ∨ b = s1.heap.objs.size := by simpa using hb
    have hle : s1.heap.objs.size ≤ b := by
      rcases e' with z | z
      · rw [z]; exact Nat.le_add_right _ _
      · rw [z]; exact Nat.le_refl _
    exact I1.fpOk hle (I1.hok.fresh hle)
end
end L2X
/-! comprehensions and loops over zip and enumerate of anything -/
namespace L2X
open PySem PySem.Spec PyProof.Rows L2
theorem lc_zipG {K : PySem.W.Frag} {A B : Src} {xs ys : List V} {g : TG} {tt : TT} {te : TE} {vs : List Nat} {σ : L2.St} {H1 : Hp} {D : Addr} {Qd : Hp → Prop} (hn : xs.length = ys.length) (Pv : Nat → Hp → Prop) (h0 : Pv 0 (upd H1 D (.lst []))) (hl : ∀ i H, i ≤ xs.length → Pv i H → A.has K H xs ∧ B.has K H ys)
    (hs : ∀ i x y H T, xs[i]? = some x → ys[i]? = some y → Pv i H → H T = none → g (.ref T) (wipe σ vs) (upd H T (.tup [x, y])) fun σ2 H2 => wipe σ2 vs = wipe σ vs ∧ tt σ2 H2 fun b H3 =>
      if b = true then te σ2 H3 fun z H4 => ∃ acc, H4 D = some (.lst acc) ∧ acc.length < sizeLine ∧ Pv (i + 1) (upd H4 D (.lst (acc ++ [z]))) else Pv (i + 1) H3) (hd : ∀ H, Pv xs.length H → Qd H) :
    ∃ W : Nat → Nat → Hp → Prop, (∃ m, W 0 m (upd H1 D (.lst []))) ∧ ∀ i m H, W i m H →
      ((ItzG K A B).stop i H ∧ Qd H) ∨ ((ItzG K A B).go i H ∧ ∃ Nx : Hp → Prop, (∀ H', Nx H' → ∃ m', m' < m ∧ W (i + 1) m' H') ∧ ∀ x H', (ItzG K A B).yld i H x H' → g x (wipe σ vs) H' fun σ2 H2 => wipe σ2 vs = wipe σ vs ∧ tt σ2 H2 fun b H3 =>
        if b = true then te σ2 H3 fun y H4 => ∃ acc, H4 D = some (.lst acc) ∧ acc.length < sizeLine ∧ Nx (upd H4 D (.lst (acc ++ [y]))) else Nx H3) := by
  refine ⟨fun i m H => m = xs.length - i ∧ i ≤ xs.length ∧ Pv i H, ⟨xs.length, by simp, Nat.zero_le _, h0⟩, ?_⟩
  rintro i m H ⟨rfl, hi, p⟩
  obtain ⟨qx, qy⟩ := hl i H hi p
  by_cases hlt : i < xs.length
  · have hlt2 : i < ys.length := by omega
    have ex : xs[i]? = some xs[i] := List.getElem?_eq_getElem hlt
    have ey : ys[i]? = some ys[i] := List.getElem?_eq_getElem hlt2
    refine .inr ⟨⟨xs, ys, _, _, qx, qy, ex, ey⟩, Pv (i + 1), fun H' p' => ⟨xs.length - (i + 1), by omega, rfl, hlt, p'⟩, fun x H' y => ?_⟩
    obtain ⟨T, u, v, rfl, nT, rfl, z1, z2⟩ := y
    exact hs i u v H T (z1 xs qx) (z2 ys qy) p nT
  · have e : i = xs.length := by omega
    subst e
    exact .inl ⟨⟨xs, ys, qx, qy, .inl ⟨rfl, by omega⟩⟩, hd H p⟩
theorem lc_enumG {K : PySem.W.Frag} {A : Src} {xs : List V} {g : TG} {tt : TT} {te : TE} {vs : List Nat} {σ : L2.St} {H1 : Hp} {D : Addr} {Qd : Hp → Prop} (Pv : Nat → Hp → Prop) (h0 : Pv 0 (upd H1 D (.lst []))) (hl : ∀ i H, i ≤ xs.length → Pv i H → A.has K H xs)
    (hs : ∀ i x H T, xs[i]? = some x → Pv i H → H T = none → g (.ref T) (wipe σ vs) (upd H T (.tup [.int (i : Nat), x])) fun σ2 H2 => wipe σ2 vs = wipe σ vs ∧ tt σ2 H2 fun b H3 =>
      if b = true then te σ2 H3 fun z H4 => ∃ acc, H4 D = some (.lst acc) ∧ acc.length < sizeLine ∧ Pv (i + 1) (upd H4 D (.lst (acc ++ [z]))) else Pv (i + 1) H3) (hd : ∀ H, Pv xs.length H → Qd H) :
    ∃ W : Nat → Nat → Hp → Prop, (∃ m, W 0 m (upd H1 D (.lst []))) ∧ ∀ i m H, W i m H →
      ((IteG K A).stop i H ∧ Qd H) ∨ ((IteG K A).go i H ∧ ∃ Nx : Hp → Prop, (∀ H', Nx H' → ∃ m', m' < m ∧ W (i + 1) m' H') ∧ ∀ x H', (IteG K A).yld i H x H' → g x (wipe σ vs) H' fun σ2 H2 => wipe σ2 vs = wipe σ vs ∧ tt σ2 H2 fun b H3 =>
        if b = true then te σ2 H3 fun y H4 => ∃ acc, H4 D = some (.lst acc) ∧ acc.length < sizeLine ∧ Nx (upd H4 D (.lst (acc ++ [y]))) else Nx H3) := by
  refine ⟨fun i m H => m = xs.length - i ∧ i ≤ xs.length ∧ Pv i H, ⟨xs.length, by simp, Nat.zero_le _, h0⟩, ?_⟩
  rintro i m H ⟨rfl, hi, p⟩
  have qx := hl i H hi p
  by_cases hlt : i < xs.length
  · have ex : xs[i]? = some xs[i] := List.getElem?_eq_getElem hlt
    refine .inr ⟨⟨xs, _, qx, ex⟩, Pv (i + 1), fun H' p' => ⟨xs.length - (i + 1), by omega, rfl, hlt, p'⟩, fun x H' y => ?_⟩
    obtain ⟨T, u, rfl, nT, rfl, z1⟩ := y
    exact hs i u H T (z1 xs qx) p nT
  · have e : i = xs.length := by omega
    subst e
    exact .inl ⟨⟨xs, qx, rfl⟩, hd H p⟩
end L2X
namespace L2X
open PySem PySem.Spec PyProof.Rows L2
theorem eqAt_ty {A : Around} {s : Shared} {a b : String} (ha : tyOk a = true) (hb : tyOk b = true) : SeqAt.EqAt A s (.type a) (.type b) (decide (a = b)) := fun prog w E Q h => by
  unfold eqBool
  refine wpAny_holding ?_
  by_cases e : a = b
  · subst e
    rw [decide_eq_true rfl] at h
    refine wpAny_ite_split (fun _ => ?_) (fun n => absurd (beq_self_eq_true _) n)
    exact wpAny_pure (M := model prog w) (E := E) h
  · rw [decide_eq_false e] at h
    refine wpAny_ite_split (fun q => ?_) (fun _ => ?_)
    · rw [ty_ne e] at q
      cases q
    · have z : wpAny (model prog w) A (compareOp .Eq (.type a) (.type b)) (fun v s' => v = .bool false ∧ s' = s) E s := TypeEq.eq_type_other (tyOk_is ha) (tyOk_is hb) (ty_ne e) ⟨rfl, rfl⟩
      exact wpAny_bind (wpAny_mono z (fun v s' q => by
        obtain ⟨rfl, rfl⟩ := q
        exact wpAny_truthy_bool h) fun _ _ x => x)
def tyIs (a : String) : Value → Bool
  | .type T => decide (T = a)
  | _ => false
def rInTy (K : PySem.W.Frag) : R2 := fun x y H Q => ∃ (a : String) (p : Addr) (ts : List String), x = .ty a ∧ y = .ref p ∧ SqT K H p (ts.map V.ty) ∧ tyOk a = true ∧ ts.all tyOk = true ∧ Q (.bl (ts.any fun t => decide (t = a))) H
theorem vals_tys : ∀ {ts : List String} {us : List Value}, Vals (ts.map V.ty) us → us = ts.map Value.type
  | [], _, .nil => rfl
  | t :: ts, _, .cons r rr => by
    cases (show _ = Value.type t from r)
    rw [vals_tys rr]
    rfl
theorem op_in_ty {X : Cx} : OpR X (compareOp .In) (rInTy X.K) := by
  intro pins s σ H x y v u Q I rx ry h
  obtain ⟨a, p, ts, rfl, rfl, hq, ha, hts, q⟩ := h
  cases ry
  cases (show v = Value.type a from rx)
  obtain ⟨its, r, pl, hz⟩ := I.tuple hq
  have e := vals_tys r
  subst e
  refine SeqAt.in_tupleAt (tyIs a) pl (fun w hw => ?_) ⟨.bl _, H, I, rfl, ?_⟩
  · obtain ⟨t, ht, rfl⟩ : ∃ t, t ∈ ts ∧ w = Value.type t := by
      obtain ⟨t, ht, e⟩ := List.mem_map.mp (show w ∈ ts.map Value.type by simpa using hw)
      exact ⟨t, ht, e.symm⟩
    exact eqAt_ty (List.all_eq_true.mp hts t ht) ha
  · have e : (ts.map Value.type).toArray.any (tyIs a) = ts.any fun t => decide (t = a) := by
      simp [List.any_map]
      rfl
    rw [e]
    exact q
end L2X
namespace Dt
open PySem PySem.Spec PyProof.Rows L2 L2X
/-! ### kinds -/
def isInt : V → Bool
  | .int _ => true
  | _ => false
theorem isInt_ty {K : PySem.W.Frag} {H : Hp} {x : V} {T : String} (t : TyB K H x T) : decide (T = "int") = isInt x := by
  cases t <;> rfl
def betw : V → Int → Int → Bool
  | .int i, lo, hi => decide (lo ≤ i) && decide (i ≤ hi)
  | _, _, _ => false
theorem betw_int (i lo hi : Int) : betw (.int i) lo hi = (decide (lo ≤ i) && decide (i ≤ hi)) := rfl
theorem betw_no {x : V} {lo hi : Int} (h : isInt x = false) : betw x lo hi = false := by
  cases x with
  | int i => cases h
  | _ => rfl
/-- a thing of a known kind -/
def Kt (K : PySem.W.Frag) (H : Hp) (x : V) : Prop := ∃ T, TyB K H x T ∧ tyOk T = true
abbrev sIsNum : Stmt := topS 15
theorem scIsNum : FnScope ["thing"] ["thing"] (defScope sIsNum) := ⟨rfl, rfl, rfl, by decide +kernel, rfl, by decide +kernel, by decide +kernel⟩
def spIsNum (K : PySem.W.Frag) : Sp := fun vs H Q _ => ∃ x, vs = [x] ∧ Kt K H x ∧ Q (.bl (isInt x)) H
abbrev sBetw : Stmt := topS 16
theorem scBetw : FnScope ["thing", "least", "most"] ["thing", "least", "most"] (defScope sBetw) := ⟨rfl, rfl, rfl, by decide +kernel, rfl, by decide +kernel, by decide +kernel⟩
def spBetw (K : PySem.W.Frag) : Sp := fun vs H Q _ => ∃ x lo hi, vs = [x, .int lo, .int hi] ∧ Kt K H x ∧ Q (.bl (betw x lo hi)) H
abbrev sIsList : Stmt := topS 18
theorem scIsList : FnScope ["thing"] ["thing"] (defScope sIsList) := ⟨rfl, rfl, rfl, by decide +kernel, rfl, by decide +kernel, by decide +kernel⟩
def spIsList (K : PySem.W.Frag) : Sp := fun vs H Q _ => ∃ x T, vs = [x] ∧ TyB K H x T ∧ tyOk T = true ∧ ∀ H', Same H H' → Q (.bl (decide ("list" = T) || decide ("tuple" = T))) H'
section
variable {P : Program} {w : World} {K : PySem.W.Frag} {mg : Str → Option Value} {base : Heap}
theorem ok_isNum {f : Addr} {fd : FuncData} {k : Nat} (F : Fun K "is_number" "is_number" sIsNum f fd) (T : Tp mg) (X : Tx mg) : FnOk P w K mg base CX0 (k + 1) f fd ["thing"] (spIsNum K) := by
  refine F.ok scIsNum (fun vs H Q E h => ?_) (fun cdv A outer s H vs Q E hr h => ?_)
  · obtain ⟨x, rfl, _⟩ := h
    rfl
  · obtain ⟨x, rfl, ⟨Ty, ht, ok⟩, q⟩ := h
    refine ⟨_, pss_one (ps_ret (pe_cmpR op_eq_ty (pe_callTy call_type1 (by rfl) T.typ (by decide +kernel) (pa_cons (pv 0) pa_nil)) (pe_bltn (v := .ty "int") (u := .type "int") (by rfl) X.int (by decide +kernel) rfl) (nomark _))), ?_⟩
    refine ⟨x, rfl, x, Ty, rfl, ht, Ty, "int", rfl, rfl, ok, rfl, ?_⟩
    have e : id (decide (Ty = "int")) = isInt x := isInt_ty ht
    rw [e]
    exact q
theorem ok_betw {f fN : Addr} {fd fdN : FuncData} {k : Nat} (F : Fun K "is_between" "is_between" sBetw f fd) (GN : FnOk P w K mg base CX0 (k + 1) fN fdN ["thing"] (spIsNum K)) (mN : mg "is_number" = some (.ref fN)) (kN : PySem.W.keepIn K (.ref fN) = true) (bN : Binds K fdN ["thing"] []) : FnOk P w K mg base CX0 (k + 2) f fd ["thing", "least", "most"] (spBetw K) := by
  refine F.ok scBetw (fun vs H Q E h => ?_) (fun cdv A outer s H vs Q E hr h => ?_)
  · obtain ⟨x, lo, hi, rfl, _⟩ := h
    rfl
  · obtain ⟨x, lo, hi, rfl, kt, q⟩ := h
    refine ⟨_, pss_one (ps_ret (pe_and (pe_call GN hr (by rfl) mN kN bN .nil pass0 (pa_cons (pv 0) pa_nil)) (pe_one (pe_chain op_le op_le (pv 1) (pv 0) (pv 2))))), ?_⟩
    refine ⟨x, rfl, x, rfl, kt, _, rfl, ?_⟩
    cases x with
    | int i =>
      refine iteT ⟨.int lo, rfl, .int i, rfl, lo, i, rfl, rfl, _, rfl, ite2 (fun e => ?_) (fun e => ?_)⟩
      · refine ⟨.int hi, rfl, i, hi, rfl, rfl, ?_⟩
        rw [betw_int, e, Bool.true_and] at q
        exact q
      · rw [betw_int, Bool.eq_false_iff.mpr e, Bool.false_and] at q
        exact q
    | _ => exact iteF q
theorem ok_isList {f : Addr} {fd : FuncData} {k : Nat} (F : Fun K "is_list" "is_list" sIsList f fd) (T : Tp mg) (X : Tx mg) : FnOk P w K mg base CX0 (k + 1) f fd ["thing"] (spIsList K) := by
  refine F.ok scIsList (fun vs H Q E h => ?_) (fun cdv A outer s H vs Q E hr h => ?_)
  · obtain ⟨x, Ty, rfl, _⟩ := h
    rfl
  · obtain ⟨x, Ty, rfl, ht, ok, q⟩ := h
    refine ⟨_, pss_one (ps_ret (pe_cmpR op_in_ty (pe_callTy call_type1 (by rfl) T.typ (by decide +kernel) (pa_cons (pv 0) pa_nil)) (pe_tup (pa_cons (pe_bltn (v := .ty "list") (u := .type "list") (by rfl) X.list (by decide +kernel) rfl) (pa_cons (pe_bltn (v := .ty "tuple") (u := .type "tuple") (by rfl) X.tuple (by decide +kernel) rfl) pa_nil))) (by with_unfolding_all rfl))), ?_⟩
    refine ⟨x, rfl, x, Ty, rfl, ht, by show 2 ≤ sizeLine; decide, fun p hp => ⟨Ty, p, ["list", "tuple"], rfl, rfl, SqT.of upd_same, ok, rfl, ?_⟩⟩
    have e : (["list", "tuple"].any fun t => decide (t = Ty)) = (decide ("list" = Ty) || decide ("tuple" = Ty)) := by simp
    rw [e]
    exact q _ (same_upd hp)
end
/-! ### is_tuple -/
abbrev sIsTup : Stmt := topS 19
theorem scIsTup : FnScope ["thing", "many"] ["thing", "many"] (defScope sIsTup) := ⟨rfl, rfl, rfl, by decide +kernel, rfl, by decide +kernel, by decide +kernel⟩
def spIsTup (K : PySem.W.Frag) : Sp := fun vs H Q _ => ∃ x n, vs = [x, .int n] ∧ ((∃ T, TyB K H x T ∧ tyOk T = true ∧ T ≠ "tuple" ∧ Q (.bl false) H) ∨ ∃ a xs, x = .ref a ∧ SqT K H a xs ∧ Q (.bl (decide ((xs.length : Int) = n))) H)
section
variable {P : Program} {w : World} {K : PySem.W.Frag} {mg : Str → Option Value} {base : Heap}
theorem ok_isTup {f : Addr} {fd : FuncData} {k : Nat} (F : Fun K "is_tuple" "is_tuple" sIsTup f fd) (T : Tp mg) (X : Tx mg) : FnOk P w K mg base CX0 (k + 1) f fd ["thing", "many"] (spIsTup K) := by
  refine F.ok scIsTup (fun vs H Q E h => ?_) (fun cdv A outer s H vs Q E hr h => ?_)
  · obtain ⟨x, n, rfl, _⟩ := h
    rfl
  · obtain ⟨x, n, rfl, h⟩ := h
    refine ⟨_, pss_one (ps_ret (pe_and (pe_cmpR op_eq_ty (pe_callTy call_type1 (by rfl) T.typ (by decide +kernel) (pa_cons (pv 0) pa_nil)) (pe_bltn (v := .ty "tuple") (u := .type "tuple") (by rfl) X.tuple (by decide +kernel) rfl) (nomark _)) (pe_one (pe_cmpR op_eq (pe_callB call_len_seq (by rfl) X.len PySem.boot_len (pa_cons (pv 0) pa_nil)) (pv 1) (nomark _))))), ?_⟩
    rcases h with ⟨Ty, ht, ok, ne, q⟩ | ⟨a, xs, rfl, hx, q⟩
    · refine ⟨x, rfl, x, Ty, rfl, ht, Ty, "tuple", rfl, rfl, ok, rfl, _, rfl, iteE (decide_eq_false ne) q⟩
    · refine ⟨.ref a, rfl, .ref a, "tuple", rfl, .tup hx, "tuple", "tuple", rfl, rfl, rfl, rfl, _, rfl, iteY (by decide) ?_⟩
      refine ⟨.ref a, rfl, a, xs, rfl, .inr hx, .int n, rfl, rfl, ?_⟩
      have e : decide (V.int (xs.length : Int) = V.int n) = decide ((xs.length : Int) = n) := Bool.eq_iff_iff.mpr ⟨fun h => decide_eq_true (V.int.inj (of_decide_eq_true h)), fun h => decide_eq_true (congrArg V.int (of_decide_eq_true h))⟩
      rw [e]
      exact q
end
end Dt
namespace Dt
open PySem PySem.Spec PyProof.Rows L2 L2X
open SX (S)
/-! ### unlike -/
def misZ (l m : List Nat) : Nat := ((l.zip m).filter fun p => decide (p.1 ≠ p.2)).length
def misP (rs ss : List (List Nat)) : Int := ((rs.zip ss).map fun p => (misZ p.1 p.2 : Int)).sum
theorem chars_S (l : List Nat) : chars (S l) = l.map fun c => V.str ⟨#[c]⟩ := by
  unfold chars S
  simp
theorem sum_ones : ∀ n : Nat, (List.replicate n (1 : Int)).sum = n
  | 0 => rfl
  | n + 1 => by
    rw [List.replicate_succ, List.sum_cons, sum_ones n]
    omega
theorem ch_dec (a b : Nat) : decide (V.str ⟨#[a]⟩ = V.str ⟨#[b]⟩) = decide (a = b) := by
  apply Bool.eq_iff_iff.mpr
  rw [decide_eq_true_iff, decide_eq_true_iff]
  constructor
  · intro h
    have e1 : (⟨#[a]⟩ : Str) = ⟨#[b]⟩ := V.str.inj h
    have e2 : (#[a] : Array Nat) = #[b] := congrArg Str.cps e1
    have e3 : [a] = [b] := congrArg Array.toList e2
    exact (List.cons.inj e3).1
  · intro h
    rw [h]
/-- an error class of the program, made with a text -/
structure ExN (K : PySem.W.Frag) (mg : Str → Option Value) (nm : Str) (C : Addr) : Prop where
  g : mg nm = some (.ref C)
  x : PySem.W.excIn K C [.type "ValueError", .type "Exception", .type "BaseException", .type "object"] "ValueError.__new__" = true
  k : PySem.W.keepIn K (.ref C) = true
  b : PySem.W.subIn K (.ref C) (.type "BaseException") = some true
  t : PySem.W.typeIn K (.ref C) = some (.type "type")
structure Tz (mg : Str → Option Value) : Prop where
  sum : mg "sum" = none
  zip : mg "zip" = none
abbrev sUS : Stmt := topS 29
theorem scUS : FnScope ["row", "other", "sign", "beside"] ["row", "other"] (defScope sUS) := ⟨rfl, rfl, rfl, by decide +kernel, rfl, by decide +kernel, by decide +kernel⟩
def spUS : Sp := fun vs H Q _ => ∃ l m, vs = [rv l, rv m] ∧ l.length = m.length ∧ l.length ≤ 120 ∧ ∀ H', Same H H' → Q (.int (misZ l m)) H'
abbrev sUnlP : Stmt := topS 28
theorem scUnlP : FnScope ["one", "other", "row", "beside"] ["one", "other"] (defScope sUnlP) := ⟨rfl, rfl, rfl, by decide +kernel, rfl, by decide +kernel, by decide +kernel⟩
/-- of two pictures -/
def spUnlP (CP : Addr) : Sp := fun vs H Q E => ∃ (a b : Addr) (high wide high2 wide2 : Nat) (rs ss : List (List Nat)), vs = [.ref a, .ref b] ∧ H a = some (.tup (rs.map rv)) ∧ H b = some (.tup (ss.map rv)) ∧ PicR high wide rs ∧ PicR high2 wide2 ss ∧
  ((high = high2 ∧ wide = wide2) → ∀ H', Same H H' → Q (.int (misP rs ss)) H') ∧ (¬ (high = high2 ∧ wide = wide2) → ∀ H', Same H H' → E (.ref CP) none H')
section
variable {P : Program} {w : World} {K : PySem.W.Frag} {mg : Str → Option Value} {base : Heap} {C CP : Addr}
theorem ok_US {f : Addr} {fd : FuncData} {k : Nat} (F : Fun K "_unlike_signs" "_unlike_signs" sUS f fd) (Z : Tz mg) : FnOk P w K mg base CX0 (k + 1) f fd ["row", "other"] spUS := by
  refine F.ok scUS (fun vs H Q E h => ?_) (fun cdv A outer s H vs Q E hr h => ?_)
  · obtain ⟨l, m, rfl, _⟩ := h
    rfl
  · obtain ⟨l, m, rfl, hlm, hl, q⟩ := h
    have nd := scUS.nd
    refine ⟨_, pss_one (ps_ret (pe_callB (cr_sum rfl) (by rfl) Z.sum (by decide +kernel) (pa_cons (pe_lc (own := [("sign", 2), ("beside", 3)]) (g := gTup K 2 (gCons (gName 2) (gCons (gName 3) gNil))) rfl nd (pi_zipG (by rfl) Z.zip (pa_cons (pv 0) (pa_cons (pv 1) pa_nil))) (blkOk_by (N := ["row", "other", "sign", "beside"]) (sc := defScope sUS) (by decide +kernel))
      (fun _ _ _ _ _ => pg_tup rfl (pgs_cons (pg_name (i := 2) nd rfl (Or.inl rfl)) (pgs_cons (pg_name (i := 3) nd rfl (Or.inl rfl)) pgs_nil)))
      (fun _ _ _ _ _ => pts_one (pt_cmpR op_ne (pv 2) (pv 3) (nomark _))) (fun _ _ _ _ _ => pe_int)) pa_nil))), ?_⟩
    refine ⟨rv l, rfl, rv m, rfl, .txt (S l), .txt (S m), chars (S l), chars (S m), rfl, rfl, rfl, fun D hD => lc_zipG (K := K) (A := .txt (S l)) (B := .txt (S m)) (xs := chars (S l)) (ys := chars (S m)) ?_
      (fun i H2 => Same H H2 ∧ H2 D = some (.lst ((List.replicate (((l.zip m).take i).filter fun p => decide (p.1 ≠ p.2)).length (1 : Int)).map V.int))) ⟨same_upd hD, upd_same⟩ (fun _ _ _ _ => ⟨rfl, rfl⟩) ?_ ?_⟩
    · rw [chars_S, chars_S, List.length_map, List.length_map, hlm]
    · rintro i x y H2 T hx hy ⟨sm, h2⟩ hT
      rw [chars_S, List.getElem?_map] at hx hy
      obtain ⟨a, ha, rfl⟩ : ∃ a, l[i]? = some a ∧ x = V.str ⟨#[a]⟩ := by
        cases e : l[i]? with
        | none =>
          rw [e] at hx
          cases hx
        | some z =>
          rw [e] at hx
          exact ⟨z, rfl, (Option.some.inj hx).symm⟩
      obtain ⟨b, hb, rfl⟩ : ∃ b, m[i]? = some b ∧ y = V.str ⟨#[b]⟩ := by
        cases e : m[i]? with
        | none =>
          rw [e] at hy
          cases hy
        | some z =>
          rw [e] at hy
          exact ⟨z, rfl, (Option.some.inj hy).symm⟩
      have hz : (l.zip m)[i]? = some (a, b) := List.getElem?_zip_eq_some.mpr ⟨ha, hb⟩
      have sT := same_upd (o := .tup [V.str ⟨#[a]⟩, V.str ⟨#[b]⟩]) hT
      have hlen : (((l.zip m).take i).filter fun p => decide (p.1 ≠ p.2)).length ≤ 120 := by
        refine Nat.le_trans (List.length_filter_le _ _) ?_
        rw [List.length_take, List.length_zip]
        omega
      refine ⟨T, _, rfl, SqT.of upd_same, rfl, _, _, rfl, _, _, rfl, rfl, rfl, .str ⟨#[a]⟩, rfl, .str ⟨#[b]⟩, rfl, rfl, _, rfl, ?_⟩
      rw [ch_dec]
      cases e : decide (a = b) with
      | true =>
        refine iteF ⟨sm.trans sT, ?_⟩
        rw [sT _ _ h2, take_snoc hz, List.filter_append]
        have : (List.filter (fun p : Nat × Nat => decide (p.1 ≠ p.2)) [(a, b)]) = [] := by
          have := of_decide_eq_true e
          simp [this]
        rw [this, List.append_nil]
      | false =>
        refine iteT ⟨_, sT _ _ h2, ?_, ?_, ?_⟩
        · rw [List.length_map, List.length_replicate]
          exact small1000 (by omega)
        · exact fun b o e => by
            rw [upd_ne (ne_of_none e hD)]
            exact sT _ _ (sm _ _ e)
        · rw [upd_same, take_snoc hz, List.filter_append]
          have : (List.filter (fun p : Nat × Nat => decide (p.1 ≠ p.2)) [(a, b)]) = [(a, b)] := by
            have := of_decide_eq_false e
            simp [this]
          rw [this, List.length_append, List.length_singleton, List.replicate_succ', List.map_append]
          rfl
    · rintro H2 ⟨sm, h2⟩
      have e : (l.zip m).take (chars (S l)).length = l.zip m := by
        apply List.take_of_length_le
        rw [chars_S, List.length_map, List.length_zip]
        omega
      rw [e] at h2
      refine ⟨D, _, rfl, SqL.of h2, ?_⟩
      rw [sum_ones]
      exact q H2 sm
theorem ok_unlP {f fS fW fU : Addr} {fd fdS fdW fdU : FuncData} {k : Nat} (F : Fun K "unlike" "unlike" sUnlP f fd) (Z : Tz mg) (NP : ExN K mg "NoPlace" CP) (G : GW P w K mg base C (k + 1)) (GZ : GS P w K mg base C (k + 1))
    (GU : FnOk P w K mg base CX0 (k + 1) fU fdU ["row", "other"] spUS) (mU : mg "_unlike_signs" = some (.ref fU)) (kU : PySem.W.keepIn K (.ref fU) = true) (bU : Binds K fdU ["row", "other"] []) : FnOk P w K mg base (L2.CX P w) (k + 2) f fd ["one", "other"] (spUnlP CP) := by
  obtain ⟨fW, fdW, GW, mW, kW, bW⟩ := G.ex
  obtain ⟨fS, fdS, GS, mS, kS, bS⟩ := GZ.ex
  refine F.okX scUnlP (fun vs H Q E h => ?_) (fun cdv A outer s H vs Q E hr h => ?_)
  · obtain ⟨a, b, _, _, _, _, _, _, rfl, _⟩ := h
    rfl
  · obtain ⟨a, b, high, wide, high2, wide2, rs, ss, rfl, ha, hb, pr, ps, q1, q2⟩ := h
    have nd := scUnlP.nd
    refine ⟨_, pss_cons (ps_expr (pe_callS GW hr (by rfl) mW kW bW (fun σ => passAt (takes_of rfl rfl rfl rfl) σ) (pa_cons (pv 0) pa_nil)))
      (pss_cons (ps_expr (pe_callS GW hr (by rfl) mW kW bW (fun σ => passAt (takes_of rfl rfl rfl rfl) σ) (pa_cons (pv 1) pa_nil)))
      (pss_cons (ps_if (pt_cmpR (op_neD hr.units) (pe_callS GS hr (by rfl) mS kS bS (fun σ => passAt (takes_of rfl rfl rfl rfl) σ) (pa_cons (pv 0) pa_nil)) (pe_callS GS hr (by rfl) mS kS bS (fun σ => passAt (takes_of rfl rfl rfl rfl) σ) (pa_cons (pv 1) pa_nil)) (nomark _))
        (pss_one (ps_raise rfl (takes_of rfl rfl rfl rfl) (pmk_own PySem.F.excBase_ValueError NP.x NP.g NP.k (raises_own NP.b NP.t) rfl))) pss_nil)
      (pss_one (ps_ret (pe_callB (cr_sum rfl) (by rfl) Z.sum (by decide +kernel) (pa_cons (pe_lc (own := [("row", 2), ("beside", 3)]) (g := gTup K 2 (gCons (gName 2) (gCons (gName 3) gNil))) (tt := tYes) rfl nd (pi_zipG (by rfl) Z.zip (pa_cons (pv 0) (pa_cons (pv 1) pa_nil))) (blkOk_by (N := ["one", "other", "row", "beside"]) (sc := defScope sUnlP) (by decide +kernel))
        (fun _ _ _ _ _ => pg_tup rfl (pgs_cons (pg_name (i := 2) nd rfl (Or.inl rfl)) (pgs_cons (pg_name (i := 3) nd rfl (Or.inl rfl)) pgs_nil)))
        (fun _ _ _ _ _ => pts_nil) (fun _ _ _ _ _ => pe_call GU hr (by rfl) mU kU bU .nil pass0 (pa_cons (pv 2) (pa_cons (pv 3) pa_nil)))) pa_nil)))))), ?_⟩
    refine ⟨.ref a, rfl, .ref a, true, rfl, askPic pr ha, fun _ H1 s1 => ?_, fun e => nomatch e⟩
    refine ⟨.ref b, rfl, .ref b, true, rfl, askPic ps (s1 _ _ hb), fun _ H2 s2 => ?_, fun e => nomatch e⟩
    have s12 := s1.trans s2
    refine ⟨.ref a, rfl, .ref a, rfl, .inr ⟨a, _, rfl, SqT.of (s12 _ _ ha), kn_rows pr, picOk_pic pr, fun p3 H3 s3 n3 h3 => ?_⟩⟩
    refine ⟨.ref b, rfl, .ref b, rfl, .inr ⟨b, _, rfl, SqT.of (s3 _ _ (s12 _ _ hb)), kn_rows ps, picOk_pic ps, fun p4 H4 s4 n4 h4 => ?_⟩⟩
    have sA := (s12.trans s3).trans s4
    have e1 := picSize pr
    have e2 := picSize ps
    refine ⟨.tuple [.int (((rs.map rv).length : Nat) : Int), .int (lenV ((rs.map rv).headD .non))], .tuple [.int (((ss.map rv).length : Nat) : Int), .int (lenV ((ss.map rv).headD .non))], .tup (SqT.of (s4 _ _ h3)) (.cons (.int _) (.cons (.int _) .nil)), .tup (SqT.of h4) (.cons (.int _) (.cons (.int _) .nil)), rfl, rfl, _, rfl, ?_⟩
    rw [e1.1, e1.2, e2.1, e2.2]
    have ee : PyData.eqv (.tuple [.int (high : Int), .int (wide : Int)]) (.tuple [.int (high2 : Int), .int (wide2 : Int)]) = decide (high = high2 ∧ wide = wide2) := by
      apply Bool.eq_iff_iff.mpr
      rw [decide_eq_true_iff]
      simp [PyData.eqv, PyData.eqvAll]
      omega
    rw [ee]
    by_cases hs : high = high2 ∧ wide = wide2
    · rw [decide_eq_true hs]
      refine iteF ?_
      refine ⟨.ref a, rfl, .ref b, rfl, .tup a, .tup b, rs.map rv, ss.map rv, rfl, SqT.of (sA _ _ ha), SqT.of (sA _ _ hb), fun D hD => lc_zipG (K := K) (A := .tup a) (B := .tup b) (xs := rs.map rv) (ys := ss.map rv) ?_
        (fun i H5 => Same H H5 ∧ H5 D = some (.lst ((((rs.zip ss).take i).map fun p => (misZ p.1 p.2 : Int)).map V.int))) ⟨sA.trans (same_upd hD), upd_same⟩ (fun i H5 _ z => ⟨SqT.of (z.1 _ _ ha), SqT.of (z.1 _ _ hb)⟩) ?_ ?_⟩
      · rw [List.length_map, List.length_map, pr.len, ps.len, hs.1]
      · rintro i x y H5 T hx hy ⟨sm, h5⟩ hT
        rw [List.getElem?_map] at hx hy
        obtain ⟨l, hl, rfl⟩ : ∃ l, rs[i]? = some l ∧ x = rv l := by
          cases e : rs[i]? with
          | none =>
            rw [e] at hx
            cases hx
          | some z =>
            rw [e] at hx
            exact ⟨z, rfl, (Option.some.inj hx).symm⟩
        obtain ⟨m, hm, rfl⟩ : ∃ m, ss[i]? = some m ∧ y = rv m := by
          cases e : ss[i]? with
          | none =>
            rw [e] at hy
            cases hy
          | some z =>
            rw [e] at hy
            exact ⟨z, rfl, (Option.some.inj hy).symm⟩
        have hz : (rs.zip ss)[i]? = some (l, m) := List.getElem?_zip_eq_some.mpr ⟨hl, hm⟩
        have sT := same_upd (o := .tup [rv l, rv m]) hT
        have l1 := (pr.row l (List.mem_of_getElem? hl)).len
        have l2 := (ps.row m (List.mem_of_getElem? hm)).len
        have w1 := pr.w1
        have h1' := pr.h1
        have hi : i < rs.length := (List.getElem?_eq_some_iff.mp hl).1
        rw [pr.len] at hi
        refine ⟨T, _, rfl, SqT.of upd_same, rfl, _, _, rfl, _, _, rfl, rfl, rfl, rv l, rfl, rv m, rfl, l, m, rfl, by omega, by omega, fun H6 s6 => ?_⟩
        refine ⟨_, s6 _ _ (sT _ _ h5), ?_, ?_, ?_⟩
        · rw [List.length_map, List.length_map, List.length_take]
          exact small1000 (by omega)
        · exact fun b o e => by
            rw [upd_ne (ne_of_none (sA _ _ e) hD)]
            exact s6 _ _ (sT _ _ (sm _ _ e))
        · rw [upd_same, take_snoc hz, List.map_append, List.map_append]
          rfl
      · rintro H5 ⟨sm, h5⟩
        have e : (rs.zip ss).take (rs.map rv).length = rs.zip ss := by
          apply List.take_of_length_le
          rw [List.length_map, List.length_zip]
          omega
        rw [e] at h5
        exact ⟨D, _, rfl, SqL.of h5, q1 hs H5 sm⟩
    · rw [decide_eq_false hs]
      exact iteT (q2 hs _ sA)
end
end Dt
namespace L2X
open PySem PySem.Spec PyProof.Rows L2
theorem PI.or {X : Cx} {tg it : Expr} {w1 w2 : TI} (a : PI X tg it w1) (b : PI X tg it w2) : PI X tg it (fun σ H R => w1 σ H R ∨ w2 σ H R) :=
  ⟨fun pins s σ H R I h => h.elim (a.run pins s σ H R I) (b.run pins s σ H R I)⟩
/-- join, its reading told by the written part alone (so it serves in a comprehension's block) -/
def rJoinK (K : PySem.W.Frag) : V → List V → Hp → VK → Prop := fun x xs H Q => ∃ a p, ∃ ys : List Str, x = .str a ∧ xs = [.ref p] ∧ (SqL K H p (ys.map V.str) ∨ SqT K H p (ys.map V.str)) ∧ (ys.map (·.length)).sum + ys.length * a.length ≤ 16777216 ∧ Q (.str (Txt.join a ys)) H
theorem pe_joinK {X : Cx} {o e : Expr} {to te : TE} {pos apos : Pos} {K : PySem.W.Frag} (hK : X.K = K) (ho : PE X o to) (he : PE X e te) (hs : starEach [e] X.env = [(false, eval e X.env)] := by rfl) (hbase : attributeBase o "join" X.env (eval o X.env) = eval o X.env := by rfl) (hline : (apos.endLine == pos.line) = true := by rfl) :
    PE X (.Call (.Attribute o "join" apos) [e] [] pos) (tM1 (rJoinK K) to te) := by
  subst hK
  exact pe_join ho he hs hbase hline
end L2X
namespace Dt
open PySem PySem.Spec PyProof.Rows L2 L2X
open SX (S)
/-! ### dots turned over -/
def ch (c : Nat) : V := .str ⟨#[c]⟩
def flipC (c : Nat) : Nat := if c = 35 then 46 else 35
def flipAt (ls : List (List Nat)) (r c : Nat) : List (List Nat) := ls.set r ((ls.getD r []).set c (flipC ((ls.getD r []).getD c 0)))
def flipAll (ls : List (List Nat)) (ps : List (Nat × Nat)) : List (List Nat) := ps.foldl (fun a p => flipAt a p.1 p.2) ls
/-- rows of signs, all of one width -/
structure RowsR (high wide : Nat) (rs : List (List Nat)) : Prop where
  len : rs.length = high
  row : ∀ l ∈ rs, RowR wide l
theorem PicR.rows {high wide : Nat} {rs : List (List Nat)} (h : PicR high wide rs) : RowsR high wide rs := ⟨h.len, h.row⟩
theorem flip_ok {c : Nat} : flipC c = 35 ∨ flipC c = 46 := by
  unfold flipC
  split
  · exact .inr rfl
  · exact .inl rfl
theorem set_getD {ls : List (List Nat)} {r : Nat} {l : List Nat} (h : ls[r]? = some l) : ls.getD r [] = l := by
  rw [List.getD_eq_getElem?_getD, h]
  rfl
theorem getD_at {l : List Nat} {c x : Nat} (h : l[c]? = some x) : l.getD c 0 = x := by
  rw [List.getD_eq_getElem?_getD, h]
  rfl
theorem flipAt_eq {ls : List (List Nat)} {r c x : Nat} {l : List Nat} (h : ls[r]? = some l) (hx : l[c]? = some x) : flipAt ls r c = ls.set r (l.set c (flipC x)) := by
  unfold flipAt
  rw [set_getD h, getD_at hx]
theorem RowsR.flip {high wide r c : Nat} {rs : List (List Nat)} (h : RowsR high wide rs) (hr : r < high) (hc : c < wide) : RowsR high wide (flipAt rs r c) := by
  have hr' : r < rs.length := by rw [h.len]; exact hr
  have e1 : rs[r]? = some rs[r] := List.getElem?_eq_getElem hr'
  have rw1 := h.row rs[r] (List.getElem_mem hr')
  have hc' : c < rs[r].length := by rw [rw1.len]; exact hc
  have e2 : rs[r][c]? = some rs[r][c] := List.getElem?_eq_getElem hc'
  rw [flipAt_eq e1 e2]
  refine ⟨by rw [List.length_set, h.len], fun l hl => ?_⟩
  rcases List.mem_or_eq_of_mem_set hl with q | q
  · exact h.row l q
  · rw [q]
    refine ⟨by rw [List.length_set, rw1.len], fun x hx => ?_⟩
    rcases List.mem_or_eq_of_mem_set hx with q2 | q2
    · exact rw1.sg x q2
    · rw [q2]
      exact flip_ok
theorem RowsR.flips {high wide : Nat} : ∀ {ps : List (Nat × Nat)} {rs : List (List Nat)}, RowsR high wide rs → (∀ p ∈ ps, p.1 < high ∧ p.2 < wide) → RowsR high wide (flipAll rs ps)
  | [], _, h, _ => h
  | p :: ps, rs, h, hp => by
    have h1 := hp p List.mem_cons_self
    exact RowsR.flips (ps := ps) (h.flip h1.1 h1.2) fun q hq => hp q (List.mem_cons_of_mem _ hq)
/-- places as they stand in a list or a tuple -/
structure Plc (K : PySem.W.Frag) (H : Hp) (xs : List V) (ps : List (Nat × Nat)) : Prop where
  len : xs.length = ps.length
  at_ : ∀ (i : Nat) (x : V) (p : Nat × Nat), xs[i]? = some x → ps[i]? = some p → ∃ t, x = .ref t ∧ SqT K H t [.int p.1, .int p.2]
theorem Plc.same {K : PySem.W.Frag} {H H' : Hp} {xs : List V} {ps : List (Nat × Nat)} (h : Plc K H xs ps) (s : Same H H') : Plc K H' xs ps :=
  ⟨h.len, fun i x p a b => let ⟨t, e, z⟩ := h.at_ i x p a b; ⟨t, e, sameT s z⟩⟩
structure Grid (H : Hp) (g : Addr) (as : List Addr) (ls : List (List Nat)) : Prop where
  top : H g = some (.lst (as.map V.ref))
  len : as.length = ls.length
  row : ∀ (i : Nat) (a : Addr) (l : List Nat), as[i]? = some a → ls[i]? = some l → H a = some (.lst (l.map ch))
  nd : as.Nodup
  off : g ∉ as
theorem Grid.same {H H' : Hp} {g : Addr} {as : List Addr} {ls : List (List Nat)} (G : Grid H g as ls) (s : Same H H') : Grid H' g as ls := ⟨s _ _ G.top, G.len, fun i a l h1 h2 => s _ _ (G.row i a l h1 h2), G.nd, G.off⟩
theorem Grid.put {H : Hp} {g a : Addr} {as : List Addr} {ls : List (List Nat)} {r c x : Nat} {l : List Nat} (G : Grid H g as ls) (ha : as[r]? = some a) (hl : ls[r]? = some l) : Grid (upd H a (.lst ((l.map ch).set c (ch x)))) g as (ls.set r (l.set c x)) := by
  have na : g ≠ a := fun e => G.off (e ▸ List.mem_of_getElem? ha)
  refine ⟨by rw [upd_ne na]; exact G.top, by rw [List.length_set, G.len], fun i b m hb hm => ?_, G.nd, G.off⟩
  by_cases e : i = r
  · subst e
    rw [ha] at hb
    cases hb
    have hlt := (List.getElem?_eq_some_iff.mp hl).1
    rw [List.getElem?_set_self hlt] at hm
    cases hm
    rw [upd_same, List.map_set]
  · rw [List.getElem?_set_ne (Ne.symm e)] at hm
    have nb : b ≠ a := fun q => by
      subst q
      obtain ⟨h1, e1⟩ := List.getElem?_eq_some_iff.mp hb
      obtain ⟨h2, e2⟩ := List.getElem?_eq_some_iff.mp ha
      exact e ((List.getElem_inj G.nd).mp (e1.trans e2.symm))
    rw [upd_ne nb]
    exact G.row i b m hb hm
/-- one more row -/
theorem Grid.add {H : Hp} {g a : Addr} {as : List Addr} {ls : List (List Nat)} {l : List Nat} (G : Grid H g as ls) (hn : H a = none) : Grid (upd (upd H a (.lst (l.map ch))) g (.lst (as.map V.ref ++ [V.ref a]))) g (as ++ [a]) (ls ++ [l]) := by
  have na : g ≠ a := ne_of_none G.top hn
  have old : ∀ b ∈ as, H b ≠ none := fun b hb e => by
    obtain ⟨i, hi⟩ := List.mem_iff_getElem?.mp hb
    have hlt : i < ls.length := by
      rw [← G.len]
      exact (List.getElem?_eq_some_iff.mp hi).1
    have := G.row i b _ hi (List.getElem?_eq_getElem hlt)
    rw [e] at this
    cases this
  have am : a ∉ as := fun h => old a h hn
  refine ⟨?_, by rw [List.length_append, List.length_append, G.len]; rfl, fun i b m hb hm => ?_, ?_, ?_⟩
  · rw [upd_same, List.map_append]
    rfl
  · have nbg : b ≠ g := fun q => by
      subst q
      rcases List.mem_append.mp (List.mem_of_getElem? hb) with z | z
      · exact G.off z
      · exact na (List.mem_singleton.mp z)
    rw [upd_ne nbg]
    by_cases hi : i < as.length
    · rw [List.getElem?_append_left hi] at hb
      rw [List.getElem?_append_left (by rw [← G.len]; exact hi)] at hm
      have nba : b ≠ a := fun q => am (q ▸ List.mem_of_getElem? hb)
      rw [upd_ne nba]
      exact G.row i b m hb hm
    · have hi2 : i = as.length := by
        have := (List.getElem?_eq_some_iff.mp hb).1
        rw [List.length_append, List.length_singleton] at this
        omega
      rw [hi2, List.getElem?_concat_length] at hb
      rw [hi2, G.len, List.getElem?_concat_length] at hm
      cases hb
      cases hm
      rw [upd_same]
  · rw [List.nodup_append]
    exact ⟨G.nd, (by simp), fun x hx y hy e => am (by rw [← List.mem_singleton.mp hy, ← e]; exact hx)⟩
  · intro h
    rcases List.mem_append.mp h with z | z
    · exact G.off z
    · exact na (List.mem_singleton.mp z)
theorem chars_row (l : List Nat) : (S l).cps.toList.map (fun c => V.str ⟨#[c]⟩) = l.map ch := by
  unfold S
  rfl
/-- .. and its rows are new -/
structure GridN (H0 H : Hp) (g : Addr) (as : List Addr) (ls : List (List Nat)) : Prop where
  gr : Grid H g as ls
  sm : Same H0 H
  ng : H0 g = none
  nr : ∀ a ∈ as, H0 a = none
theorem same_over {H0 H : Hp} {a : Addr} {o : HO} (s : Same H0 H) (n : H0 a = none) : Same H0 (upd H a o) := fun b u e => by
  rw [upd_ne (ne_of_none e n)]
  exact s _ _ e
theorem GridN.put {H0 H : Hp} {g a : Addr} {as : List Addr} {ls : List (List Nat)} {r c x : Nat} {l : List Nat} (G : GridN H0 H g as ls) (ha : as[r]? = some a) (hl : ls[r]? = some l) : GridN H0 (upd H a (.lst ((l.map ch).set c (ch x)))) g as (ls.set r (l.set c x)) :=
  ⟨G.gr.put ha hl, same_over G.sm (G.nr a (List.mem_of_getElem? ha)), G.ng, G.nr⟩
theorem GridN.add {H0 H : Hp} {g a : Addr} {as : List Addr} {ls : List (List Nat)} {l : List Nat} (G : GridN H0 H g as ls) (hn : H a = none) : GridN H0 (upd (upd H a (.lst (l.map ch))) g (.lst (as.map V.ref ++ [V.ref a]))) g (as ++ [a]) (ls ++ [l]) := by
  have na := G.sm.free hn
  refine ⟨G.gr.add hn, same_over (same_over G.sm na) G.ng, G.ng, fun b hb => ?_⟩
  rcases List.mem_append.mp hb with z | z
  · exact G.nr b z
  · rw [List.mem_singleton.mp z]
    exact na
theorem GridN.same {H0 H H' : Hp} {g : Addr} {as : List Addr} {ls : List (List Nat)} (G : GridN H0 H g as ls) (s : Same H H') : GridN H0 H' g as ls := ⟨G.gr.same s, G.sm.trans s, G.ng, G.nr⟩
theorem GridN.same' {H0 H : Hp} {g E : Addr} {as : List Addr} {ls : List (List Nat)} {xs ys : List V} (G : GridN H0 H g as ls) (_ : H E = some (.lst xs)) (n1 : g ≠ E) (n2 : ∀ a ∈ as, a ≠ E) (n3 : H0 E = none) : GridN H0 (upd H E (.lst ys)) g as ls :=
  ⟨⟨by rw [upd_ne n1]; exact G.gr.top, G.gr.len, fun i a l h1 h2 => by rw [upd_ne (n2 a (List.mem_of_getElem? h1))]; exact G.gr.row i a l h1 h2, G.gr.nd, G.gr.off⟩, same_over G.sm n3, G.ng, G.nr⟩
abbrev sWST : Stmt := topS 32
theorem scWST : FnScope ["picture", "places", "grid", "row", "column", "signs"] ["picture", "places"] (defScope sWST) := ⟨rfl, rfl, rfl, by decide +kernel, rfl, by decide +kernel, by decide +kernel⟩
/-- turned over at these places -/
def spFlip (K : PySem.W.Frag) : Sp := fun vs H Q _ => ∃ (a q : Addr) (high wide : Nat) (rs : List (List Nat)) (xs : List V) (ps : List (Nat × Nat)), vs = [.ref a, .ref q] ∧ H a = some (.tup (rs.map rv)) ∧ PicR high wide rs ∧ (SqL K H q xs ∨ SqT K H q xs) ∧ Plc K H xs ps ∧ (∀ p ∈ ps, p.1 < high ∧ p.2 < wide) ∧
  ∀ p H', Same H H' → H p = none → H' p = some (.tup ((flipAll rs ps).map rv)) → Q (.ref p) H'
/-- the dict of the two signs -/
structure Td (K : PySem.W.Frag) (w : World) (mg : Str → Option Value) : Prop where
  ex : ∃ d, mg "TURNED_SIGNS" = some (.ref d) ∧ KDct K w d "#" (.str ".") ∧ KDct K w d "." (.str "#")
theorem lens_rows (cs : List Nat) : ((cs.map fun c => (⟨#[c]⟩ : Str)).map (·.length)).sum = cs.length := lens_ones cs
theorem join_row (cs : List Nat) : Txt.join "" (cs.map fun c => (⟨#[c]⟩ : Str)) = S cs := join_ones cs
section
variable {P : Program} {w : World} {K : PySem.W.Frag} {mg : Str → Option Value} {base : Heap} {C CP : Addr}
theorem ixN_at {n j : Nat} (hj : j < n) : ixN n (j : Int) = some j := by
  unfold ixN
  rw [if_pos (by omega), if_pos (by omega)]
  simp
theorem flipAll_take {rs : List (List Nat)} {ps : List (Nat × Nat)} {i : Nat} {p : Nat × Nat} (h : ps[i]? = some p) : flipAll rs (ps.take (i + 1)) = flipAt (flipAll rs (ps.take i)) p.1 p.2 := by
  unfold flipAll
  rw [take_snoc h, List.foldl_append]
  rfl
theorem ok_WST {f : Addr} {fd : FuncData} {k : Nat} (F : Fun K "_with_signs_turned" "_with_signs_turned" sWST f fd) (X : Tx mg) (D0 : Td K w mg) : FnOk P w K mg base CX0 (k + 1) f fd ["picture", "places"] (spFlip K) := by
  refine F.ok scWST (fun vs H Q E h => ?_) (fun cdv A outer s H vs Q E hr h => ?_)
  · obtain ⟨a, q, _, _, _, _, _, rfl, _⟩ := h
    rfl
  · obtain ⟨a, q, high, wide, rs, xs, ps, rfl, ha, pr, hq, pl, inr, k⟩ := h
    obtain ⟨d, md, k1, k2⟩ := D0.ex
    have nd := scWST.nd
    refine ⟨_, pss_cons (ps_setLc (i := 2) (own := [("row", 3)]) (g := gName 3) (tt := tYes) (by rfl) nd rfl rfl (sw_true rfl rfl rfl (by decide +kernel)) (pi_tup (pv 0)) (blkOk_by (N := ["picture", "places", "grid", "row", "column", "signs"]) (sc := defScope sWST) (by decide +kernel)) (fun _ _ _ _ _ => pg_name (i := 3) nd rfl (Or.inl rfl)) (fun _ _ _ _ _ => pts_nil)
          (fun _ _ _ _ _ => pe_callTy (call_listS rfl) (by rfl) X.list (by decide +kernel) (pa_cons (pv 3) pa_nil)))
      (pss_cons (ps_for PassesOwn.never rfl (L2X.PI.or (pi_list (pv 1)) (pi_tup (pv 1))) (pg_tup rfl (pgs_cons (pg_name (i := 3) nd rfl (Or.inl rfl)) (pgs_cons (pg_name (i := 4) nd rfl (Or.inl rfl)) pgs_nil)))
        (pss_one (ps_asg (pe_ix (r := rIxD K w) ix_kdict (pe_glob (v := .ref d) (by rfl) md rfl) (pe_ix ix_list (pe_ix ix_list (pv 2) (pv 3) (fun _ _ => rfl)) (pv 4) (fun _ _ => rfl)) (fun _ _ => rfl)) (pg_sub (pe_ix ix_list (pv 2) (pv 3) (fun _ _ => rfl)) (pv 4) set_list))))
      (pss_one (ps_ret (pe_callTy call_tuple_of (by rfl) X.tuple (by decide +kernel) (pa_cons (pe_lc (own := [("signs", 5)]) (g := gName 5) (tt := tYes) rfl nd (pi_list (pv 2)) (blkOk_by (N := ["picture", "places", "grid", "row", "column", "signs"]) (sc := defScope sWST) (by decide +kernel)) (fun _ _ _ _ _ => pg_name (i := 5) nd rfl (Or.inl rfl)) (fun _ _ _ _ _ => pts_nil)
          (fun _ _ _ _ _ => pe_joinK (K := K) rfl pe_str (pv 5))) pa_nil))))), ?_⟩
    refine ⟨.ref a, rfl, a, rfl, ⟨_, SqT.of ha⟩, fun D hD => lc_tup (K := K) (a := a) (xs := rs.map rv) (fun i H2 => ∃ as, GridN H H2 D as (rs.take i)) ?_ (fun i H2 _ z => ?_) ?_ ?_⟩
    · exact ⟨[], ⟨upd_same, rfl, (fun i a l h => nomatch h), List.nodup_nil, (fun h => nomatch h)⟩, same_upd hD, hD, (fun a h => nomatch h)⟩
    · obtain ⟨as, G⟩ := z
      exact SqT.of (G.sm _ _ ha)
    · rintro i x H2 hi ⟨as, G⟩
      rw [List.getElem?_map] at hi
      obtain ⟨l, hl, rfl⟩ : ∃ l, rs[i]? = some l ∧ x = rv l := by
        cases e : rs[i]? with
        | none =>
          rw [e] at hi
          cases hi
        | some z =>
          rw [e] at hi
          exact ⟨z, rfl, (Option.some.inj hi).symm⟩
      have l1 := (pr.row l (List.mem_of_getElem? hl)).len
      have w1 := pr.w1
      have h1' := pr.h1
      have hil : i < rs.length := (List.getElem?_eq_some_iff.mp hl).1
      rw [pr.len] at hil
      refine ⟨rfl, rv l, rfl, S l, rfl, ?_, fun b hb => ?_⟩
      · show l.length ≤ sizeLine
        exact Nat.le_of_lt (small1000 (by omega))
      · rw [chars_row]
        refine ⟨as.map V.ref, ?_, ?_, as ++ [b], ?_⟩
        · rw [upd_ne (ne_of_none G.gr.top hb)]
          exact G.gr.top
        · rw [List.length_map, G.gr.len, List.length_take]
          exact small1000 (by omega)
        · rw [take_snoc hl]
          exact G.add hb
    · rintro H3 ⟨as, G⟩
      rw [List.length_map, List.take_length] at G
      have inv0 : ∃ as, GridN H H3 D as (flipAll rs (ps.take 0)) := ⟨as, G⟩
      have R0 : RowsR high wide rs := pr.rows
      rcases hq with hq | hq
      · refine .inl ⟨.ref q, rfl, q, rfl, ⟨xs, (G.sm.seq hq)⟩, for_list (fun i σ H2 => ∃ y3 y4, σ = [some (.ref a), some (.ref q), some (.ref D), y3, y4, none] ∧ ∃ as, GridN H H2 D as (flipAll rs (ps.take i))) ⟨none, none, rfl, inv0⟩ (fun i σ H2 _ z => by
          obtain ⟨_, _, _, as, G⟩ := z
          exact (G.sm.seq hq)) ?_ ?_⟩
        · rintro i x σ H4 hx ⟨y3, y4, rfl, as2, G2⟩
          have hix : i < ps.length := by
            rw [← pl.len]
            exact (List.getElem?_eq_some_iff.mp hx).1
          have hp : ps[i]? = some ps[i] := List.getElem?_eq_getElem hix
          generalize ps[i] = p at hp
          obtain ⟨t, rfl, ht⟩ := pl.at_ i x p hx hp
          have hpr := inr p (List.mem_of_getElem? hp)
          have R := R0.flips (ps := ps.take i) fun y hy => inr y (List.mem_of_mem_take hy)
          have hr1 : p.1 < (flipAll rs (ps.take i)).length := by rw [R.len]; exact hpr.1
          have e1 : (flipAll rs (ps.take i))[p.1]? = some (flipAll rs (ps.take i))[p.1] := List.getElem?_eq_getElem hr1
          generalize (flipAll rs (ps.take i))[p.1] = l at e1
          have rl := R.row l (List.mem_of_getElem? e1)
          have hc1 : p.2 < l.length := by rw [rl.len]; exact hpr.2
          have e2 : l[p.2]? = some l[p.2] := List.getElem?_eq_getElem hc1
          generalize l[p.2] = c at e2
          have ha1 : p.1 < as2.length := by rw [G2.gr.len]; exact hr1
          have e3 : as2[p.1]? = some as2[p.1] := List.getElem?_eq_getElem ha1
          generalize as2[p.1] = b at e3
          have hb := G2.gr.row _ b l e3 e1
          have i1 : atI (as2.map V.ref) (p.1 : Int) = some (.ref b) := atI_nat (by rw [List.getElem?_map, e3]; rfl)
          have i2 : atI (l.map ch) (p.2 : Int) = some (ch c) := atI_nat (by rw [List.getElem?_map, e2]; rfl)
          have kd : KDct K w d (⟨#[c]⟩ : Str) (ch (flipC c)) := by
            rcases rl.sg c (List.mem_of_getElem? e2) with z | z
            · subst z
              rw [s_hash, s_dot] at k1
              exact k1
            · subst z
              rw [s_hash, s_dot] at k2
              exact k2
          refine ⟨t, _, rfl, sameT G2.sm ht, rfl, _, _, rfl, _, _, rfl, rfl, .ref D, rfl, .int p.1, rfl, D, _, p.1, .ref b, rfl, rfl, SqL.of G2.gr.top, i1, .int p.2, rfl, b, _, p.2, ch c, rfl, rfl, SqL.of hb, i2, d, _, ch (flipC c), rfl, rfl, kd, ?_⟩
          refine ⟨.ref D, rfl, .int p.1, rfl, D, _, p.1, .ref b, rfl, rfl, SqL.of G2.gr.top, i1, .int p.2, rfl, b, _, p.2, p.2, rfl, rfl, hb, ixN_at (by rw [List.length_map]; exact hc1), _, _, rfl, as2, ?_⟩
          rw [flipAll_take hp, flipAt_eq e1 e2]
          exact G2.put e3 e1
        · rintro σ H4 ⟨y3, y4, rfl, as2, G2⟩
          rw [pl.len, List.take_length] at G2
          have R := R0.flips inr
          generalize flipAll rs ps = ls at G2 R k
          refine ⟨.ref D, rfl, D, rfl, ⟨_, SqL.of G2.gr.top⟩, fun E hE => lc_list (K := K) (a := D) (xs := as2.map V.ref) (fun i H5 => GridN H H5 D as2 ls ∧ H5 E = some (.lst ((ls.take i).map rv))) ⟨G2.same (same_upd hE), upd_same⟩ (fun i H5 _ z => SqL.of z.1.gr.top) ?_ ?_⟩
          · rintro i x H5 hi ⟨G5, h5⟩
            rw [List.getElem?_map] at hi
            obtain ⟨b, hb, rfl⟩ : ∃ b, as2[i]? = some b ∧ x = V.ref b := by
              cases e : as2[i]? with
              | none =>
                rw [e] at hi
                cases hi
              | some z =>
                rw [e] at hi
                exact ⟨z, rfl, (Option.some.inj hi).symm⟩
            have hil : i < ls.length := by
              rw [← G5.gr.len]
              exact (List.getElem?_eq_some_iff.mp hb).1
            have el : ls[i]? = some ls[i] := List.getElem?_eq_getElem hil
            generalize ls[i] = l at el
            have hrow := G5.gr.row i b l hb el
            have rl := R.row l (List.mem_of_getElem? el)
            have w1 := pr.w1
            have h1' := pr.h1
            have ll := rl.len
            rw [R.len] at hil
            refine ⟨rfl, ⟨"", rfl⟩, .ref b, rfl, "", b, l.map fun c => (⟨#[c]⟩ : Str), rfl, rfl, .inl (SqL.of (hrow.trans (by rw [List.map_map]; rfl))), ?_, ?_⟩
            · rw [lens_rows]
              show l.length + _ * 0 ≤ 16777216
              omega
            · rw [join_row]
              refine ⟨_, h5, ?_, ?_, ?_⟩
              · rw [List.length_map, List.length_take]
                exact small1000 (by omega)
              · exact G5.same' h5 (fun e => by
                  have n1 := G2.gr.top
                  rw [e, hE] at n1
                  cases n1) (fun a' ha' e => by
                  subst e
                  obtain ⟨j, hj⟩ := List.mem_iff_getElem?.mp ha'
                  have hlt : j < ls.length := by
                    rw [← G2.gr.len]
                    exact (List.getElem?_eq_some_iff.mp hj).1
                  have n1 := G2.gr.row j _ _ hj (List.getElem?_eq_getElem hlt)
                  rw [hE] at n1
                  cases n1) (G2.sm.free hE)
              · rw [upd_same, take_snoc el, List.map_append]
                rfl
          · rintro H5 ⟨G5, h5⟩
            have e5 : ls.take (as2.map V.ref).length = ls := by
              rw [List.length_map, G5.gr.len, List.take_length]
            rw [e5] at h5
            refine ⟨E, _, rfl, .inl ⟨SqL.of h5, fun p hp => ?_⟩⟩
            exact k p _ (G5.sm.trans (same_upd hp)) (G5.sm.free hp) upd_same
      · refine .inr ⟨.ref q, rfl, q, rfl, ⟨xs, (sameT G.sm hq)⟩, for_tup (fun i σ H2 => ∃ y3 y4, σ = [some (.ref a), some (.ref q), some (.ref D), y3, y4, none] ∧ ∃ as, GridN H H2 D as (flipAll rs (ps.take i))) ⟨none, none, rfl, inv0⟩ (fun i σ H2 _ z => by
          obtain ⟨_, _, _, as, G⟩ := z
          exact (sameT G.sm hq)) ?_ ?_⟩
        · rintro i x σ H4 hx ⟨y3, y4, rfl, as2, G2⟩
          have hix : i < ps.length := by
            rw [← pl.len]
            exact (List.getElem?_eq_some_iff.mp hx).1
          have hp : ps[i]? = some ps[i] := List.getElem?_eq_getElem hix
          generalize ps[i] = p at hp
          obtain ⟨t, rfl, ht⟩ := pl.at_ i x p hx hp
          have hpr := inr p (List.mem_of_getElem? hp)
          have R := R0.flips (ps := ps.take i) fun y hy => inr y (List.mem_of_mem_take hy)
          have hr1 : p.1 < (flipAll rs (ps.take i)).length := by rw [R.len]; exact hpr.1
          have e1 : (flipAll rs (ps.take i))[p.1]? = some (flipAll rs (ps.take i))[p.1] := List.getElem?_eq_getElem hr1
          generalize (flipAll rs (ps.take i))[p.1] = l at e1
          have rl := R.row l (List.mem_of_getElem? e1)
          have hc1 : p.2 < l.length := by rw [rl.len]; exact hpr.2
          have e2 : l[p.2]? = some l[p.2] := List.getElem?_eq_getElem hc1
          generalize l[p.2] = c at e2
          have ha1 : p.1 < as2.length := by rw [G2.gr.len]; exact hr1
          have e3 : as2[p.1]? = some as2[p.1] := List.getElem?_eq_getElem ha1
          generalize as2[p.1] = b at e3
          have hb := G2.gr.row _ b l e3 e1
          have i1 : atI (as2.map V.ref) (p.1 : Int) = some (.ref b) := atI_nat (by rw [List.getElem?_map, e3]; rfl)
          have i2 : atI (l.map ch) (p.2 : Int) = some (ch c) := atI_nat (by rw [List.getElem?_map, e2]; rfl)
          have kd : KDct K w d (⟨#[c]⟩ : Str) (ch (flipC c)) := by
            rcases rl.sg c (List.mem_of_getElem? e2) with z | z
            · subst z
              rw [s_hash, s_dot] at k1
              exact k1
            · subst z
              rw [s_hash, s_dot] at k2
              exact k2
          refine ⟨t, _, rfl, sameT G2.sm ht, rfl, _, _, rfl, _, _, rfl, rfl, .ref D, rfl, .int p.1, rfl, D, _, p.1, .ref b, rfl, rfl, SqL.of G2.gr.top, i1, .int p.2, rfl, b, _, p.2, ch c, rfl, rfl, SqL.of hb, i2, d, _, ch (flipC c), rfl, rfl, kd, ?_⟩
          refine ⟨.ref D, rfl, .int p.1, rfl, D, _, p.1, .ref b, rfl, rfl, SqL.of G2.gr.top, i1, .int p.2, rfl, b, _, p.2, p.2, rfl, rfl, hb, ixN_at (by rw [List.length_map]; exact hc1), _, _, rfl, as2, ?_⟩
          rw [flipAll_take hp, flipAt_eq e1 e2]
          exact G2.put e3 e1
        · rintro σ H4 ⟨y3, y4, rfl, as2, G2⟩
          rw [pl.len, List.take_length] at G2
          have R := R0.flips inr
          generalize flipAll rs ps = ls at G2 R k
          refine ⟨.ref D, rfl, D, rfl, ⟨_, SqL.of G2.gr.top⟩, fun E hE => lc_list (K := K) (a := D) (xs := as2.map V.ref) (fun i H5 => GridN H H5 D as2 ls ∧ H5 E = some (.lst ((ls.take i).map rv))) ⟨G2.same (same_upd hE), upd_same⟩ (fun i H5 _ z => SqL.of z.1.gr.top) ?_ ?_⟩
          · rintro i x H5 hi ⟨G5, h5⟩
            rw [List.getElem?_map] at hi
            obtain ⟨b, hb, rfl⟩ : ∃ b, as2[i]? = some b ∧ x = V.ref b := by
              cases e : as2[i]? with
              | none =>
                rw [e] at hi
                cases hi
              | some z =>
                rw [e] at hi
                exact ⟨z, rfl, (Option.some.inj hi).symm⟩
            have hil : i < ls.length := by
              rw [← G5.gr.len]
              exact (List.getElem?_eq_some_iff.mp hb).1
            have el : ls[i]? = some ls[i] := List.getElem?_eq_getElem hil
            generalize ls[i] = l at el
            have hrow := G5.gr.row i b l hb el
            have rl := R.row l (List.mem_of_getElem? el)
            have w1 := pr.w1
            have h1' := pr.h1
            have ll := rl.len
            rw [R.len] at hil
            refine ⟨rfl, ⟨"", rfl⟩, .ref b, rfl, "", b, l.map fun c => (⟨#[c]⟩ : Str), rfl, rfl, .inl (SqL.of (hrow.trans (by rw [List.map_map]; rfl))), ?_, ?_⟩
            · rw [lens_rows]
              show l.length + _ * 0 ≤ 16777216
              omega
            · rw [join_row]
              refine ⟨_, h5, ?_, ?_, ?_⟩
              · rw [List.length_map, List.length_take]
                exact small1000 (by omega)
              · exact G5.same' h5 (fun e => by
                  have n1 := G2.gr.top
                  rw [e, hE] at n1
                  cases n1) (fun a' ha' e => by
                  subst e
                  obtain ⟨j, hj⟩ := List.mem_iff_getElem?.mp ha'
                  have hlt : j < ls.length := by
                    rw [← G2.gr.len]
                    exact (List.getElem?_eq_some_iff.mp hj).1
                  have n1 := G2.gr.row j _ _ hj (List.getElem?_eq_getElem hlt)
                  rw [hE] at n1
                  cases n1) (G2.sm.free hE)
              · rw [upd_same, take_snoc el, List.map_append]
                rfl
          · rintro H5 ⟨G5, h5⟩
            have e5 : ls.take (as2.map V.ref).length = ls := by
              rw [List.length_map, G5.gr.len, List.take_length]
            rw [e5] at h5
            refine ⟨E, _, rfl, .inl ⟨SqL.of h5, fun p hp => ?_⟩⟩
            exact k p _ (G5.sm.trans (same_upd hp)) (G5.sm.free hp) upd_same
end
end Dt
namespace Dt
open PySem PySem.Spec PyProof.Rows L2 L2X
open SX (S)
abbrev sLTO : Stmt := topS 42
theorem scLTO : FnScope ["picture", "told", "rows", "r", "c", "row"] ["picture", "told"] (defScope sLTO) := ⟨rfl, rfl, rfl, by decide +kernel, rfl, by decide +kernel, by decide +kernel⟩
def spFlipL (K : PySem.W.Frag) : Sp := fun vs H Q _ => ∃ (a q : Addr) (high wide : Nat) (rs : List (List Nat)) (xs : List V) (ps : List (Nat × Nat)), vs = [.ref a, .ref q] ∧ H a = some (.tup (rs.map rv)) ∧ PicR high wide rs ∧ SqL K H q xs ∧ Plc K H xs ps ∧ (∀ p ∈ ps, p.1 < high ∧ p.2 < wide) ∧
  ∀ p H', Same H H' → H p = none → H' p = some (.tup ((flipAll rs ps).map rv)) → Q (.ref p) H'
section
variable {P : Program} {w : World} {K : PySem.W.Frag} {mg : Str → Option Value} {base : Heap} {C CP : Addr}
theorem ok_LTO {f : Addr} {fd : FuncData} {k : Nat} (F : Fun K "_law_turned_over" "_law_turned_over" sLTO f fd) (X : Tx mg) : FnOk P w K mg base CX0 (k + 1) f fd ["picture", "told"] (spFlipL K) := by
  refine F.ok scLTO (fun vs H Q E h => ?_) (fun cdv A outer s H vs Q E hr h => ?_)
  · obtain ⟨a, q, _, _, _, _, _, rfl, _⟩ := h
    rfl
  · obtain ⟨a, q, high, wide, rs, xs, ps, rfl, ha, pr, hq, pl, inr, k⟩ := h
    have nd := scLTO.nd
    refine ⟨_, pss_cons (ps_setLc (i := 2) (own := [("row", 5)]) (g := gName 5) (tt := tYes) (by rfl) nd rfl rfl (sw_true rfl rfl rfl (by decide +kernel)) (pi_tup (pv 0)) (blkOk_by (N := ["picture", "told", "rows", "r", "c", "row"]) (sc := defScope sLTO) (by decide +kernel)) (fun _ _ _ _ _ => pg_name (i := 5) nd rfl (Or.inl rfl)) (fun _ _ _ _ _ => pts_nil)
          (fun _ _ _ _ _ => pe_callTy (call_listS rfl) (by rfl) X.list (by decide +kernel) (pa_cons (pv 5) pa_nil)))
      (pss_cons (ps_for PassesOwn.never rfl (pi_list (pv 1)) (pg_tup rfl (pgs_cons (pg_name (i := 3) nd rfl (Or.inl rfl)) (pgs_cons (pg_name (i := 4) nd rfl (Or.inl rfl)) pgs_nil)))
        (pss_one (ps_asg (pe_ix ix_list (pe_lst (pa_cons pe_str (pa_cons pe_str pa_nil))) (pe_callTy call_int1 (by rfl) X.int (by decide +kernel) (pa_cons (pe_cmpR op_eq (pe_ix ix_list (pe_ix ix_list (pv 2) (pv 3) (fun _ _ => rfl)) (pv 4) (fun _ _ => rfl)) pe_str (nomark _)) pa_nil)) (fun _ _ => rfl)) (pg_sub (pe_ix ix_list (pv 2) (pv 3) (fun _ _ => rfl)) (pv 4) set_list))))
      (pss_one (ps_ret (pe_callTy call_tuple_of (by rfl) X.tuple (by decide +kernel) (pa_cons (pe_lc (own := [("row", 5)]) (g := gName 5) (tt := tYes) rfl nd (pi_list (pv 2)) (blkOk_by (N := ["picture", "told", "rows", "r", "c", "row"]) (sc := defScope sLTO) (by decide +kernel)) (fun _ _ _ _ _ => pg_name (i := 5) nd rfl (Or.inl rfl)) (fun _ _ _ _ _ => pts_nil)
          (fun _ _ _ _ _ => pe_joinK (K := K) rfl pe_str (pv 5))) pa_nil))))), ?_⟩
    refine ⟨.ref a, rfl, a, rfl, ⟨_, SqT.of ha⟩, fun D hD => lc_tup (K := K) (a := a) (xs := rs.map rv) (fun i H2 => ∃ as, GridN H H2 D as (rs.take i)) ?_ (fun i H2 _ z => ?_) ?_ ?_⟩
    · exact ⟨[], ⟨upd_same, rfl, (fun i a l h => nomatch h), List.nodup_nil, (fun h => nomatch h)⟩, same_upd hD, hD, (fun a h => nomatch h)⟩
    · obtain ⟨as, G⟩ := z
      exact SqT.of (G.sm _ _ ha)
    · rintro i x H2 hi ⟨as, G⟩
      rw [List.getElem?_map] at hi
      obtain ⟨l, hl, rfl⟩ : ∃ l, rs[i]? = some l ∧ x = rv l := by
        cases e : rs[i]? with
        | none =>
          rw [e] at hi
          cases hi
        | some z =>
          rw [e] at hi
          exact ⟨z, rfl, (Option.some.inj hi).symm⟩
      have l1 := (pr.row l (List.mem_of_getElem? hl)).len
      have w1 := pr.w1
      have h1' := pr.h1
      have hil : i < rs.length := (List.getElem?_eq_some_iff.mp hl).1
      rw [pr.len] at hil
      refine ⟨rfl, rv l, rfl, S l, rfl, ?_, fun b hb => ?_⟩
      · show l.length ≤ sizeLine
        exact Nat.le_of_lt (small1000 (by omega))
      · rw [chars_row]
        refine ⟨as.map V.ref, ?_, ?_, as ++ [b], ?_⟩
        · rw [upd_ne (ne_of_none G.gr.top hb)]
          exact G.gr.top
        · rw [List.length_map, G.gr.len, List.length_take]
          exact small1000 (by omega)
        · rw [take_snoc hl]
          exact G.add hb
    · rintro H3 ⟨as, G⟩
      rw [List.length_map, List.take_length] at G
      have inv0 : ∃ as, GridN H H3 D as (flipAll rs (ps.take 0)) := ⟨as, G⟩
      have R0 : RowsR high wide rs := pr.rows
      · refine ⟨.ref q, rfl, q, rfl, ⟨xs, (G.sm.seq hq)⟩, for_list (fun i σ H2 => ∃ y3 y4, σ = [some (.ref a), some (.ref q), some (.ref D), y3, y4, none] ∧ ∃ as, GridN H H2 D as (flipAll rs (ps.take i))) ⟨none, none, rfl, inv0⟩ (fun i σ H2 _ z => by
          obtain ⟨_, _, _, as, G⟩ := z
          exact (G.sm.seq hq)) ?_ ?_⟩
        · rintro i x σ H4 hx ⟨y3, y4, rfl, as2, G2⟩
          have hix : i < ps.length := by
            rw [← pl.len]
            exact (List.getElem?_eq_some_iff.mp hx).1
          have hp : ps[i]? = some ps[i] := List.getElem?_eq_getElem hix
          generalize ps[i] = p at hp
          obtain ⟨t, rfl, ht⟩ := pl.at_ i x p hx hp
          have hpr := inr p (List.mem_of_getElem? hp)
          have R := R0.flips (ps := ps.take i) fun y hy => inr y (List.mem_of_mem_take hy)
          have hr1 : p.1 < (flipAll rs (ps.take i)).length := by rw [R.len]; exact hpr.1
          have e1 : (flipAll rs (ps.take i))[p.1]? = some (flipAll rs (ps.take i))[p.1] := List.getElem?_eq_getElem hr1
          generalize (flipAll rs (ps.take i))[p.1] = l at e1
          have rl := R.row l (List.mem_of_getElem? e1)
          have hc1 : p.2 < l.length := by rw [rl.len]; exact hpr.2
          have e2 : l[p.2]? = some l[p.2] := List.getElem?_eq_getElem hc1
          generalize l[p.2] = c at e2
          have ha1 : p.1 < as2.length := by rw [G2.gr.len]; exact hr1
          have e3 : as2[p.1]? = some as2[p.1] := List.getElem?_eq_getElem ha1
          generalize as2[p.1] = b at e3
          have hb := G2.gr.row _ b l e3 e1
          have i1 : atI (as2.map V.ref) (p.1 : Int) = some (.ref b) := atI_nat (by rw [List.getElem?_map, e3]; rfl)
          have i2 : atI (l.map ch) (p.2 : Int) = some (ch c) := atI_nat (by rw [List.getElem?_map, e2]; rfl)
          have hat : atI [V.str "#", V.str "."] (if decide (ch c = V.str "#") then 1 else 0) = some (ch (flipC c)) := by
            rcases rl.sg c (List.mem_of_getElem? e2) with z | z
            · subst z
              rw [s_hash, s_dot]
              rfl
            · subst z
              have n : decide (ch 46 = V.str "#") = false := by
                rw [s_hash]
                exact (ch_dec 46 35).trans rfl
              rw [n, s_hash, s_dot]
              rfl
          refine ⟨t, _, rfl, sameT G2.sm ht, rfl, _, _, rfl, _, _, rfl, rfl, by show 2 ≤ sizeLine; decide, fun p2 hp2 => ?_⟩
          have s2 := same_upd (o := .lst [V.str "#", V.str "."]) hp2
          have G3 := G2.same s2
          have hb3 := s2 _ _ hb
          refine ⟨.ref D, rfl, .int p.1, rfl, D, _, p.1, .ref b, rfl, rfl, SqL.of G3.gr.top, i1, .int p.2, rfl, b, _, p.2, ch c, rfl, rfl, SqL.of hb3, i2, rfl, .inr ⟨_, rfl, p2, _, _, ch (flipC c), rfl, rfl, SqL.of upd_same, hat, ?_⟩⟩
          refine ⟨.ref D, rfl, .int p.1, rfl, D, _, p.1, .ref b, rfl, rfl, SqL.of G3.gr.top, i1, .int p.2, rfl, b, _, p.2, p.2, rfl, rfl, hb3, ixN_at (by rw [List.length_map]; exact hc1), _, _, rfl, as2, ?_⟩
          rw [flipAll_take hp, flipAt_eq e1 e2]
          exact G3.put e3 e1
        · rintro σ H4 ⟨y3, y4, rfl, as2, G2⟩
          rw [pl.len, List.take_length] at G2
          have R := R0.flips inr
          generalize flipAll rs ps = ls at G2 R k
          refine ⟨.ref D, rfl, D, rfl, ⟨_, SqL.of G2.gr.top⟩, fun E hE => lc_list (K := K) (a := D) (xs := as2.map V.ref) (fun i H5 => GridN H H5 D as2 ls ∧ H5 E = some (.lst ((ls.take i).map rv))) ⟨G2.same (same_upd hE), upd_same⟩ (fun i H5 _ z => SqL.of z.1.gr.top) ?_ ?_⟩
          · rintro i x H5 hi ⟨G5, h5⟩
            rw [List.getElem?_map] at hi
            obtain ⟨b, hb, rfl⟩ : ∃ b, as2[i]? = some b ∧ x = V.ref b := by
              cases e : as2[i]? with
              | none =>
                rw [e] at hi
                cases hi
              | some z =>
                rw [e] at hi
                exact ⟨z, rfl, (Option.some.inj hi).symm⟩
            have hil : i < ls.length := by
              rw [← G5.gr.len]
              exact (List.getElem?_eq_some_iff.mp hb).1
            have el : ls[i]? = some ls[i] := List.getElem?_eq_getElem hil
            generalize ls[i] = l at el
            have hrow := G5.gr.row i b l hb el
            have rl := R.row l (List.mem_of_getElem? el)
            have w1 := pr.w1
            have h1' := pr.h1
            have ll := rl.len
            rw [R.len] at hil
            refine ⟨rfl, ⟨"", rfl⟩, .ref b, rfl, "", b, l.map fun c => (⟨#[c]⟩ : Str), rfl, rfl, .inl (SqL.of (hrow.trans (by rw [List.map_map]; rfl))), ?_, ?_⟩
            · rw [lens_rows]
              show l.length + _ * 0 ≤ 16777216
              omega
            · rw [join_row]
              refine ⟨_, h5, ?_, ?_, ?_⟩
              · rw [List.length_map, List.length_take]
                exact small1000 (by omega)
              · exact G5.same' h5 (fun e => by
                  have n1 := G2.gr.top
                  rw [e, hE] at n1
                  cases n1) (fun a' ha' e => by
                  subst e
                  obtain ⟨j, hj⟩ := List.mem_iff_getElem?.mp ha'
                  have hlt : j < ls.length := by
                    rw [← G2.gr.len]
                    exact (List.getElem?_eq_some_iff.mp hj).1
                  have n1 := G2.gr.row j _ _ hj (List.getElem?_eq_getElem hlt)
                  rw [hE] at n1
                  cases n1) (G2.sm.free hE)
              · rw [upd_same, take_snoc el, List.map_append]
                rfl
          · rintro H5 ⟨G5, h5⟩
            have e5 : ls.take (as2.map V.ref).length = ls := by
              rw [List.length_map, G5.gr.len, List.take_length]
            rw [e5] at h5
            refine ⟨E, _, rfl, .inl ⟨SqL.of h5, fun p hp => ?_⟩⟩
            exact k p _ (G5.sm.trans (same_upd hp)) (G5.sm.free hp) upd_same
/-! ### with_turned -/
abbrev sIsPlc : Stmt := topS 31
theorem scIsPlc : FnScope ["thing", "rows", "columns"] ["thing", "rows", "columns"] (defScope sIsPlc) := ⟨rfl, rfl, rfl, by decide +kernel, rfl, by decide +kernel, by decide +kernel⟩
/-- a thing as _is_place may be asked -/
def IsP (K : PySem.W.Frag) (H : Hp) (high wide : Nat) (x : V) (b : Bool) : Prop :=
  (∃ T, TyB K H x T ∧ tyOk T = true ∧ T ≠ "tuple" ∧ b = false) ∨ ∃ a xs, x = .ref a ∧ SqT K H a xs ∧ ((xs.length ≠ 2 ∧ b = false) ∨ ∃ u v, xs = [u, v] ∧ Kt K H u ∧ Kt K H v ∧ b = (betw u 0 ((high : Int) - 1) && betw v 0 ((wide : Int) - 1)))
theorem tyB_same2 {K : PySem.W.Frag} {H H' : Hp} {x : V} {T : String} (t : TyB K H x T) (s : Same H H') : TyB K H' x T := by
  cases t with
  | non => exact .non
  | bl b => exact .bl b
  | int i => exact .int i
  | str x => exact .str x
  | byt b => exact .byt b
  | lst h => exact .lst (s.seq h)
  | tup h => exact .tup (sameT s h)
  | dK h => exact .dK (s _ _ h)
theorem Kt.same {K : PySem.W.Frag} {H H' : Hp} {x : V} (h : Kt K H x) (s : Same H H') : Kt K H' x := let ⟨T, t, ok⟩ := h; ⟨T, tyB_same2 t s, ok⟩
theorem IsP.same {K : PySem.W.Frag} {H H' : Hp} {high wide : Nat} {x : V} {b : Bool} (h : IsP K H high wide x b) (s : Same H H') : IsP K H' high wide x b := by
  rcases h with ⟨T, t, ok, ne, e⟩ | ⟨a, xs, e, h1, h2⟩
  · exact .inl ⟨T, tyB_same2 t s, ok, ne, e⟩
  · refine .inr ⟨a, xs, e, sameT s h1, ?_⟩
    rcases h2 with h2 | ⟨u, v, e1, k1, k2, e2⟩
    · exact .inl h2
    · exact .inr ⟨u, v, e1, k1.same s, k2.same s, e2⟩
def spIsPlc (K : PySem.W.Frag) : Sp := fun vs H Q _ => ∃ x high wide b, vs = [x, .int ((high : Nat) : Int), .int ((wide : Nat) : Int)] ∧ IsP K H high wide x b ∧ Q (.bl b) H
theorem ok_isPlc {f fT fB : Addr} {fd fdT fdB : FuncData} {k : Nat} (F : Fun K "_is_place" "_is_place" sIsPlc f fd) (GT : FnOk P w K mg base CX0 (k + 2) fT fdT ["thing", "many"] (spIsTup K)) (mT : mg "is_tuple" = some (.ref fT)) (kT : PySem.W.keepIn K (.ref fT) = true) (bT : Binds K fdT ["thing", "many"] [])
    (GB : FnOk P w K mg base CX0 (k + 2) fB fdB ["thing", "least", "most"] (spBetw K)) (mB : mg "is_between" = some (.ref fB)) (kB : PySem.W.keepIn K (.ref fB) = true) (bB : Binds K fdB ["thing", "least", "most"] []) : FnOk P w K mg base CX0 (k + 3) f fd ["thing", "rows", "columns"] (spIsPlc K) := by
  refine F.ok scIsPlc (fun vs H Q E h => ?_) (fun cdv A outer s H vs Q E hr h => ?_)
  · obtain ⟨x, _, _, _, rfl, _⟩ := h
    rfl
  · obtain ⟨x, high, wide, b, rfl, ip, q⟩ := h
    refine ⟨_, pss_one (ps_ret (pe_and (pe_call GT hr (by rfl) mT kT bT .nil pass0 (pa_cons (pv 0) (pa_cons pe_int pa_nil))) (pe_and (pe_call GB hr (by rfl) mB kB bB .nil pass0 (pa_cons (pe_ix (r := rIxT K) ix_tup (pv 0) pe_int (fun _ _ => rfl)) (pa_cons pe_int (pa_cons (pe_op op_sub (pv 1) pe_int) pa_nil)))) (pe_one (pe_call GB hr (by rfl) mB kB bB .nil pass0 (pa_cons (pe_ix (r := rIxT K) ix_tup (pv 0) pe_int (fun _ _ => rfl)) (pa_cons pe_int (pa_cons (pe_op op_sub (pv 2) pe_int) pa_nil)))))))), ?_⟩
    rcases ip with ⟨T, t, ok, ne, rfl⟩ | ⟨a, xs, rfl, hx, h2⟩
    · exact ⟨x, rfl, x, 2, rfl, .inl ⟨T, t, ok, ne, _, rfl, iteF q⟩⟩
    · rcases h2 with ⟨hl, rfl⟩ | ⟨u, v, rfl, ku, kv, rfl⟩
      · have e : decide ((xs.length : Int) = 2) = false := decide_eq_false (by omega)
        refine ⟨.ref a, rfl, .ref a, 2, rfl, .inr ⟨a, xs, rfl, hx, _, rfl, iteE e q⟩⟩
      · refine ⟨.ref a, rfl, .ref a, 2, rfl, .inr ⟨a, _, rfl, hx, _, rfl, iteY (decide_eq_true rfl) ?_⟩⟩
        refine ⟨.ref a, rfl, a, [u, v], 0, u, rfl, rfl, hx, atI_nat (j := 0) rfl, .int high, rfl, high, 1, rfl, rfl, u, 0, (high : Int) - 1, rfl, ku, _, rfl, ?_⟩
        cases e1 : betw u 0 ((high : Int) - 1) with
        | false =>
          rw [e1, Bool.false_and] at q
          exact iteF q
        | true =>
          rw [e1, Bool.true_and] at q
          refine iteT ?_
          exact ⟨.ref a, rfl, a, [u, v], 1, v, rfl, rfl, hx, atI_nat (j := 1) rfl, .int wide, rfl, wide, 1, rfl, rfl, v, 0, (wide : Int) - 1, rfl, kv, q⟩
abbrev sWTP : Stmt := topS 30
theorem scWTP : FnScope ["picture", "places", "rows", "columns", "place"] ["picture", "places"] (defScope sWTP) := ⟨rfl, rfl, rfl, by decide +kernel, rfl, by decide +kernel, by decide +kernel⟩
/-- with_turned of a picture: of what are places, and of what are none -/
def spWTP (K : PySem.W.Frag) (CP : Addr) : Sp := fun vs H Q E => ∃ (a : Addr) (x : V) (high wide : Nat) (rs : List (List Nat)), vs = [.ref a, x] ∧ H a = some (.tup (rs.map rv)) ∧ PicR high wide rs ∧
  ((∃ T, TyB K H x T ∧ tyOk T = true ∧ T ≠ "list" ∧ T ≠ "tuple" ∧ ∀ H', Same H H' → E (.ref CP) none H') ∨
   (∃ (q : Addr) (xs : List V) (bs : List Bool), x = .ref q ∧ (SqL K H q xs ∨ SqT K H q xs) ∧ xs.length ≤ 1000 ∧ xs.length = bs.length ∧ (∀ (i : Nat) (y : V) (b : Bool), xs[i]? = some y → bs[i]? = some b → IsP K H high wide y b) ∧ bs.all id = false ∧ ∀ H', Same H H' → E (.ref CP) none H') ∨
   (∃ (q : Addr) (xs : List V) (ps : List (Nat × Nat)), x = .ref q ∧ (SqL K H q xs ∨ SqT K H q xs) ∧ xs.length ≤ 1000 ∧ Plc K H xs ps ∧ (∀ p ∈ ps, p.1 < high ∧ p.2 < wide) ∧ ∀ p H', Same H H' → H p = none → H' p = some (.tup ((flipAll rs ps).map rv)) → Q (.ref p) H'))
theorem all_true : ∀ n : Nat, (List.replicate n true).all id = true
  | 0 => rfl
  | n + 1 => by
    rw [List.replicate_succ, List.all_cons, all_true n]
    rfl
theorem plc_is {H : Hp} {high wide : Nat} {xs : List V} {ps : List (Nat × Nat)} (h : Plc K H xs ps) (r : ∀ p ∈ ps, p.1 < high ∧ p.2 < wide) : ∀ (i : Nat) (y : V) (b : Bool), xs[i]? = some y → (List.replicate ps.length true)[i]? = some b → IsP K H high wide y b := by
  intro i y b hy hb
  have hi : i < ps.length := by
    have := (List.getElem?_eq_some_iff.mp hb).1
    rw [List.length_replicate] at this
    exact this
  have eb : b = true := by
    rw [List.getElem?_replicate, if_pos hi] at hb
    exact (Option.some.inj hb).symm
  subst eb
  have ep : ps[i]? = some ps[i] := List.getElem?_eq_getElem hi
  have hr := r ps[i] (List.getElem_mem hi)
  generalize ps[i] = p at ep hr
  obtain ⟨t, e, ht⟩ := h.at_ i y p hy ep
  refine .inr ⟨t, _, e, ht, .inr ⟨_, _, rfl, ⟨"int", .int _, rfl⟩, ⟨"int", .int _, rfl⟩, ?_⟩⟩
  rw [betw_int, betw_int, decide_eq_true (by omega), decide_eq_true (by omega), decide_eq_true (by omega), decide_eq_true (by omega)]
  rfl
theorem ok_WTP {f fL fI fF : Addr} {fd fdL fdI fdF : FuncData} {k : Nat} (F : Fun K "with_turned" "with_turned" sWTP f fd) (T : Tp mg) (NP : ExN K mg "NoPlace" CP) (GZ : GS P w K mg base C (k + 3))
    (GL : FnOk P w K mg base CX0 (k + 3) fL fdL ["thing"] (spIsList K)) (mL : mg "is_list" = some (.ref fL)) (kL : PySem.W.keepIn K (.ref fL) = true) (bL : Binds K fdL ["thing"] [])
    (GI : FnOk P w K mg base CX0 (k + 3) fI fdI ["thing", "rows", "columns"] (spIsPlc K)) (mI : mg "_is_place" = some (.ref fI)) (kI : PySem.W.keepIn K (.ref fI) = true) (bI : Binds K fdI ["thing", "rows", "columns"] [])
    (GF : FnOk P w K mg base CX0 (k + 3) fF fdF ["picture", "places"] (spFlip K)) (mF : mg "_with_signs_turned" = some (.ref fF)) (kF : PySem.W.keepIn K (.ref fF) = true) (bF : Binds K fdF ["picture", "places"] []) :
    FnOk P w K mg base (L2.CX P w) (k + 4) f fd ["picture", "places"] (spWTP K CP) := by
  obtain ⟨fS, fdS, GS, mS, kS, bS⟩ := GZ.ex
  refine F.okX scWTP (fun vs H Q E h => ?_) (fun cdv A outer s H vs Q E hr h => ?_)
  · obtain ⟨a, x, _, _, _, rfl, _⟩ := h
    rfl
  · obtain ⟨a, x, high, wide, rs, rfl, ha, pr, h⟩ := h
    have nd := scWTP.nd
    refine ⟨_, pss_cons (ps_asg (pe_callS GS hr (by rfl) mS kS bS (fun σ => passAt (takes_of rfl rfl rfl rfl) σ) (pa_cons (pv 0) pa_nil)) (pg_tup rfl (pgs_cons (pg_name (i := 2) nd rfl (Or.inr rfl)) (pgs_cons (pg_name (i := 3) nd rfl (Or.inr rfl)) pgs_nil))))
      (pss_cons (ps_if (PW.pt (pw_or (pt_not (pt_val (pe_call GL hr (by rfl) mL kL bL .nil pass0 (pa_cons (pv 1) pa_nil)))) (pw_or1 (pt_not (pt_val (pe_callB (cr_all rfl) (by rfl) T.all (by decide +kernel) (pa_cons (pe_lc (own := [("place", 4)]) (g := gName 4) (tt := tYes) rfl nd (L2X.PI.or (pi_list (pv 1)) (pi_tup (pv 1))) (blkOk_by (N := ["picture", "places", "rows", "columns", "place"]) (sc := defScope sWTP) (by decide +kernel)) (fun _ _ _ _ _ => pg_name (i := 4) nd rfl (Or.inl rfl)) (fun _ _ _ _ _ => pts_nil)
            (fun _ _ _ _ _ => pe_call GI hr (by rfl) mI kI bI .nil pass0 (pa_cons (pv 4) (pa_cons (pv 2) (pa_cons (pv 3) pa_nil))))) pa_nil)))))))
        (pss_one (ps_raise rfl (takes_of rfl rfl rfl rfl) (pmk_own PySem.F.excBase_ValueError NP.x NP.g NP.k (raises_own NP.b NP.t) rfl))) pss_nil)
      (pss_one (ps_ret (pe_call GF hr (by rfl) mF kF bF .nil pass0 (pa_cons (pv 0) (pa_cons (pv 1) pa_nil)))))), ?_⟩
    have e1 := picSize pr
    refine ⟨.ref a, rfl, .ref a, rfl, .inr ⟨a, _, rfl, SqT.of ha, kn_rows pr, picOk_pic pr, fun p3 H3 s3 n3 h3 => ?_⟩⟩
    rw [e1.1, e1.2] at h3
    refine ⟨p3, _, rfl, SqT.of h3, rfl, _, _, rfl, _, _, rfl, rfl, x, rfl, ?_⟩
    rcases h with ⟨Ty, ht, ok, n1, n2, q⟩ | ⟨q, xs, bs, rfl, hq, hl, hlb, hip, hall, q0⟩ | ⟨q, xs, ps, rfl, hq, hl, pl, hr2, q0⟩
    · refine ⟨x, Ty, rfl, tyB_same2 ht s3, ok, fun H4 s4 => ⟨_, rfl, ?_⟩⟩
      rw [decide_eq_false (fun z => n1 z.symm), decide_eq_false (fun z => n2 z.symm)]
      exact iteT (q _ (s3.trans s4))
    · rcases hq with hq | hq
      · refine ⟨.ref q, "list", rfl, .lst (s3.seq hq), rfl, fun H4 s4 => ⟨_, rfl, iteE (by decide) ?_⟩⟩
        have s34 := s3.trans s4
        refine .inl ⟨.ref q, rfl, q, rfl, ⟨_, (s34.seq hq)⟩, fun D hD => lc_list (K := K) (a := q) (xs := xs) (fun i H5 => Same H H5 ∧ H5 D = some (.lst (((bs).take i).map V.bl))) ⟨s34.trans (same_upd hD), upd_same⟩ (fun i H5 _ z => (z.1.seq hq)) ?_ ?_⟩
        · rintro i y H5 hi ⟨sm, h5⟩
          have hil : i < xs.length := (List.getElem?_eq_some_iff.mp hi).1
          have hib : i < (bs).length := by omega
          have eb : (bs)[i]? = some (bs)[i] := List.getElem?_eq_getElem hib
          generalize (bs)[i] = b at eb
          refine ⟨rfl, y, rfl, .int high, rfl, .int wide, rfl, y, high, wide, b, rfl, (hip i y b hi eb).same sm, _, h5, ?_, ?_, ?_⟩
          · rw [List.length_map, List.length_take]
            exact small1000 (by omega)
          · exact same_over sm (s34.free hD)
          · rw [upd_same, take_snoc eb, List.map_append]
            rfl
        · rintro H5 ⟨sm, h5⟩
          have et : (bs).take xs.length = bs := List.take_of_length_le (by omega)
          rw [et] at h5
          refine ⟨D, bs, rfl, SqL.of h5, _, rfl, ?_⟩
          exact iteY (by rw [hall]; rfl) (q0 _ sm)
      · refine ⟨.ref q, "tuple", rfl, .tup (sameT s3 hq), rfl, fun H4 s4 => ⟨_, rfl, iteE (by decide) ?_⟩⟩
        have s34 := s3.trans s4
        refine .inr ⟨.ref q, rfl, q, rfl, ⟨_, (sameT s34 hq)⟩, fun D hD => lc_tup (K := K) (a := q) (xs := xs) (fun i H5 => Same H H5 ∧ H5 D = some (.lst (((bs).take i).map V.bl))) ⟨s34.trans (same_upd hD), upd_same⟩ (fun i H5 _ z => (sameT z.1 hq)) ?_ ?_⟩
        · rintro i y H5 hi ⟨sm, h5⟩
          have hil : i < xs.length := (List.getElem?_eq_some_iff.mp hi).1
          have hib : i < (bs).length := by omega
          have eb : (bs)[i]? = some (bs)[i] := List.getElem?_eq_getElem hib
          generalize (bs)[i] = b at eb
          refine ⟨rfl, y, rfl, .int high, rfl, .int wide, rfl, y, high, wide, b, rfl, (hip i y b hi eb).same sm, _, h5, ?_, ?_, ?_⟩
          · rw [List.length_map, List.length_take]
            exact small1000 (by omega)
          · exact same_over sm (s34.free hD)
          · rw [upd_same, take_snoc eb, List.map_append]
            rfl
        · rintro H5 ⟨sm, h5⟩
          have et : (bs).take xs.length = bs := List.take_of_length_le (by omega)
          rw [et] at h5
          refine ⟨D, bs, rfl, SqL.of h5, _, rfl, ?_⟩
          exact iteY (by rw [hall]; rfl) (q0 _ sm)
    · have hip := plc_is pl hr2
      have pll := pl.len
      rcases hq with hq | hq
      · refine ⟨.ref q, "list", rfl, .lst (s3.seq hq), rfl, fun H4 s4 => ⟨_, rfl, iteE (by decide) ?_⟩⟩
        have s34 := s3.trans s4
        refine .inl ⟨.ref q, rfl, q, rfl, ⟨_, (s34.seq hq)⟩, fun D hD => lc_list (K := K) (a := q) (xs := xs) (fun i H5 => Same H H5 ∧ H5 D = some (.lst (((List.replicate ps.length true).take i).map V.bl))) ⟨s34.trans (same_upd hD), upd_same⟩ (fun i H5 _ z => (z.1.seq hq)) ?_ ?_⟩
        · rintro i y H5 hi ⟨sm, h5⟩
          have hil : i < xs.length := (List.getElem?_eq_some_iff.mp hi).1
          have hib : i < (List.replicate ps.length true).length := by rw [List.length_replicate]; omega
          have eb : (List.replicate ps.length true)[i]? = some (List.replicate ps.length true)[i] := List.getElem?_eq_getElem hib
          generalize (List.replicate ps.length true)[i] = b at eb
          refine ⟨rfl, y, rfl, .int high, rfl, .int wide, rfl, y, high, wide, b, rfl, (hip i y b hi eb).same sm, _, h5, ?_, ?_, ?_⟩
          · rw [List.length_map, List.length_take]
            exact small1000 (by omega)
          · exact same_over sm (s34.free hD)
          · rw [upd_same, take_snoc eb, List.map_append]
            rfl
        · rintro H5 ⟨sm, h5⟩
          have et : (List.replicate ps.length true).take xs.length = List.replicate ps.length true := List.take_of_length_le (by rw [List.length_replicate]; omega)
          rw [et] at h5
          refine ⟨D, List.replicate ps.length true, rfl, SqL.of h5, _, rfl, ?_⟩
          refine iteE (by rw [all_true]; rfl) ?_
          exact ⟨.ref a, rfl, .ref q, rfl, a, q, high, wide, rs, xs, ps, rfl, sm _ _ ha, pr, .inl (sm.seq hq), pl.same sm, hr2, fun p H6 s6 n6 h6 => q0 p H6 (sm.trans s6) (sm.free n6) h6⟩
      · refine ⟨.ref q, "tuple", rfl, .tup (sameT s3 hq), rfl, fun H4 s4 => ⟨_, rfl, iteE (by decide) ?_⟩⟩
        have s34 := s3.trans s4
        refine .inr ⟨.ref q, rfl, q, rfl, ⟨_, (sameT s34 hq)⟩, fun D hD => lc_tup (K := K) (a := q) (xs := xs) (fun i H5 => Same H H5 ∧ H5 D = some (.lst (((List.replicate ps.length true).take i).map V.bl))) ⟨s34.trans (same_upd hD), upd_same⟩ (fun i H5 _ z => (sameT z.1 hq)) ?_ ?_⟩
        · rintro i y H5 hi ⟨sm, h5⟩
          have hil : i < xs.length := (List.getElem?_eq_some_iff.mp hi).1
          have hib : i < (List.replicate ps.length true).length := by rw [List.length_replicate]; omega
          have eb : (List.replicate ps.length true)[i]? = some (List.replicate ps.length true)[i] := List.getElem?_eq_getElem hib
          generalize (List.replicate ps.length true)[i] = b at eb
          refine ⟨rfl, y, rfl, .int high, rfl, .int wide, rfl, y, high, wide, b, rfl, (hip i y b hi eb).same sm, _, h5, ?_, ?_, ?_⟩
          · rw [List.length_map, List.length_take]
            exact small1000 (by omega)
          · exact same_over sm (s34.free hD)
          · rw [upd_same, take_snoc eb, List.map_append]
            rfl
        · rintro H5 ⟨sm, h5⟩
          have et : (List.replicate ps.length true).take xs.length = List.replicate ps.length true := List.take_of_length_le (by rw [List.length_replicate]; omega)
          rw [et] at h5
          refine ⟨D, List.replicate ps.length true, rfl, SqL.of h5, _, rfl, ?_⟩
          refine iteE (by rw [all_true]; rfl) ?_
          exact ⟨.ref a, rfl, .ref q, rfl, a, q, high, wide, rs, xs, ps, rfl, sm _ _ ha, pr, .inr (sameT sm hq), pl.same sm, hr2, fun p H6 s6 n6 h6 => q0 p H6 (sm.trans s6) (sm.free n6) h6⟩
end
end Dt
namespace Dt
open PySem PySem.Spec PyProof.Rows L2 L2X
open SX (S)
/-! ### _law_odd_places -/
/-- what is refused where places are due -/
def OddPlc (K : PySem.W.Frag) (H : Hp) (high wide : Nat) (x : V) : Prop :=
  (∃ T, TyB K H x T ∧ tyOk T = true ∧ T ≠ "list" ∧ T ≠ "tuple") ∨
  ∃ (q : Addr) (xs : List V) (bs : List Bool), x = .ref q ∧ (SqL K H q xs ∨ SqT K H q xs) ∧ xs.length ≤ 1000 ∧ xs.length = bs.length ∧ (∀ (i : Nat) (y : V) (b : Bool), xs[i]? = some y → bs[i]? = some b → IsP K H high wide y b) ∧ bs.all id = false
theorem OddPlc.same {K : PySem.W.Frag} {H H' : Hp} {high wide : Nat} {x : V} (h : OddPlc K H high wide x) (s : Same H H') : OddPlc K H' high wide x := by
  rcases h with ⟨T, t, r⟩ | ⟨q, xs, bs, e, hq, hl, hb, hi, ha⟩
  · exact .inl ⟨T, tyB_same2 t s, r⟩
  · refine .inr ⟨q, xs, bs, e, ?_, hl, hb, fun i y b h1 h2 => (hi i y b h1 h2).same s, ha⟩
    rcases hq with hq | hq
    · exact .inl (s.seq hq)
    · exact .inr (sameT s hq)
theorem Kt.dn {K : PySem.W.Frag} {d g c : Addr} {H H' : Hp} {x : V} (h : Kt K H x) (s : Dn d g H H') (D : Dr H d g c) (D' : Dr H' d g c) : Kt K H' x := let ⟨T, t, ok⟩ := h; ⟨T, tyB_dn s D D' t, ok⟩
theorem IsP.dn {K : PySem.W.Frag} {d g c : Addr} {H H' : Hp} {high wide : Nat} {x : V} {b : Bool} (h : IsP K H high wide x b) (s : Dn d g H H') (D : Dr H d g c) (D' : Dr H' d g c) : IsP K H' high wide x b := by
  rcases h with ⟨T, t, ok, ne, e⟩ | ⟨a, xs, e, h1, h2⟩
  · exact .inl ⟨T, tyB_dn s D D' t, ok, ne, e⟩
  · refine .inr ⟨a, xs, e, sqT_dn s D h1, ?_⟩
    rcases h2 with h2 | ⟨u, v, e1, k1, k2, e2⟩
    · exact .inl h2
    · exact .inr ⟨u, v, e1, k1.dn s D D', k2.dn s D D', e2⟩
theorem Plc.dn {K : PySem.W.Frag} {d g c : Addr} {H H' : Hp} {xs : List V} {ps : List (Nat × Nat)} (h : Plc K H xs ps) (s : Dn d g H H') (D : Dr H d g c) : Plc K H' xs ps :=
  ⟨h.len, fun i x p a b => let ⟨t, e, z⟩ := h.at_ i x p a b; ⟨t, e, sqT_dn s D z⟩⟩
theorem kt_int {K : PySem.W.Frag} {H : Hp} (i : Int) : Kt K H (.int i) := ⟨"int", .int i, rfl⟩
theorem kt_bl {K : PySem.W.Frag} {H : Hp} (b : Bool) : Kt K H (.bl b) := ⟨"bool", .bl b, rfl⟩
/-- a pair that is no place -/
theorem isP_pair {K : PySem.W.Frag} {H : Hp} {high wide : Nat} {a : Addr} {u v : V} (h : H a = some (.tup [u, v])) (ku : Kt K H u) (kv : Kt K H v) (e : (betw u 0 ((high : Int) - 1) && betw v 0 ((wide : Int) - 1)) = false) : IsP K H high wide (.ref a) false :=
  .inr ⟨a, _, rfl, SqT.of h, .inr ⟨u, v, rfl, ku, kv, e.symm⟩⟩
theorem isP_len {K : PySem.W.Frag} {H : Hp} {high wide : Nat} {a : Addr} {xs : List V} (h : H a = some (.tup xs)) (e : xs.length ≠ 2) : IsP K H high wide (.ref a) false := .inr ⟨a, _, rfl, SqT.of h, .inl ⟨e, rfl⟩⟩
theorem allP_app {P : V → Bool → Prop} {xs ys : List V} {bs cs : List Bool} (hl : xs.length = bs.length) (h1 : ∀ (i : Nat) (y : V) (b : Bool), xs[i]? = some y → bs[i]? = some b → P y b) (h2 : ∀ (i : Nat) (y : V) (b : Bool), ys[i]? = some y → cs[i]? = some b → P y b) :
    ∀ (i : Nat) (y : V) (b : Bool), (xs ++ ys)[i]? = some y → (bs ++ cs)[i]? = some b → P y b := by
  intro i y b hy hb
  by_cases hi : i < xs.length
  · rw [List.getElem?_append_left hi] at hy
    rw [List.getElem?_append_left (by omega)] at hb
    exact h1 i y b hy hb
  · rw [List.getElem?_append_right (by omega)] at hy
    rw [List.getElem?_append_right (by omega), ← hl] at hb
    exact h2 _ y b hy hb
theorem plc_mem {K : PySem.W.Frag} {H : Hp} {high wide : Nat} {xs : List V} {ps : List (Nat × Nat)} (h : Plc K H xs ps) (r : ∀ p ∈ ps, p.1 < high ∧ p.2 < wide) {y : V} (hy : y ∈ xs) : IsP K H high wide y true := by
  obtain ⟨i, hi⟩ := List.mem_iff_getElem?.mp hy
  have hl : i < ps.length := by
    rw [← h.len]
    exact (List.getElem?_eq_some_iff.mp hi).1
  exact plc_is h r i y true hi (by rw [List.getElem?_replicate, if_pos hl])
theorem odd_list {K : PySem.W.Frag} {H : Hp} {high wide : Nat} {xs : List V} {ps : List (Nat × Nat)} {x : V} {q j : Nat} (h : Plc K H xs ps) (r : ∀ p ∈ ps, p.1 < high ∧ p.2 < wide) (ip : IsP K H high wide x false) (hq : H q = some (.lst (xs.take j ++ [x] ++ xs.drop j))) (hl : xs.length ≤ 60) : OddPlc K H high wide (.ref q) := by
  refine .inr ⟨q, _, (xs.take j).map (fun _ => true) ++ [false] ++ (xs.drop j).map (fun _ => true), rfl, .inl (SqL.of hq), ?_, ?_, ?_, ?_⟩
  · rw [List.length_append, List.length_append, List.length_take, List.length_drop, List.length_singleton]
    omega
  · rw [List.length_append, List.length_append, List.length_append, List.length_append, List.length_map, List.length_map]
    rfl
  · have cst : ∀ zs : List V, (∀ z ∈ zs, z ∈ xs) → ∀ (i : Nat) (y : V) (b : Bool), zs[i]? = some y → (zs.map fun _ => true)[i]? = some b → IsP K H high wide y b := by
      intro zs hz i y b hy hb
      rw [List.getElem?_map, hy] at hb
      cases hb
      exact plc_mem h r (hz y (List.mem_of_getElem? hy))
    refine allP_app (by rw [List.length_append, List.length_append, List.length_map]; rfl) (allP_app (by rw [List.length_map]) (cst _ fun z hz => List.mem_of_mem_take hz) fun i y b hy hb => ?_) (cst _ fun z hz => List.mem_of_mem_drop hz)
    cases i with
    | zero =>
      cases hy
      cases hb
      exact ip
    | succ i => exact nomatch hy
  · simp
abbrev sOdp : Stmt := topS 43
theorem scOdp : FnScope ["draw", "told", "high", "wide", "at", "odd", "some"] ["draw", "told", "high", "wide"] (defScope sOdp) := ⟨rfl, rfl, rfl, by decide +kernel, rfl, by decide +kernel, by decide +kernel⟩
def spOdp (K : PySem.W.Frag) : Sp := fun vs H Q _ => ∃ (d g c l : Addr) (high wide : Nat) (xs : List V) (ps : List (Nat × Nat)), vs = [.ref d, .ref l, .int high, .int wide] ∧ Dr H d g c ∧ H l = some (.lst xs) ∧ l ≠ g ∧ xs.length ≤ 60 ∧ Plc K H xs ps ∧ (∀ p ∈ ps, p.1 < high ∧ p.2 < wide) ∧
  ∀ x H', OddPlc K H' high wide x → Dr H' d g c → Dn d g H H' → Q x H'
section
variable {P : Program} {w : World} {K : PySem.W.Frag} {mg : Str → Option Value} {base : Heap}
theorem ok_odp {f fN fK : Addr} {fd fdN fdK : FuncData} {k : Nat} (F : Fun K "_law_odd_places" "_law_odd_places" sOdp f fd) (X : Tx mg) (GN : FnOk P w K mg base CX0 (k + 2) fN fdN ["draw", "below"] spNext) (mN : mg "_law_next" = some (.ref fN)) (kN : PySem.W.keepIn K (.ref fN) = true) (bN : Binds K fdN ["draw", "below"] [])
    (GK : FnOk P w K mg base CX0 (k + 2) fK fdK ["draw", "some"] (spPick K)) (mK : mg "_law_pick" = some (.ref fK)) (kK : PySem.W.keepIn K (.ref fK) = true) (bK : Binds K fdK ["draw", "some"] []) : FnOk P w K mg base CX0 (k + 3) f fd ["draw", "told", "high", "wide"] (spOdp K) := by
  refine F.ok scOdp (fun vs H Q E h => ?_) (fun cdv A outer s H vs Q E hr h => ?_)
  · obtain ⟨_, _, _, _, _, _, _, _, rfl, _⟩ := h
    rfl
  · obtain ⟨d, g, c, l, high, wide, xs, ps, rfl, D, hl, nlg, hlen, pl, inr, q⟩ := h
    have nd := scOdp.nd
    refine ⟨_, pss_cons (ps_set (i := 4) nd rfl (.inl rfl) (pe_call GN hr (by rfl) mN kN bN .nil pass0 (pa_cons (pv 0) (pa_cons (pe_op op_add (pe_callB call_len_seq (by rfl) X.len PySem.boot_len (pa_cons (pv 1) pa_nil)) pe_int) pa_nil))))
      (pss_cons (ps_set (i := 5) nd rfl (.inl rfl) (pe_call GK hr (by rfl) mK kK bK .nil pass0 (pa_cons (pv 0) (pa_cons (pe_lst (pa_cons (pe_tup (pa_cons (pv 2) (pa_cons pe_int pa_nil))) (pa_cons (pe_tup (pa_cons pe_int (pa_cons (pv 3) pa_nil))) (pa_cons (pe_tup (pa_cons (pe_un un_neg pe_int) (pa_cons pe_int pa_nil))) (pa_cons (pe_tup (pa_cons pe_int (pa_cons (pe_un un_neg pe_int) pa_nil)))
          (pa_cons (pe_tup (pa_cons pe_bl (pa_cons pe_int pa_nil))) (pa_cons (pe_tup (pa_cons pe_int pa_nil)) (pa_cons (pe_tup (pa_cons pe_int (pa_cons pe_int (pa_cons pe_int pa_nil)))) (pa_cons (pe_lst (pa_cons pe_int (pa_cons pe_int pa_nil))) (pa_cons pe_non (pa_cons pe_int (pa_cons pe_str pa_nil)))))))))))) pa_nil))))
      (pss_cons (ps_set (i := 6) nd rfl (.inl rfl) (pe_lst (pa_cons (pe_op op_cat (pe_op op_cat (pe_slice sl_list (pv 1) po_none (po_some (pv 4))) (pe_lst (pa_cons (pv 5) pa_nil))) (pe_slice sl_list (pv 1) (po_some (pv 4)) po_none)) (pa_cons pe_non (pa_cons pe_int (pa_cons pe_str (pa_cons pe_dnewK (pa_cons (pe_tup (pa_cons pe_int (pa_cons pe_int pa_nil))) (pa_cons (pe_tup (pa_cons pe_int pa_nil)) pa_nil)))))))))
      (pss_one (ps_ret (pe_call GK hr (by rfl) mK kK bK .nil pass0 (pa_cons (pv 0) (pa_cons (pe_op op_cat (pv 6) (pe_op op_rep (pe_slice sl_list (pv 6) po_none (po_some pe_int)) pe_int)) pa_nil))))))), ?_⟩
    have nld : l ≠ d := by
      obtain ⟨⟨r, t, e⟩, _⟩ := D
      exact ne_of hl e (by intro z; cases z)
    refine ⟨.ref d, rfl, .ref l, rfl, l, xs, rfl, .inl (SqL.of hl), (xs.length : Int), 1, rfl, rfl, d, g, c, (xs.length : Int) + 1, rfl, D, by omega, by omega, fun at_ H1 a0 a1 D1 dn1 => ?_⟩
    obtain ⟨j, rfl⟩ := Int.eq_ofNat_of_zero_le a0
    refine ⟨.ref d, rfl, .int high, rfl, by show 2 ≤ sizeLine; decide, fun p1 h1 => ⟨.int wide, rfl, by show 2 ≤ sizeLine; decide, fun p2 h2 => ⟨1, rfl, by show 2 ≤ sizeLine; decide, fun p3 h3 => ⟨1, rfl, by show 2 ≤ sizeLine; decide, fun p4 h4 => ⟨by show 2 ≤ sizeLine; decide, fun p5 h5 => ⟨by show 1 ≤ sizeLine; decide, fun p6 h6 => ⟨by show 3 ≤ sizeLine; decide, fun p7 h7 => ⟨by show 2 ≤ sizeLine; decide, fun p8 h8 => ⟨by show 11 ≤ sizeLine; decide, fun p9 h9 => ?_⟩⟩⟩⟩⟩⟩⟩⟩⟩
    have s1 := same_upd (o := .tup [V.int high, V.int 0]) h1
    have s2 := same_upd (o := .tup [V.int 0, V.int wide]) h2
    have s3 := same_upd (o := .tup [V.int (-1), V.int 0]) h3
    have s4 := same_upd (o := .tup [V.int 0, V.int (-1)]) h4
    have s5 := same_upd (o := .tup [V.bl true, V.int 0]) h5
    have s6 := same_upd (o := .tup [V.int 0]) h6
    have s7 := same_upd (o := .tup [V.int 0, V.int 0, V.int 0]) h7
    have s8 := same_upd (o := .lst [V.int 0, V.int 0]) h8
    have s9 := same_upd (o := .lst [V.ref p1, V.ref p2, V.ref p3, V.ref p4, V.ref p5, V.ref p6, V.ref p7, V.ref p8, V.non, V.int 0, V.str "00"]) h9
    have t8 := s8.trans s9
    have t7 := s7.trans t8
    have t6 := s6.trans t7
    have t5 := s5.trans t6
    have t4 := s4.trans t5
    have t3 := s3.trans t4
    have t2 := s2.trans t3
    have t1 := s1.trans t2
    have D9 := D1.same t1
    have f1 := t2 _ _ (upd_same (H := H1) (a := p1) (o := .tup [V.int high, V.int 0]))
    have f2 := t3 _ _ (upd_same (a := p2) (o := .tup [V.int 0, V.int wide]))
    have f3 := t4 _ _ (upd_same (a := p3) (o := .tup [V.int (-1), V.int 0]))
    have f4 := t5 _ _ (upd_same (a := p4) (o := .tup [V.int 0, V.int (-1)]))
    have f5 := t6 _ _ (upd_same (a := p5) (o := .tup [V.bl true, V.int 0]))
    have f6 := t7 _ _ (upd_same (a := p6) (o := .tup [V.int 0]))
    have f7 := t8 _ _ (upd_same (a := p7) (o := .tup [V.int 0, V.int 0, V.int 0]))
    have f8 := s9 _ _ (upd_same (a := p8) (o := .lst [V.int 0, V.int 0]))
    refine ⟨d, g, c, p9, _, rfl, D9, upd_same, ?_, by show 0 < 11; decide, by show 11 ≤ 1000; decide, fun n x H2 hx D2 dn2 => ?_⟩
    · exact ((D1.same (s1.trans (s2.trans (s3.trans (s4.trans (s5.trans (s6.trans (s7.trans s8)))))))).new h9).2
    have ip : IsP K H2 high wide x false := by
      refine IsP.dn ?_ dn2 D9 D2
      have hm := List.mem_of_getElem? hx
      simp only [List.mem_cons, List.not_mem_nil, or_false] at hm
      rcases hm with rfl | rfl | rfl | rfl | rfl | rfl | rfl | rfl | rfl | rfl | rfl
      · exact isP_pair f1 (kt_int _) (kt_int _) (by rw [betw_int, decide_eq_false (show ¬ ((high : Int) ≤ high - 1) by omega), Bool.and_false, Bool.false_and])
      · exact isP_pair f2 (kt_int _) (kt_int _) (by rw [betw_int, betw_int, decide_eq_false (show ¬ ((wide : Int) ≤ wide - 1) by omega), Bool.and_false, Bool.and_false])
      · exact isP_pair f3 (kt_int _) (kt_int _) (by rw [betw_int, decide_eq_false (show ¬ ((0 : Int) ≤ -1) by omega), Bool.false_and, Bool.false_and])
      · exact isP_pair f4 (kt_int _) (kt_int _) (by rw [betw_int, betw_int, decide_eq_false (show ¬ ((0 : Int) ≤ -1) by omega), Bool.false_and, Bool.and_false])
      · exact isP_pair f5 (kt_bl _) (kt_int _) (by rw [betw_no rfl, Bool.false_and])
      · exact isP_len f6 (by decide)
      · exact isP_len f7 (by decide)
      · exact .inl ⟨"list", .lst (SqL.of f8), rfl, by decide, rfl⟩
      · exact .inl ⟨"NoneType", .non, rfl, by decide, rfl⟩
      · exact .inl ⟨"int", .int 0, rfl, by decide, rfl⟩
      · exact .inl ⟨"str", .str _, rfl, by decide, rfl⟩
    have dnA := (dn1.trans (Dn.same t1)).trans dn2
    have hl2 := dnA _ _ hl nld nlg
    have pl2 := pl.dn dnA D
    refine ⟨.ref l, rfl, .int j, rfl, j, rfl, l, xs, rfl, SqL.of hl2, fun q1 g1 => ⟨x, rfl, by show 1 ≤ sizeLine; decide, fun q2 g2 => ?_⟩⟩
    rw [cutV_to] at g2 ⊢
    have u1 := same_upd (o := .lst (xs.take j)) g1
    have u2 := same_upd (o := .lst [x]) g2
    refine ⟨q1, q2, xs.take j, [x], rfl, rfl, u2 _ _ upd_same, upd_same, ?_, fun q3 g3 => ?_⟩
    · rw [List.length_take]
      show _ + 1 ≤ sizeLine
      exact Nat.le_of_lt (small1000 (by omega))
    have u3 := same_upd (o := .lst (xs.take j ++ [x])) g3
    refine ⟨.ref l, rfl, .int j, rfl, j, rfl, l, xs, rfl, SqL.of (u3 _ _ (u2 _ _ (u1 _ _ hl2))), fun q4 g4 => ?_⟩
    rw [cutV_from]
    have u4 := same_upd (o := .lst (xs.drop j)) g4
    refine ⟨q3, q4, xs.take j ++ [x], xs.drop j, rfl, rfl, u4 _ _ upd_same, upd_same, ?_, fun q5 g5 => ?_⟩
    · rw [List.length_append, List.length_take, List.length_drop]
      show _ + 1 + _ ≤ sizeLine
      exact Nat.le_of_lt (small1000 (by omega))
    have u5 := same_upd (o := .lst (xs.take j ++ [x] ++ xs.drop j)) g5
    refine fun q6 g6 => ⟨by show 2 ≤ sizeLine; decide, fun q7 g7 => ⟨by show 1 ≤ sizeLine; decide, fun q8 g8 => ⟨by show 7 ≤ sizeLine; decide, fun q9 g9 => ?_⟩⟩⟩
    have u6 := same_upd (o := .dK []) g6
    have u7 := same_upd (o := .tup [V.int 0, V.int 0]) g7
    have u8 := same_upd (o := .tup [V.int 0]) g8
    have u9 := same_upd (o := .lst [V.ref q5, V.non, V.int 5, V.str "0", V.ref q6, V.ref q7, V.ref q8]) g9
    refine ⟨.ref d, rfl, .ref q9, rfl, .ref q9, rfl, 1, rfl, q9, _, rfl, SqL.of upd_same, fun r1 e1 => ?_⟩
    have v1 := same_upd (o := .lst (cutV [V.ref q5, V.non, V.int 5, V.str "0", V.ref q6, V.ref q7, V.ref q8] none (some 1))) e1
    refine ⟨r1, 4, _, rfl, rfl, upd_same, by decide, by decide, by show 4 ≤ sizeLine; decide, fun r2 e2 => ?_⟩
    have v2 := same_upd (o := .lst (List.replicate (4 : Int).toNat (cutV [V.ref q5, V.non, V.int 5, V.str "0", V.ref q6, V.ref q7, V.ref q8] none (some 1))).flatten) e2
    refine ⟨q9, r2, _, _, rfl, rfl, v2 _ _ (v1 _ _ upd_same), upd_same, by show 11 ≤ sizeLine; decide, fun r3 e3 => ?_⟩
    have v3 := same_upd (o := .lst ([V.ref q5, V.non, V.int 5, V.str "0", V.ref q6, V.ref q7, V.ref q8] ++ (List.replicate (4 : Int).toNat (cutV [V.ref q5, V.non, V.int 5, V.str "0", V.ref q6, V.ref q7, V.ref q8] none (some 1))).flatten)) e3
    have w2 := v2.trans v3
    have w1 := v1.trans w2
    have w9 := u9.trans w1
    have w8 := u8.trans w9
    have w7 := u7.trans w8
    have w6 := u6.trans w7
    have w5 := u5.trans w6
    have wA := u1.trans (u2.trans (u3.trans (u4.trans w5)))
    have DA := D2.same wA
    have k5 := w6 _ _ (upd_same (a := q5) (o := .lst (xs.take j ++ [x] ++ xs.drop j)))
    have k6 := w7 _ _ (upd_same (a := q6) (o := .dK []))
    have k7 := w8 _ _ (upd_same (a := q7) (o := .tup [V.int 0, V.int 0]))
    have k8 := w9 _ _ (upd_same (a := q8) (o := .tup [V.int 0]))
    have nr3 := (D2.same (u1.trans (u2.trans (u3.trans (u4.trans (u5.trans (u6.trans (u7.trans (u8.trans (u9.trans (v1.trans v2))))))))))).new e3
    have n5 := (D2.same (u1.trans (u2.trans (u3.trans u4)))).new g5
    have n6 := (D2.same (u1.trans (u2.trans (u3.trans (u4.trans u5))))).new g6
    refine ⟨d, g, c, r3, _, rfl, DA, upd_same, nr3.2, by show 0 < 11; decide, by show 11 ≤ 1000; decide, fun n y H5 hy D5 dn5 => q y H5 ?_ D5 (dnA.trans ((Dn.same wA).trans dn5))⟩
    have hm := List.mem_of_getElem? hy
    have hm2 : y ∈ [V.ref q5, V.non, V.int 5, V.str "0", V.ref q6, V.ref q7, V.ref q8] := by
      rcases List.mem_append.mp hm with z | z
      · exact z
      · have e : (List.replicate (4 : Int).toNat (cutV [V.ref q5, V.non, V.int 5, V.str "0", V.ref q6, V.ref q7, V.ref q8] none (some 1))).flatten = [V.ref q5, V.ref q5, V.ref q5, V.ref q5] := rfl
        rw [e] at z
        simp only [List.mem_cons, List.not_mem_nil, or_false, or_self] at z
        rw [z]
        exact List.mem_cons_self
    simp only [List.mem_cons, List.not_mem_nil, or_false] at hm2
    rcases hm2 with rfl | rfl | rfl | rfl | rfl | rfl | rfl
    · exact odd_list ((pl2.same wA).dn dn5 DA) inr ((ip.same wA).dn dn5 DA D5) (dn5 _ _ k5 n5.1 n5.2) hlen
    · exact .inl ⟨"NoneType", .non, rfl, by decide, by decide⟩
    · exact .inl ⟨"int", .int 5, rfl, by decide, by decide⟩
    · exact .inl ⟨"str", .str _, rfl, by decide, by decide⟩
    · exact .inl ⟨"dict", .dK (dn5 _ _ k6 n6.1 n6.2), rfl, by decide, by decide⟩
    · have z7 := sqT_dn (K := K) dn5 DA (SqT.of k7)
      refine .inr ⟨q7, _, [false, false], rfl, .inr z7, by show 2 ≤ 1000; decide, rfl, fun i y b h1 h2 => ?_, rfl⟩
      have ey : y = .int 0 := by
        match i, h1 with
        | 0, h1 => exact (Option.some.inj h1).symm
        | 1, h1 => exact (Option.some.inj h1).symm
      have eb : b = false := by
        match i, h2 with
        | 0, h2 => exact (Option.some.inj h2).symm
        | 1, h2 => exact (Option.some.inj h2).symm
      rw [ey, eb]
      exact .inl ⟨"int", .int 0, rfl, by decide, rfl⟩
    · have z8 := sqT_dn (K := K) dn5 DA (SqT.of k8)
      refine .inr ⟨q8, _, [false], rfl, .inr z8, by show 1 ≤ 1000; decide, rfl, fun i y b h1 h2 => ?_, rfl⟩
      have ey : y = .int 0 := by
        match i, h1 with
        | 0, h1 => exact (Option.some.inj h1).symm
      have eb : b = false := by
        match i, h2 with
        | 0, h2 => exact (Option.some.inj h2).symm
      rw [ey, eb]
      exact .inl ⟨"int", .int 0, rfl, by decide, rfl⟩
end
end Dt
/-! a lambda handed straight to a def that calls what it gets, with room for calls of its own; list.count of data -/
namespace L2X
open PySem PySem.Spec PyProof.Rows L2 LamX
section
variable {X : Cx}
theorem pe_lamcallR {T : List (Addr × Str)} {TT : (XK → Hp → VK → Prop) → Hp → VK → Prop} {x a : Str} {g c P : Addr} {k : Nat} {pg : Arguments} {bg : List Stmt} {sg : Scope} {dV kV doc pm cdv ct oc : Value} {an od : Option Addr} {osl : Array (Option Value)} {Ng : List Str}
    {params : Arguments} {body : Expr} {scope : Scope} {t : XK → TE} {p lpos pos : Pos} (hg : Gl X x) (hm : X.mg x = some (.ref g)) (hk : PySem.W.keepIn X.K (.ref g) = true)
    (lk : X.K.lookup g = some ⟨oc, od, .func (PySem.W.fnOf x x pg bg sg dV kV doc pm an cdv ct), osl⟩) (hcg : PySem.W.codeIn X.K cdv x = true) (hb : L2.Binds X.K (PySem.W.fnOf x x pg bg sg dV kV doc pm an cdv ct) [a] []) (Sg : FnScope Ng [a] sg) (hNg : Ng[0]? = some a) (hva : Vis sg a)
    (hG : GivesR X (k + 1) Ng x sg g cdv bg a (lamQ X) TT)
    (TB : TabB X.base X.mg c P) (hcode : X.env.code = .ref c) (hmT : (P, lamQ X) ∈ T) (hu : ∀ p ∈ T, p.1 = P → p.2 = lamQ X) (hr : Room (k + 2) X.A) (L : LamS X.env.scope scope) (hdef : defaultsOf params X.env = ([], []))
    (hbind : ∀ (q : Str) (cl : List (Str × Addr)) (pm cv ctv : Value), bindArgs (PySem.W.kla_fn "<lambda>" q params body scope cl pm cv ctv) ⟨[], []⟩ = pure [])
    (hbody : ∀ (A : Around) (outer : List Env) (s : Shared) (H : Hp) (E : XK) (f c' : Addr), Room k (A.deeper (lamEnv X scope s.heap.objs.size f c')) → PE (lamCx X A outer s H E scope f c') body (t E))
    (hdb : (x == ("__debug__" : Str)) = false := by decide) (hd : (a == ("__debug__" : Str)) = false := by decide) (hcd : (a == ("__classdict__" : Str)) = false := by decide) :
    PE X (.Call (.Name x p) [.Lambda params body scope lpos] [] pos) (tLam T TT t) := by
  constructor
  rintro pins s σ H Q I ⟨hT, h⟩
  refine wpAny_Call_Name_kw (ld_glob I hg hm ?_ hdb)
  refine PySem.W.callWith_K (h₀ := X.base) I.ok.mod.kin hk ?_ (by rfl) (by rfl)
  show wpAny _ _ (spliced ((false, eval (.Lambda params body scope lpos) X.env) :: backTo pos (starEach [] X.env))) _ _ s
  refine Calls.spliced_cons (lam_make2 I TB hcode hmT hu hT hdef (L.has I.ok) fun f c' pm' ctv H1 s' I1 eN T1 hf hfn hfr hco => ?_)
  refine Calls.spliced_nil ⟨I1.kIn, ?_⟩
  have rc : codeAny (model X.prog X.w) X.A (.call (.ref g) ⟨[.ref f], []⟩) (CR L2.CX0 X.stack X.prog X.w H1 s' Q L2.E0) s' := by
    refine run_ofS (N := Ng) (ps := [a]) (us := [.ref f]) (vs := [.ref f]) lk hcg Sg hr I1.env0 (hb s' [.ref f] I1.kIn rfl) (.cons rfl .nil) rfl ?_
    intro hr'
    obtain ⟨t', ht', hq'⟩ := hG f c' s' H1 Q (fun E H' Q' => t E σ H' Q') hr'
      (fun W pn xe E p1 p2 tk hW => pe_act (i := 0) I1 L hf hfn hfr (hbind _ _ _ _ _) tk hW hr' (fun A outer s H hr2 => hbody A outer s H E f c' hr2) hNg hva hd hcd) hco (h H1 eN T1)
    exact ⟨t', ht'.nox, hq'⟩
  refine wpAny_call (codeAny_mono rc ?_)
  rintro r s2 hq
  cases r with
  | error e => exact (show False from hq).elim
  | ok fl =>
    cases fl with
    | ret u => exact I1.after hq
    | next => exact False.elim hq
    | brk => exact False.elim hq
    | cont => exact False.elim hq
/-- l.count(x) of data -/
def rCountD (K : PySem.W.Frag) : V → List V → Hp → VK → Prop := fun x xs H Q => ∃ (a : Addr) (y : V) (d : PyData) (ds : List PyData), x = V.ref a ∧ xs = [y] ∧ Dp K H (V.ref a) (.list ds) ∧ Dp K H y d ∧
  SeqAt.shaped (.list ds) = true ∧ SeqAt.shaped d = true ∧ Q (.int (ds.countP fun z => PyData.eqv z d : Nat)) H
theorem mt_countD (hu : X.A.units + 65 < cLine) : MtR X "list.count" (rCountD X.K) := by
  intro pins s σ H x xs v us Q I rx rxs h
  obtain ⟨a, y, d, ds, rfl, rfl, hl, hy, sl, sd, q⟩ := h
  cases rx
  obtain ⟨uy, rfl, ry⟩ := rxs.one
  obtain ⟨bs, r1⟩ := Dp.reads I d y uy hy ry
  have hxs : PyData.canLayAll0 ds = true := SeqAt.canLay_of_shaped sl
  have hroom : X.A.units + 1 + min (PyData.depthAll ds) d.depth < cLine := room_in_shaped sd hu
  cases hl with
  | lst hs ha =>
    obtain ⟨its, rv, ⟨⟨cls, dd, data, sls⟩, n, ho, hc, hdn, hdt⟩, hlen⟩ := I.list hs
    simp only at hc hdt
    subst hc hdt
    obtain ⟨as, h4⟩ := Dp.readsAll I ds _ its ha rv
    have hmap : its.map (SeqAt.readOf s.heap) = ds := SeqAt.readsAll_map ds its as hxs h4
    refine call_meets PySem.F.slot_list_count ⟨_, ho, rfl⟩ PySem.F.entry_list_count (PySem.F.args_list_count_2 _ _)
      (SeqAt.list_countAt a its.toArray n dd sls uy (fun u => PyData.eqv (SeqAt.readOf s.heap u) d)) ⟨ho, SeqAt.items_eqAt (vs := its.toArray) (show ReadsAll s.heap its.toArray.toList ds as from h4) r1 hxs (SeqAt.canLay_of_shaped sd) hroom, ?_⟩
    have ec : its.toArray.toList.countP (fun u => PyData.eqv (SeqAt.readOf s.heap u) d) = ds.countP fun z => PyData.eqv z d := by
      rw [← hmap, List.countP_map]
      rfl
    refine ⟨.int (ds.countP fun z => PyData.eqv z d : Nat), H, I.tok _, ⟨s.toks, ?_⟩, q⟩
    show Value.int ((its.toArray.toList.countP (fun u => PyData.eqv (SeqAt.readOf s.heap u) d) : Nat) : Int) s.toks = Value.int ((ds.countP fun z => PyData.eqv z d : Nat) : Int) s.toks
    rw [ec]
end
end L2X
namespace Dt
open PySem PySem.Spec PyProof.Rows L2 L2X
/-! ### at how many places a picture and its turned-over one differ -/
def at2 (rs : List (List Nat)) (r c : Nat) : Nat := (rs.getD r []).getD c 0
theorem at2_eq {rs : List (List Nat)} {r c x : Nat} {l : List Nat} (h : rs[r]? = some l) (hx : l[c]? = some x) : at2 rs r c = x := by
  unfold at2
  rw [set_getD h, getD_at hx]
theorem RowsR.cell {high wide : Nat} {rs : List (List Nat)} (R : RowsR high wide rs) {r c : Nat} (hr : r < high) (hc : c < wide) : ∃ l x, rs[r]? = some l ∧ l[c]? = some x ∧ at2 rs r c = x ∧ (x = 35 ∨ x = 46) := by
  have hr' : r < rs.length := by rw [R.len]; exact hr
  have e1 : rs[r]? = some rs[r] := List.getElem?_eq_getElem hr'
  have rl := R.row _ (List.getElem_mem hr')
  have hc' : c < rs[r].length := by rw [rl.len]; exact hc
  have e2 : rs[r][c]? = some rs[r][c] := List.getElem?_eq_getElem hc'
  exact ⟨_, _, e1, e2, at2_eq e1 e2, rl.sg _ (List.getElem_mem hc')⟩
theorem flip_cell {high wide : Nat} {rs : List (List Nat)} (R : RowsR high wide rs) {p : Nat × Nat} (hp : p.1 < high ∧ p.2 < wide) {r c : Nat} (hr : r < high) (hc : c < wide) : at2 (flipAt rs p.1 p.2) r c = if p = (r, c) then flipC (at2 rs r c) else at2 rs r c := by
  obtain ⟨l, x, e1, e2, ea, _⟩ := R.cell hr hc
  obtain ⟨m, y, f1, f2, fa, _⟩ := R.cell hp.1 hp.2
  rw [flipAt_eq f1 f2]
  have hlt : p.1 < rs.length := (List.getElem?_eq_some_iff.mp f1).1
  have hlt2 : p.2 < m.length := (List.getElem?_eq_some_iff.mp f2).1
  by_cases h1 : p.1 = r
  · subst h1
    rw [f1] at e1
    cases e1
    have g1 : (rs.set p.1 (l.set p.2 (flipC y)))[p.1]? = some (l.set p.2 (flipC y)) := List.getElem?_set_self hlt
    by_cases h2 : p.2 = c
    · subst h2
      rw [f2] at e2
      cases e2
      rw [if_pos rfl, ea]
      exact at2_eq g1 (List.getElem?_set_self hlt2)
    · rw [if_neg (fun z => h2 (congrArg Prod.snd z)), ea]
      exact at2_eq g1 (by rw [List.getElem?_set_ne h2]; exact e2)
  · rw [if_neg (fun z => h1 (congrArg Prod.fst z)), ea]
    exact at2_eq (by rw [List.getElem?_set_ne h1]; exact e1) e2
theorem flip_flip {x : Nat} (h : x = 35 ∨ x = 46) : flipC (flipC x) = x := by
  rcases h with h | h <;> (subst h; rfl)
theorem flip_ne {x : Nat} (h : x = 35 ∨ x = 46) : x ≠ flipC x := by
  rcases h with h | h <;> (subst h; decide)
theorem flips_cell {high wide : Nat} {r c : Nat} (hr : r < high) (hc : c < wide) : ∀ (ps : List (Nat × Nat)) (rs : List (List Nat)), RowsR high wide rs → (∀ p ∈ ps, p.1 < high ∧ p.2 < wide) →
    at2 (flipAll rs ps) r c = if ps.count (r, c) % 2 = 1 then flipC (at2 rs r c) else at2 rs r c
  | [], rs, R, _ => by
    rw [List.count_nil, if_neg (by decide)]
    rfl
  | p :: ps, rs, R, hp => by
    have h1 := hp p List.mem_cons_self
    have ih := flips_cell hr hc ps (flipAt rs p.1 p.2) (R.flip h1.1 h1.2) fun q hq => hp q (List.mem_cons_of_mem _ hq)
    have e : flipAll rs (p :: ps) = flipAll (flipAt rs p.1 p.2) ps := rfl
    obtain ⟨l, x, _, _, ea, sg⟩ := R.cell hr hc
    rw [e, ih, flip_cell R h1 hr hc, List.count_cons]
    by_cases q : p = (r, c)
    · rw [if_pos q, if_pos (beq_iff_eq.mpr q), ea]
      by_cases z : ps.count (r, c) % 2 = 1
      · rw [if_pos z, if_neg (by omega), flip_flip sg]
      · rw [if_neg z, if_pos (by omega)]
    · rw [if_neg q, if_neg (fun z => q (beq_iff_eq.mp z)), Nat.add_zero]
theorem misZ_range {n : Nat} {l m : List Nat} (h1 : l.length = n) (h2 : m.length = n) : misZ l m = ((List.range n).filter fun c => decide (l.getD c 0 ≠ m.getD c 0)).length := by
  have e : l.zip m = (List.range n).map fun c => (l.getD c 0, m.getD c 0) := by
    apply List.ext_getElem
    · rw [List.length_zip, List.length_map, List.length_range]
      omega
    · intro i hi1 hi2
      rw [List.getElem_zip, List.getElem_map, List.getElem_range]
      rw [List.length_zip] at hi1
      rw [getD_at (List.getElem?_eq_getElem (by omega)), getD_at (List.getElem?_eq_getElem (by omega))]
  unfold misZ
  rw [e, List.filter_map, List.length_map]
  rfl
theorem sum_cast : ∀ (l : List Nat), (l.map fun n : Nat => (n : Int)).sum = (l.sum : Int)
  | [] => rfl
  | n :: r => by
    rw [List.map_cons, List.sum_cons, List.sum_cons, sum_cast r]
    omega
theorem misP_cells {high wide : Nat} {rs fs : List (List Nat)} (R : RowsR high wide rs) (F : RowsR high wide fs) : misP rs fs = ((((List.range high).flatMap fun r => (List.range wide).map fun c => (r, c)).filter fun p => decide (at2 rs p.1 p.2 ≠ at2 fs p.1 p.2)).length : Int) := by
  have e : rs.zip fs = (List.range high).map fun r => (rs.getD r [], fs.getD r []) := by
    apply List.ext_getElem
    · rw [List.length_zip, List.length_map, List.length_range, R.len, F.len]
      omega
    · intro i hi1 hi2
      rw [List.getElem_zip, List.getElem_map, List.getElem_range]
      rw [List.length_zip] at hi1
      rw [set_getD (List.getElem?_eq_getElem (show i < rs.length by omega)), set_getD (List.getElem?_eq_getElem (show i < fs.length by omega))]
  unfold misP
  rw [e, List.map_map]
  have e2 : ((List.range high).map ((fun p : List Nat × List Nat => (misZ p.1 p.2 : Int)) ∘ fun r => (rs.getD r [], fs.getD r []))) = (((List.range high).map fun r => ((List.range wide).filter fun c => decide (at2 rs r c ≠ at2 fs r c)).length).map fun n : Nat => (n : Int)) := by
    rw [List.map_map]
    apply List.map_congr_left
    intro r hr
    have hr' := List.mem_range.mp hr
    have l1 : (rs.getD r []).length = wide := by
      have h : r < rs.length := by rw [R.len]; exact hr'
      rw [set_getD (List.getElem?_eq_getElem h)]
      exact (R.row _ (List.getElem_mem h)).len
    have l2 : (fs.getD r []).length = wide := by
      have h : r < fs.length := by rw [F.len]; exact hr'
      rw [set_getD (List.getElem?_eq_getElem h)]
      exact (F.row _ (List.getElem_mem h)).len
    show (misZ (rs.getD r []) (fs.getD r []) : Int) = _
    rw [misZ_range l1 l2]
    rfl
  rw [e2, sum_cast, List.filter_flatMap, List.length_flatMap]
  congr 2
  apply List.map_congr_left
  intro r _
  show _ = (List.filter _ (List.map _ _)).length
  rw [List.filter_map, List.length_map]
  rfl
theorem nodup_le {α : Type} [DecidableEq α] : ∀ (l m : List α), l.Nodup → (∀ x ∈ l, x ∈ m) → l.length ≤ m.length
  | [], _, _, _ => Nat.zero_le _
  | x :: l, m, hn, hs => by
    have hx := hs x List.mem_cons_self
    have hn' := List.nodup_cons.mp hn
    have ih := nodup_le l (m.erase x) hn'.2 fun y hy => by
      have ne : y ≠ x := fun e => hn'.1 (e ▸ hy)
      exact (List.mem_erase_of_ne ne).mpr (hs y (List.mem_cons_of_mem _ hy))
    have hl := List.length_erase_of_mem hx
    have pos : 0 < m.length := List.length_pos_of_mem hx
    rw [List.length_cons]
    omega
theorem cells_nodup (high wide : Nat) : ((List.range high).flatMap fun r => (List.range wide).map fun c => (r, c)).Nodup := by
  unfold List.Nodup
  rw [List.pairwise_flatMap]
  refine ⟨fun r _ => ?_, ?_⟩
  · rw [List.pairwise_map]
    exact List.Pairwise.imp (fun h z => h (congrArg Prod.snd z)) (List.nodup_range (n := wide))
  · refine List.Pairwise.imp (fun {a b} h x hx y hy z => ?_) (List.nodup_range (n := high))
    obtain ⟨c, _, rfl⟩ := List.mem_map.mp hx
    obtain ⟨c', _, rfl⟩ := List.mem_map.mp hy
    exact h (congrArg Prod.fst z)
theorem cells_mem {high wide : Nat} {p : Nat × Nat} : p ∈ ((List.range high).flatMap fun r => (List.range wide).map fun c => (r, c)) ↔ p.1 < high ∧ p.2 < wide := by
  rw [List.mem_flatMap]
  constructor
  · rintro ⟨r, hr, hx⟩
    obtain ⟨c, hc, rfl⟩ := List.mem_map.mp hx
    exact ⟨List.mem_range.mp hr, List.mem_range.mp hc⟩
  · rintro ⟨h1, h2⟩
    exact ⟨p.1, List.mem_range.mpr h1, List.mem_map.mpr ⟨p.2, List.mem_range.mpr h2, rfl⟩⟩
theorem mis_odd {high wide : Nat} {rs : List (List Nat)} {ps L : List (Nat × Nat)} (R : RowsR high wide rs) (inr : ∀ p ∈ ps, p.1 < high ∧ p.2 < wide) (nd : L.Nodup) (sub : ∀ p ∈ L, p ∈ ps) (all : ∀ p ∈ ps, p ∈ L) :
    misP rs (flipAll rs ps) = ((L.filter fun p => decide (ps.count p % 2 = 1)).length : Int) ∧ misP (flipAll rs ps) rs = ((L.filter fun p => decide (ps.count p % 2 = 1)).length : Int) := by
  have F := R.flips inr
  have key : ∀ p : Nat × Nat, p ∈ ((List.range high).flatMap fun r => (List.range wide).map fun c => (r, c)) → (at2 rs p.1 p.2 ≠ at2 (flipAll rs ps) p.1 p.2 ↔ ps.count p % 2 = 1) := by
    intro p hp
    obtain ⟨h1, h2⟩ := cells_mem.mp hp
    obtain ⟨l, x, _, _, ea, sg⟩ := R.cell h1 h2
    rw [flips_cell h1 h2 ps rs R inr, ea]
    by_cases z : ps.count (p.1, p.2) % 2 = 1
    · rw [if_pos z]
      exact ⟨fun _ => z, fun _ => flip_ne sg⟩
    · rw [if_neg z]
      exact ⟨fun q => absurd rfl q, fun q => absurd q z⟩
  have len : (((List.range high).flatMap fun r => (List.range wide).map fun c => (r, c)).filter fun p => decide (ps.count p % 2 = 1)).length = (L.filter fun p => decide (ps.count p % 2 = 1)).length := by
    apply Nat.le_antisymm
    · refine nodup_le _ _ ((cells_nodup high wide).filter _) fun p hp => ?_
      obtain ⟨h1, h2⟩ := List.mem_filter.mp hp
      refine List.mem_filter.mpr ⟨all p ?_, h2⟩
      have z := of_decide_eq_true h2
      exact List.count_pos_iff.mp (by omega)
    · refine nodup_le _ _ (nd.filter _) fun p hp => ?_
      obtain ⟨h1, h2⟩ := List.mem_filter.mp hp
      exact List.mem_filter.mpr ⟨cells_mem.mpr (inr p (sub p h1)), h2⟩
  constructor
  · rw [misP_cells R F, ← len]
    congr 2
    apply List.filter_congr
    intro p hp
    exact decide_eq_decide.mpr (key p hp)
  · rw [misP_cells F R, ← len]
    congr 2
    apply List.filter_congr
    intro p hp
    exact decide_eq_decide.mpr (Iff.trans ne_comm (key p hp))
theorem mis_self {high wide : Nat} {rs : List (List Nat)} (R : RowsR high wide rs) : misP rs rs = 0 := by
  rw [misP_cells R R]
  have e : (((List.range high).flatMap fun r => (List.range wide).map fun c => (r, c)).filter fun p => decide (at2 rs p.1 p.2 ≠ at2 rs p.1 p.2)) = [] := by
    apply List.filter_eq_nil_iff.mpr
    intro p _ h
    exact of_decide_eq_true h rfl
  rw [e]
  rfl
end Dt
namespace Dt
open PySem PySem.Spec PyProof.Rows L2 L2X
open SX (S)
/-! ### pictures and places as data -/
def rD (l : List Nat) : PyData := .str (S l)
def pD (p : Nat × Nat) : PyData := .tuple [.int p.1, .int p.2]
theorem strOk_row {l : List Nat} (h : ∀ c ∈ l, c = 35 ∨ c = 46) : PyData.strOk (S l) = true := by
  unfold PyData.strOk S
  simp
  intro c hc
  rcases h c hc with z | z <;> (subst z; decide)
theorem lay_rows : ∀ ls : List (List Nat), (∀ l ∈ ls, ∀ c ∈ l, c = 35 ∨ c = 46) → PyData.canLayAll0 (ls.map rD) = true ∧ PyData.depthAll (ls.map rD) ≤ 1
  | [], _ => ⟨by simp [PyData.canLayAll0], by simp [PyData.depthAll]⟩
  | l :: r, h => by
    obtain ⟨h1, h2⟩ := lay_rows r fun m hm => h m (List.mem_cons_of_mem _ hm)
    refine ⟨?_, ?_⟩
    · rw [List.map_cons]
      simp [PyData.canLayAll0, PyData.canLay0, rD, h1, strOk_row (h l List.mem_cons_self)]
    · rw [List.map_cons]
      simp only [PyData.depthAll, PyData.depth, rD]
      omega
theorem lay_places : ∀ ps : List (Nat × Nat), PyData.canLayAll0 (ps.map pD) = true ∧ PyData.depthAll (ps.map pD) ≤ 3
  | [] => ⟨by simp [PyData.canLayAll0], by simp [PyData.depthAll]⟩
  | p :: r => by
    obtain ⟨h1, h2⟩ := lay_places r
    refine ⟨?_, ?_⟩
    · rw [List.map_cons]
      simp [PyData.canLayAll0, PyData.canLay0, pD, h1]
    · rw [List.map_cons]
      simp only [PyData.depthAll, PyData.depth, pD]
      omega
theorem shaped_rows {high wide : Nat} {ls : List (List Nat)} (R : RowsR high wide ls) : SeqAt.shaped (.tuple (ls.map rD)) = true := by
  obtain ⟨h1, h2⟩ := lay_rows ls fun l hl => (R.row l hl).sg
  unfold SeqAt.shaped
  rw [Bool.and_eq_true, decide_eq_true_iff]
  refine ⟨by simp [PyData.canLay0, h1], ?_⟩
  simp only [PyData.depth]
  omega
theorem shaped_places (ps : List (Nat × Nat)) : SeqAt.shaped (.list (ps.map pD)) = true := by
  obtain ⟨h1, h2⟩ := lay_places ps
  unfold SeqAt.shaped
  rw [Bool.and_eq_true, decide_eq_true_iff]
  refine ⟨by simp [PyData.canLay0, h1], ?_⟩
  simp only [PyData.depth]
  omega
theorem shaped_place (p : Nat × Nat) : SeqAt.shaped (pD p) = true := rfl
theorem eqv_rows : ∀ ls : List (List Nat), PyData.eqvAll (ls.map rD) (ls.map rD) = true
  | [] => by simp [PyData.eqvAll]
  | l :: r => by
    rw [List.map_cons, PyData.eqvAll, eqv_rows r]
    simp [PyData.eqv, rD]
theorem eqv_pD (p q : Nat × Nat) : PyData.eqv (pD p) (pD q) = decide (p = q) := by
  apply Bool.eq_iff_iff.mpr
  rw [decide_eq_true_iff]
  simp [PyData.eqv, PyData.eqvAll, pD, Prod.ext_iff]
  omega
theorem eqv_places : ∀ ps : List (Nat × Nat), PyData.eqvAll (ps.map pD) (ps.map pD) = true
  | [] => by simp [PyData.eqvAll]
  | p :: r => by
    rw [List.map_cons, PyData.eqvAll, eqv_places r, eqv_pD, decide_eq_true rfl]
    rfl
theorem count_places (ps : List (Nat × Nat)) (p : Nat × Nat) : (ps.map pD).countP (fun z => PyData.eqv z (pD p)) = ps.count p := by
  rw [List.countP_map, List.count_eq_countP]
  apply List.countP_congr
  intro q _
  show PyData.eqv (pD q) (pD p) = true ↔ (q == p) = true
  rw [eqv_pD, decide_eq_true_iff, beq_iff_eq]
section
variable {K : PySem.W.Frag} {H : Hp}
theorem dp_rows : ∀ ls : List (List Nat), DpAll K H (ls.map rv) (ls.map rD)
  | [] => .nil
  | l :: r => .cons (.str _) (dp_rows r)
theorem dp_place {t : Addr} {p : Nat × Nat} (h : SqT K H t [.int p.1, .int p.2]) : Dp K H (.ref t) (pD p) := .tup h (.cons (.int _) (.cons (.int _) .nil))
theorem dp_places : ∀ {xs : List V} {ps : List (Nat × Nat)}, Plc K H xs ps → DpAll K H xs (ps.map pD)
  | [], [], _ => .nil
  | [], _ :: _, h => nomatch h.len
  | _ :: _, [], h => nomatch h.len
  | x :: xs, p :: ps, h => by
    obtain ⟨t, e, ht⟩ := h.at_ 0 x p rfl rfl
    subst e
    exact .cons (dp_place ht) (dp_places ⟨Nat.succ.inj h.len, fun i y q a b => h.at_ (i + 1) y q a b⟩)
/-- the places with where they stand -/
theorem plc_keys : ∀ {xs : List V} {ps : List (Nat × Nat)}, Plc K H xs ps → ∃ ks : List (Addr × List Int), xs = ks.map (fun q => V.ref q.1) ∧ ks.map (·.2) = ps.map (fun p => [(p.1 : Int), (p.2 : Int)]) ∧ ∀ q ∈ ks, SqT K H q.1 (q.2.map V.int)
  | [], [], _ => ⟨[], rfl, rfl, (fun _ h => nomatch h)⟩
  | [], _ :: _, h => nomatch h.len
  | _ :: _, [], h => nomatch h.len
  | x :: xs, p :: ps, h => by
    obtain ⟨t, e, ht⟩ := h.at_ 0 x p rfl rfl
    subst e
    obtain ⟨ks, e1, e2, e3⟩ := plc_keys (xs := xs) (ps := ps) ⟨Nat.succ.inj h.len, fun i y q a b => h.at_ (i + 1) y q a b⟩
    refine ⟨(t, [(p.1 : Int), (p.2 : Int)]) :: ks, by rw [e1]; rfl, by rw [List.map_cons, List.map_cons, e2], fun q hq => ?_⟩
    rcases List.mem_cons.mp hq with z | z
    · rw [z]
      exact ht
    · exact e3 q z
theorem Plc.app {xs ys : List V} {ps qs : List (Nat × Nat)} (a : Plc K H xs ps) (b : Plc K H ys qs) : Plc K H (xs ++ ys) (ps ++ qs) := by
  refine ⟨by rw [List.length_append, List.length_append, a.len, b.len], fun i x p hx hp => ?_⟩
  by_cases hi : i < xs.length
  · rw [List.getElem?_append_left hi] at hx
    rw [List.getElem?_append_left (by rw [← a.len]; exact hi)] at hp
    exact a.at_ i x p hx hp
  · rw [List.getElem?_append_right (by omega)] at hx
    rw [List.getElem?_append_right (by rw [← a.len]; omega), ← a.len] at hp
    exact b.at_ _ x p hx hp
/-- a list is changed: the places stay -/
theorem plc_upd {xs ys zs : List V} {ps : List (Nat × Nat)} {l : Addr} (h : Plc K H xs ps) (hl : H l = some (.lst ys)) : Plc K (upd H l (.lst zs)) xs ps := by
  refine ⟨h.len, fun i x p a b => ?_⟩
  obtain ⟨t, e, ht⟩ := h.at_ i x p a b
  refine ⟨t, e, ?_⟩
  rcases ht with (ht | ⟨o, ht⟩) | ht
  · exact SqT.of (by rw [upd_ne (ne_of ht hl (by intro z; cases z))]; exact ht)
  · exact .inl (.inr ⟨o, by rw [upd_ne (ne_of ht hl (by intro z; cases z))]; exact ht⟩)
  · exact .inr ht
theorem Tabs.updl {T : List (Addr × Str)} {H : Hp} {l : Addr} {xs ys : List V} (h : LamX.Tabs T H) (hl : H l = some (.lst xs)) : LamX.Tabs T (upd H l (.lst ys)) := by
  intro p hp
  obtain ⟨ps, e1, e2, e3⟩ := h p hp
  refine ⟨ps, by rw [upd_ne (ne_of e1 hl (by intro z; cases z))]; exact e1, e2, fun pos cv hc => ?_⟩
  obtain ⟨c0, e4, e5⟩ := e3 pos cv hc
  exact ⟨c0, e4, by rw [upd_ne (ne_of e5 hl (by intro z; unfold LamX.CodeO at z; cases z))]; exact e5⟩
theorem Plc.take {xs : List V} {ps : List (Nat × Nat)} (a : Plc K H xs ps) (n : Nat) : Plc K H (xs.take n) (ps.take n) := by
  refine ⟨by rw [List.length_take, List.length_take, a.len], fun i x p hx hp => ?_⟩
  rw [List.getElem?_take] at hx hp
  split at hx
  · rename_i h
    rw [if_pos h] at hp
    exact a.at_ i x p hx hp
  · cases hx
end
/-- of a key, the place -/
def keyP (l : List Int) : Nat × Nat := ((l.getD 0 0).toNat, (l.getD 1 0).toNat)
theorem keyP_of (p : Nat × Nat) : keyP [(p.1 : Int), (p.2 : Int)] = p := by
  unfold keyP
  simp
/-- what the sorted set of the places tells of them -/
theorem keys_odd {ps : List (Nat × Nat)} {L' L ks : List (Addr × List Int)} (ek : ks.map (·.2) = ps.map (fun p => [(p.1 : Int), (p.2 : Int)])) (sub : ∀ p ∈ L, p ∈ ks) (all : ∀ p ∈ ks, p.2 ∈ L.map (·.2)) (pm : L'.Perm L) (nd : (L'.map (·.2)).Nodup) :
    (L'.map fun q => keyP q.2).Nodup ∧ (∀ p ∈ L'.map (fun q => keyP q.2), p ∈ ps) ∧ (∀ p ∈ ps, p ∈ L'.map (fun q => keyP q.2)) ∧ ∀ q ∈ L', ∃ p : Nat × Nat, p ∈ ps ∧ q.2 = [(p.1 : Int), (p.2 : Int)] := by
  have isP : ∀ q ∈ L', ∃ p : Nat × Nat, p ∈ ps ∧ q.2 = [(p.1 : Int), (p.2 : Int)] := by
    intro q hq
    have h1 := sub q (pm.mem_iff.mp hq)
    have h2 : q.2 ∈ ks.map (·.2) := List.mem_map.mpr ⟨q, h1, rfl⟩
    rw [ek] at h2
    obtain ⟨p, hp, e⟩ := List.mem_map.mp h2
    exact ⟨p, hp, e.symm⟩
  refine ⟨?_, ?_, ?_, isP⟩
  · have e : L'.map (fun q => keyP q.2) = (L'.map (·.2)).map keyP := by rw [List.map_map]; rfl
    rw [e]
    unfold List.Nodup at nd ⊢
    rw [List.pairwise_map] at nd ⊢
    rw [List.pairwise_map]
    refine List.Pairwise.imp_of_mem (fun {a b} ha hb h z => ?_) nd
    obtain ⟨p, _, e1⟩ := isP a ha
    obtain ⟨q, _, e2⟩ := isP b hb
    apply h
    rw [e1, e2, keyP_of, keyP_of] at z
    rw [e1, e2, z]
  · intro p hp
    obtain ⟨q, hq, rfl⟩ := List.mem_map.mp hp
    obtain ⟨p, h1, e⟩ := isP q hq
    rw [e, keyP_of]
    exact h1
  · intro p hp
    have h1 : [(p.1 : Int), (p.2 : Int)] ∈ ks.map (·.2) := by
      rw [ek]
      exact List.mem_map.mpr ⟨p, hp, rfl⟩
    obtain ⟨q, hq, e⟩ := List.mem_map.mp h1
    have h2 := all q hq
    obtain ⟨r, hr, e2⟩ := List.mem_map.mp h2
    refine List.mem_map.mpr ⟨r, pm.mem_iff.mpr hr, ?_⟩
    show keyP r.2 = p
    have e2' : r.2 = q.2 := e2
    have e' : q.2 = [(p.1 : Int), (p.2 : Int)] := e
    rw [e2', e', keyP_of]
end Dt
namespace Dt
open PySem PySem.Spec PyProof.Rows L2 L2X LamX
open SX (S)
theorem sqL_ext {K : PySem.W.Frag} {H H' : Hp} {a : Addr} {xs : List V} (h : SqL K H a xs) (s : ExtN H H') : SqL K H' a xs := by
  rcases h with (h | ⟨o, h⟩) | h
  · exact SqL.of (s _ _ h (fun _ z => nomatch z))
  · exact .inl (.inr ⟨o, s _ _ h (fun _ z => nomatch z)⟩)
  · exact .inr h
theorem Kt.ext {K : PySem.W.Frag} {H H' : Hp} {x : V} (h : Kt K H x) (s : ExtN H H') : Kt K H' x := let ⟨T, t, ok⟩ := h; ⟨T, (Kd.ext s).ty t, ok⟩
theorem IsP.ext {K : PySem.W.Frag} {H H' : Hp} {high wide : Nat} {x : V} {b : Bool} (h : IsP K H high wide x b) (s : ExtN H H') : IsP K H' high wide x b := by
  rcases h with ⟨T, t, ok, ne, e⟩ | ⟨a, xs, e, h1, h2⟩
  · exact .inl ⟨T, (Kd.ext s).ty t, ok, ne, e⟩
  · refine .inr ⟨a, xs, e, (Kd.ext s).sqT h1, ?_⟩
    rcases h2 with h2 | ⟨u, v, e1, k1, k2, e2⟩
    · exact .inl h2
    · exact .inr ⟨u, v, e1, k1.ext s, k2.ext s, e2⟩
theorem OddPlc.ext {K : PySem.W.Frag} {H H' : Hp} {high wide : Nat} {x : V} (h : OddPlc K H high wide x) (s : ExtN H H') : OddPlc K H' high wide x := by
  rcases h with ⟨T, t, r⟩ | ⟨q, xs, bs, e, hq, hl, hb, hi, ha⟩
  · exact .inl ⟨T, (Kd.ext s).ty t, r⟩
  · refine .inr ⟨q, xs, bs, e, ?_, hl, hb, fun i y b h1 h2 => (hi i y b h1 h2).ext s, ha⟩
    rcases hq with hq | hq
    · exact .inl (sqL_ext hq s)
    · exact .inr ((Kd.ext s).sqT hq)
theorem Plc.ext {K : PySem.W.Frag} {H H' : Hp} {xs : List V} {ps : List (Nat × Nat)} (h : Plc K H xs ps) (s : ExtN H H') : Plc K H' xs ps := ⟨h.len, fun i x p a b => let ⟨t, e, z⟩ := h.at_ i x p a b; ⟨t, e, (Kd.ext s).sqT z⟩⟩
theorem ext_tup {H H' : Hp} {a : Addr} {xs : List V} (s : ExtN H H') (h : H a = some (.tup xs)) : H' a = some (.tup xs) := s _ _ h (fun _ z => nomatch z)
theorem sum_bits (zs : List (Nat × Nat)) : (zs.map fun p => if decide (p.1 ≠ p.2) = true then (1 : Int) else 0).sum = ((zs.filter fun p => decide (p.1 ≠ p.2)).length : Int) := by
  induction zs with
  | nil => rfl
  | cons p r ih =>
    rw [List.map_cons, List.sum_cons, ih, List.filter_cons]
    cases decide (p.1 ≠ p.2) with
    | true =>
      rw [if_pos rfl, if_pos rfl, List.length_cons]
      omega
    | false =>
      rw [if_neg Bool.false_ne_true, if_neg Bool.false_ne_true]
      omega
end Dt
namespace Dt
open PySem PySem.Spec PyProof.Rows L2 L2X LamX
open SX (S)
theorem passX0 {X : Cx} : Passes (L2.CX X.prog X.w) X E0 := fun _ _ _ _ _ _ _ h => by
  obtain ⟨_, _, _, _, _, _, _, _, _, _, _, _, z⟩ := h
  exact z.elim
abbrev sLaw : Stmt := topS 44
abbrev nLaw : List Str := ["script", "draw", "turn", "picture", "high", "wide", "told", "other", "kept", "odd_ones", "strange", "due", "odd", "k", "place", "row", "past", "x", "y"]
theorem scLaw : FnScope nLaw ["script"] (defScope sLaw) := ⟨rfl, rfl, rfl, by decide +kernel, rfl, by decide +kernel, by decide +kernel⟩
def forBody : List Stmt := match (defBody sLaw).getD 1 (.Pass ⟨0, 0, 0, 0⟩) with
  | .For _ _ b _ _ => b
  | _ => []
def dueSc : Scope := match forBody.getD 10 (.Pass ⟨0, 0, 0, 0⟩) with
  | .If _ _ o _ => (match o.getD 0 (.Pass ⟨0, 0, 0, 0⟩) with
    | .Assign _ (.Call _ [.ListComp _ _ sc _] _ _) _ => sc
    | _ => { kind := .function, names := [], isGenerator := false, isCoroutine := false })
  | _ => { kind := .function, names := [], isGenerator := false, isCoroutine := false }
def refLam : Expr → Scope
  | .Compare (.Call _ [.Lambda _ _ sc _] _ _) _ _ _ => sc
  | _ => { kind := .function, names := [], isGenerator := false, isCoroutine := false }
def lamUSc : Scope := match forBody.getD 10 (.Pass ⟨0, 0, 0, 0⟩) with
  | .If _ b _ _ => (match b.getD 0 (.Pass ⟨0, 0, 0, 0⟩) with
    | .If e _ _ _ => refLam e
    | _ => { kind := .function, names := [], isGenerator := false, isCoroutine := false })
  | _ => { kind := .function, names := [], isGenerator := false, isCoroutine := false }
def lamTSc : Scope := match forBody.getD 12 (.Pass ⟨0, 0, 0, 0⟩) with
  | .If e _ _ _ => refLam e
  | _ => { kind := .function, names := [], isGenerator := false, isCoroutine := false }
theorem pe_countK {X : Cx} {o e : Expr} {to te : TE} {pos apos : Pos} {K : PySem.W.Frag} (hK : X.K = K) (hu : X.A.units + 65 < cLine) (ho : PE X o to) (he : PE X e te)
    (hbase : attributeBase o "count" X.env (eval o X.env) = eval o X.env := by rfl)
    (hfew : ((backTo pos (starEach (e :: []) X.env)).all (fun x => !x.1) && (backToKw pos (keywordEach [] X.env)).all (fun x => x.1.isSome)
      && decide ((e :: []).length + ([] : List Keyword).length + (if ([] : List Keyword).isEmpty then 0 else 1) < 30)) = true := by rfl)
    (hline : (apos.endLine == pos.line) = true := by rfl) (hs : starEach (e :: []) X.env = (false, eval e X.env) :: starEach [] X.env := by rfl) (hplain : (backTo pos (starEach [] X.env)).any (·.1) = false := by rfl) :
    PE X (.Call (.Attribute o "count" apos) [e] [] pos) (tBM K "list" (rCountD K) to (tCons te tNil)) := by
  subst hK
  exact pe_bm PySem.F.plainAttrs_list PySem.F.slot_list_count PySem.F.type_list_count (mt_countD hu) ho (pa_cons he pa_nil hs) hbase hfew hline hs hplain
def rInt1 : List V → Hp → VK → Prop := fun xs H Q => (∃ i, xs = [.int i] ∧ Q (.int i) H) ∨ ∃ k, xs = [.bl k] ∧ Q (.int (if k then 1 else 0)) H
/-- a def of the text as it stands behind the top -/
structure Df (K : PySem.W.Frag) (mg : Str → Option Value) (nm : Str) (st : Stmt) (ps : List Str) : Prop where
  ex : ∃ f fd, Fun K nm nm st f fd ∧ mg nm = some (.ref f) ∧ Binds K fd ps []
/-- .. with its promise -/
structure Pm (P : Program) (w : World) (K : PySem.W.Frag) (mg : Str → Option Value) (base : Heap) (CX : CXT) (k : Nat) (nm : Str) (ps : List Str) (sp : Sp) : Prop where
  ex : ∃ f fd, FnOk P w K mg base CX k f fd ps sp ∧ mg nm = some (.ref f) ∧ PySem.W.keepIn K (.ref f) = true ∧ Binds K fd ps []
/-- the inner sum of due -/
def tDue (K : PySem.W.Frag) : TE := tCB (rSum K) (tCons (tLc (iZipG K (tCons (tVar 15) (tCons (tVar 16) tNil))) (gTup K 2 (gCons (gName 17) (gCons (gName 18) gNil))) tYes (tCB rInt1 (tCons (tOp rNe (tVar 17) (tVar 18)) tNil)) [17, 18]) tNil)
section
variable {P : Program} {w : World} {K : PySem.W.Frag} {mg : Str → Option Value} {base : Heap} {C CP fa cc PP : Addr} {s : Shared} {H : Hp}
/-- the law's own frame -/
abbrev xLaw (P : Program) (w : World) (K : PySem.W.Frag) (mg : Str → Option Value) (base : Heap) (fa cc : Addr) (s : Shared) (H : Hp) : Cx := (cxOf CX0 P w K mg base nLaw "law" (defScope sLaw) fa (.ref cc) callerA [] s H E0).nox
/-- all that the law calls -/
structure LawFs (P : Program) (w : World) (K : PySem.W.Frag) (mg : Str → Option Value) (base : Heap) (CP : Addr) : Prop where
  tx : Tx mg
  tz : Tz mg
  srt : mg "sorted" = none
  stn : mg "set" = none
  B : Pm P w K mg base CX0 8 "_law_begun" ["script"] (spBegun K)
  Z : Pm P w K mg base CX0 8 "_law_sized" ["draw"] spSized
  N : Pm P w K mg base CX0 8 "_law_next" ["draw", "below"] spNext
  L : Pm P w K mg base CX0 8 "_law_turned_over" ["picture", "told"] (spFlipL K)
  D : Pm P w K mg base CX0 8 "_law_odd_places" ["draw", "told", "high", "wide"] (spOdp K)
  T : Pm P w K mg base (L2.CX P w) 6 "with_turned" ["picture", "places"] (spWTP K CP)
  U : Pm P w K mg base (L2.CX P w) 6 "unlike" ["one", "other"] (spUnlP CP)
  wd : Pm P w K mg base CX0 7 "_law_word" ["e"] (spWord CP "place")
  CD : ∃ a, mg "DotError" = some (.ref a) ∧ PySem.W.exmOne K (.ref CP) (.ref a) = some true
  R : Df K mg "_law_refused" sRef ["work"]
theorem law_run {dV kV doc pm ct oc : Value} {an od : Option Addr} {osl : Array (Option Value)} {s : Shared} {H : Hp} {a : Addr} {ns : List Int}
    (lk : K.lookup fa = some ⟨oc, od, .func (PySem.W.fnOf "law" "law" (defArgs sLaw) (defBody sLaw) (defScope sLaw) dV kV doc pm an (.ref cc) ct), osl⟩) (hcd : PySem.W.codeIn K (.ref cc) "law" = true)
    (hb : ∀ (s : Shared) (u : Value), BindsTo s (PySem.W.fnOf "law" "law" (defArgs sLaw) (defBody sLaw) (defScope sLaw) dV kV doc pm an (.ref cc) ct) ⟨[u], []⟩ [("script", u)])
    (L : LawFs P w K mg base CP) (TB : TabB base mg cc PP) (hr9 : Room 9 callerA) (e0 : Env0 P w K mg base callerA [] s H) (hT : H PP = some (.tbl #[])) (hS : SqL K H a (ns.map V.int)) (hl : ns.length ≤ 63) :
    codeAny (model P w) callerA (.call (.ref fa) ⟨[.ref a], []⟩) (CR CX0 [] P w H s (fun v _ => v = .bl true) E0) s := by
  refine run_ofS (N := nLaw) (ps := ["script"]) (us := [.ref a]) (vs := [.ref a]) lk hcd scLaw hr9 e0 (hb s (.ref a)) (.cons rfl .nil) rfl fun hr8 => ?_
  have nd := scLaw.nd
  have hu64 : (callerA.deeper (envOfC "law" (defScope sLaw) s.heap.objs.size fa (.ref cc))).units + 64 < cLine := by
    have := hr8.un
    omega
  have hu65 : (callerA.deeper (envOfC "law" (defScope sLaw) s.heap.objs.size fa (.ref cc))).units + 65 < cLine := by
    have := hr8.un
    omega
  have X0 := L.tx
  have tz := L.tz
  have srt := L.srt
  have stn := L.stn
  obtain ⟨fB, fdB, GB, mB, kB, bB⟩ := L.B.ex
  obtain ⟨fZ, fdZ, GZ, mZ, kZ, bZ⟩ := L.Z.ex
  obtain ⟨fN, fdN, GN, mN, kN, bN⟩ := L.N.ex
  obtain ⟨fL, fdL, GL, mL, kL, bL⟩ := L.L.ex
  obtain ⟨fD, fdD, GD, mD, kD, bD⟩ := L.D.ex
  obtain ⟨fT, fdT, GT, mT, kT, bT⟩ := L.T.ex
  obtain ⟨fU, fdU, GU, mU, kU, bU⟩ := L.U.ex
  obtain ⟨fW, fdW, GW, mW, kW, bW⟩ := L.wd.ex
  obtain ⟨CD, mCD, exm⟩ := L.CD
  obtain ⟨fR, fdR, FR, mR, bR⟩ := L.R.ex
  have kR := FR.kp
  obtain ⟨ocR, odR, kVR, docR, pmR, anR, cdR, ctR, oslR, rfl, lkR, hcR⟩ := FR.ex
  have hrB := hr8
  have hrZ := hr8
  have hrN := hr8
  have hrL := hr8
  have hrD := hr8
  have hrT : Room 6 _ := hr8.mono (by decide)
  have hrU : Room 6 _ := hr8.mono (by decide)
  have hG : GivesR (xLaw P w K mg base fa cc s H) 7 ["work", "error", "e"] "_law_refused" (defScope sRef) fR cdR (defBody sRef) "work" (lamQ (xLaw P w K mg base fa cc s H)) (TRef CP "place") := ref_gives (k := 6) GW mW kW bW mCD exm
  refine ⟨_, PSs.nox (pss_cons (ps_set (i := 1) nd rfl (.inr rfl) (pe_call GB hrB (by rfl) mB kB bB .nil pass0 (pa_cons (pv 0) pa_nil)))
      (pss_cons (ps_for PassesOwn.never rfl (pi_range1 rfl X0.range (pa_cons pe_int pa_nil)) (pg_name (i := 2) nd rfl (.inl rfl))
        (C8.pss_cut (ps_set (i := 3) nd rfl (.inr rfl) (pe_call GZ hrZ (by rfl) mZ kZ bZ .nil pass0 (pa_cons (pv 1) pa_nil)))
          (C8.pss_cut (ps_asg (pe_tup (pa_cons (pe_callB call_len_seq (by rfl) X0.len PySem.boot_len (pa_cons (pv 3) pa_nil)) (pa_cons (pe_callB call_len_str (by rfl) X0.len PySem.boot_len (pa_cons (pe_ix (r := rIxT K) ix_tup (pv 3) pe_int (fun _ _ => rfl)) pa_nil)) pa_nil))) (pg_tup rfl (pgs_cons (pg_name (i := 4) nd rfl (Or.inr rfl)) (pgs_cons (pg_name (i := 5) nd rfl (Or.inr rfl)) pgs_nil))))
          (C8.pss_cut (ps_set (i := 6) nd rfl (.inr rfl) (pe_lc (own := [("k", 13)]) (g := gName 13) (tt := tYes) rfl nd (pi_range1 rfl X0.range (pa_cons (pe_call GN hrN (by rfl) mN kN bN .nil pass0 (pa_cons (pv 1) (pa_cons pe_int pa_nil))) pa_nil)) (blkOk_by (N := nLaw) (sc := defScope sLaw) (by decide +kernel)) (fun _ _ _ _ _ => pg_name (i := 13) nd rfl (Or.inl rfl)) (fun _ _ _ _ _ => pts_nil) (fun _ _ _ _ _ => (pe_tup (pa_cons (pe_call GN hrN (by rfl) mN kN bN .nil pass0 (pa_cons (pv 1) (pa_cons (pv 4) pa_nil))) (pa_cons (pe_call GN hrN (by rfl) mN kN bN .nil pass0 (pa_cons (pv 1) (pa_cons (pv 5) pa_nil))) pa_nil))))))
          (C8.pss_cut (ps_set (i := 6) nd rfl (.inr rfl) (pe_op op_cat (pv 6) (pe_slice sl_list (pv 6) po_none (po_some (pe_call GN hrN (by rfl) mN kN bN .nil pass0 (pa_cons (pv 1) (pa_cons pe_int pa_nil)))))))
          (C8.pss_cut (ps_set (i := 7) nd rfl (.inl rfl) (pe_call GL hrL (by rfl) mL kL bL .nil pass0 (pa_cons (pv 3) (pa_cons (pv 6) pa_nil))))
          (C8.pss_cut (ps_set (i := 8) nd rfl (.inl rfl) (pe_callTy call_list_of (by rfl) X0.list (by decide +kernel) (pa_cons (pv 6) pa_nil)))
          (C8.pss_cut (ps_if (PW.pt (pw_or (pt_cmpR (op_neD hu64) (pe_call GT hrT (by rfl) mT kT bT .nil passX0 (pa_cons (pv 3) (pa_cons (pv 6) pa_nil))) (pv 7) (nomark _)) (pw_or (pt_cmpR (op_neD hu64) (pe_call GT hrT (by rfl) mT kT bT .nil passX0 (pa_cons (pv 3) (pa_cons (pe_callTy call_tuple_of (by rfl) X0.tuple (by decide +kernel) (pa_cons (pv 6) pa_nil)) pa_nil))) (pv 7) (nomark _)) (pw_or1 (pt_cmpR (op_neD hu64) (pv 6) (pv 8) (nomark _)))))) (pss_one (ps_ret pe_bl)) pss_nil)
          (C8.pss_cut (ps_setLc (i := 9) (own := [("place", 14)]) (g := gName 14) (by rfl) nd rfl rfl (sw_true rfl rfl rfl (by decide +kernel)) (pi_list (pe_callB (cr_sortedT rfl) (by rfl) srt (by decide +kernel) (pa_cons (pe_callTy (cr_setOfT rfl hu64) (by rfl) stn (by decide +kernel) (pa_cons (pv 6) pa_nil)) pa_nil))) (blkOk_by (N := nLaw) (sc := defScope sLaw) (by decide +kernel)) (fun _ _ _ _ _ => pg_name (i := 14) nd rfl (Or.inl rfl)) (fun _ _ _ _ _ => pts_one (pt_cmpR op_eq (pe_op op_mod (pe_countK (K := K) rfl hu65 (pv 6) (pv 14)) pe_int) pe_int (nomark _))) (fun _ _ _ _ _ => pv 14))
          (C8.pss_cut (ps_if (pt_cmpR (op_neD hu64) (pe_lst (pa_cons (pe_call GU hrU (by rfl) mU kU bU .nil passX0 (pa_cons (pv 3) (pa_cons (pv 7) pa_nil))) (pa_cons (pe_call GU hrU (by rfl) mU kU bU .nil passX0 (pa_cons (pv 7) (pa_cons (pv 3) pa_nil))) (pa_cons (pe_call GU hrU (by rfl) mU kU bU .nil passX0 (pa_cons (pv 7) (pa_cons (pv 7) pa_nil))) pa_nil)))) (pe_lst (pa_cons (pe_callB call_len_seq (by rfl) X0.len PySem.boot_len (pa_cons (pv 9) pa_nil)) (pa_cons (pe_callB call_len_seq (by rfl) X0.len PySem.boot_len (pa_cons (pv 9) pa_nil)) (pa_cons pe_int pa_nil)))) (nomark _)) (pss_one (ps_ret pe_bl)) pss_nil)
          (C8.pss_cut (ps_set (i := 10) nd rfl (.inr rfl) (pe_call GZ hrZ (by rfl) mZ kZ bZ .nil pass0 (pa_cons (pv 1) pa_nil)))
          (C8.pss_cut (ps_if (pt_cmpR (op_neD hu64) (pe_tup (pa_cons (pe_callB call_len_seq (by rfl) X0.len PySem.boot_len (pa_cons (pv 10) pa_nil)) (pa_cons (pe_callB call_len_str (by rfl) X0.len PySem.boot_len (pa_cons (pe_ix (r := rIxT K) ix_tup (pv 10) pe_int (fun _ _ => rfl)) pa_nil)) pa_nil))) (pe_tup (pa_cons (pv 4) (pa_cons (pv 5) pa_nil))) (nomark _)) (pss_one (ps_if (pt_cmpR op_ne (pe_lamcallR (k := 6) (T := [(PP, lamQ (xLaw P w K mg base fa cc s H))]) (TT := TRef CP "place") (t := fun E => tCallS (spUnlP CP) (WE fun cls d _ H => E cls d H) (tCons (tVar 3) (tCons (tVar 10) tNil))) (by rfl) mR kR lkR hcR bR scRef rfl (.inl rfl) hG TB rfl (List.mem_singleton.mpr rfl) (fun p hp _ => by rw [List.mem_singleton.mp hp]) hr8 (lamS_by (show lamSB (defScope sLaw) lamUSc = true by decide +kernel)) rfl (fun _ _ _ _ _ => rfl) (fun A outer s H E f c hr => pe_callS GU hr (by rfl) mU kU bU (fun σ => passAt (takes_of rfl rfl rfl rfl) σ) (pa_cons (pv 3) (pa_cons (pv 10) pa_nil)))) pe_str (nomark _)) (pss_one (ps_ret pe_bl)) pss_nil)) (pss_cons (ps_set (i := 11) nd rfl (.inl rfl) (pe_callB (cr_sum rfl) (by rfl) tz.sum (by decide +kernel) (pa_cons (pe_lc (own := [("row", 15), ("past", 16)]) (g := gTup K 2 (gCons (gName 15) (gCons (gName 16) gNil))) (tt := tYes) (te := tDue K) rfl nd (pi_zipG (by rfl) tz.zip (pa_cons (pv 3) (pa_cons (pv 10) pa_nil))) (blkOk_by (N := nLaw) (sc := defScope sLaw) (by decide +kernel)) (fun _ _ _ _ _ => pg_tup rfl (pgs_cons (pg_name (i := 15) nd rfl (Or.inl rfl)) (pgs_cons (pg_name (i := 16) nd rfl (Or.inl rfl)) pgs_nil))) (fun _ _ _ _ _ => pts_nil) (fun _ _ _ _ _ => (pe_callB (cr_sum rfl) (by rfl) tz.sum (by decide +kernel) (pa_cons (pe_lc (own := [("x", 17), ("y", 18)]) (g := gTup K 2 (gCons (gName 17) (gCons (gName 18) gNil))) (tt := tYes) rfl nd (pi_zipG (by rfl) tz.zip (pa_cons (pv 15) (pa_cons (pv 16) pa_nil))) (blkOk_by (N := nLaw) (sc := dueSc) (by decide +kernel)) (fun _ _ _ _ _ => pg_tup rfl (pgs_cons (pg_name (i := 17) nd rfl (Or.inl rfl)) (pgs_cons (pg_name (i := 18) nd rfl (Or.inl rfl)) pgs_nil))) (fun _ _ _ _ _ => pts_nil) (fun _ _ _ _ _ => pe_callTy call_int1 (by rfl) X0.int (by decide +kernel) (pa_cons (pe_cmpR op_ne (pv 17) (pv 18) (nomark _)) pa_nil))) pa_nil)))) pa_nil))) (pss_one (ps_if (pt_cmpR op_ne (pe_call GU hrU (by rfl) mU kU bU .nil passX0 (pa_cons (pv 3) (pa_cons (pv 10) pa_nil))) (pv 11) (nomark _)) (pss_one (ps_ret pe_bl)) pss_nil))))
          (C8.pss_cut (ps_set (i := 12) nd rfl (.inr rfl) (pe_call GD hrD (by rfl) mD kD bD .nil pass0 (pa_cons (pv 1) (pa_cons (pv 6) (pa_cons (pv 4) (pa_cons (pv 5) pa_nil))))))
          (pss_one (ps_if (pt_cmpR op_ne (pe_lamcallR (k := 6) (T := [(PP, lamQ (xLaw P w K mg base fa cc s H))]) (TT := TRef CP "place") (t := fun E => tCallS (spWTP K CP) (WE fun cls d _ H => E cls d H) (tCons (tVar 3) (tCons (tVar 12) tNil))) (by rfl) mR kR lkR hcR bR scRef rfl (.inl rfl) hG TB rfl (List.mem_singleton.mpr rfl) (fun p hp _ => by rw [List.mem_singleton.mp hp]) hr8 (lamS_by (show lamSB (defScope sLaw) lamTSc = true by decide +kernel)) rfl (fun _ _ _ _ _ => rfl) (fun A outer s H E f c hr => pe_callS GT hr (by rfl) mT kT bT (fun σ => passAt (takes_of rfl rfl rfl rfl) σ) (pa_cons (pv 3) (pa_cons (pv 12) pa_nil)))) pe_str (nomark _)) (pss_one (ps_ret pe_bl)) pss_nil)))))))))))))))
      (pss_one (ps_ret pe_bl)))), ?_⟩
  have hTb : Tabs [(PP, lamQ (xLaw P w K mg base fa cc s H))] H := fun p hp => by
    rw [List.mem_singleton.mp hp]
    exact TabS.nil hT
  generalize hTT : [(PP, lamQ (xLaw P w K mg base fa cc s H))] = TL at hTb ⊢
  refine ⟨.ref a, rfl, a, ns, rfl, hS, hl, fun d g c H1 sm1 _ _ D1 => ?_⟩
  have T1 := hTb.ext sm1
  refine ⟨6, rfl, by decide, by decide, for_range (lo := 0) (n := 6) (fun _ σ H2 => ∃ y2 y3 y4 y5 y6 y7 y8 y9 y10 y11 y12, σ = [some (.ref a), some (.ref d), y2, y3, y4, y5, y6, y7, y8, y9, y10, y11, y12, none, none, none, none, none, none] ∧ Dr H2 d g c ∧ Tabs TL H2) ⟨none, none, none, none, none, none, none, none, none, none, none, rfl, D1, T1⟩ ?_ ?_⟩
  · rintro i σ H2 hi ⟨y2, y3, y4, y5, y6, y7, y8, y9, y10, y11, y12, rfl, D2, T2⟩
    refine ⟨fun σ' H' => ∃ (pa : Addr) (high wide : Nat) (rs : List (List Nat)), σ' = [some (.ref a), some (.ref d), some (.int (0 + i)), some (.ref pa), y4, y5, y6, y7, y8, y9, y10, y11, y12, none, none, none, none, none, none] ∧ PicR high wide rs ∧ H' pa = some (.tup (rs.map rv)) ∧ Dr H' d g c ∧ Tabs TL H', ?_, ?_⟩
    · exact ⟨.ref d, rfl, d, g, c, rfl, D2, fun high wide pa rs H3 pr _ hpa D3 dn3 => ⟨pa, high, wide, rs, rfl, pr, hpa, D3, Dn.tabs dn3 D2 T2⟩⟩
    rintro _ H3 ⟨pa, high, wide, rs, rfl, pr, hpa3, D3, T3⟩
    generalize (V.int (0 + i)) = tv
    have pz := picSize pr
    have hh0 := pr.h0
    have hh1 := pr.h1
    have hw0 := pr.w0
    have hw1 := pr.w1
    -- high, wide
    refine ⟨fun σ' H' => σ' = [some (.ref a), some (.ref d), some tv, some (.ref pa), some (.int high), some (.int wide), y6, y7, y8, y9, y10, y11, y12, none, none, none, none, none, none] ∧ H' pa = some (.tup (rs.map rv)) ∧ Dr H' d g c ∧ Tabs TL H', ?_, ?_⟩
    · obtain ⟨r0, rr, ers⟩ : ∃ r0 rr, rs = r0 :: rr := by
        cases rs with
        | nil =>
          have := pr.len
          simp at this
          omega
        | cons r0 rr => exact ⟨r0, rr, rfl⟩
      have hl0 : (S r0).length = r0.length := rfl
      have e0 : r0.length = wide := by rw [ers] at pr; exact (pr.row r0 List.mem_cons_self).len
      refine ⟨.ref pa, rfl, pa, rs.map rv, rfl, .inr (SqT.of hpa3), .ref pa, rfl, pa, rs.map rv, 0, rv r0, rfl, rfl, SqT.of hpa3, by rw [ers]; exact atI_nat (j := 0) rfl, S r0, rfl, by rw [hl0]; exact Nat.le_of_lt (small1000 (by omega)), by show 2 ≤ sizeLine; decide, fun p hp => ?_⟩
      refine ⟨p, _, rfl, SqT.of upd_same, rfl, _, _, rfl, _, _, rfl, rfl, ?_, ?_, ?_, ?_⟩
      · rw [pz.1, hl0, e0]
        rfl
      · exact same_upd hp _ _ hpa3
      · exact D3.same (same_upd hp)
      · exact T3.ext (same_upd hp)
    rintro _ H4 ⟨rfl, hpa4, D4, T4⟩
    -- told
    refine ⟨fun σ' H' => ∃ (l : Addr) (xs : List V) (ps : List (Nat × Nat)), σ' = [some (.ref a), some (.ref d), some tv, some (.ref pa), some (.int high), some (.int wide), some (.ref l), y7, y8, y9, y10, y11, y12, none, none, none, none, none, none] ∧ H' l = some (.lst xs) ∧ xs.length ≤ 9 ∧ l ≠ d ∧ l ≠ g ∧ Plc K H' xs ps ∧ (∀ p ∈ ps, p.1 < high ∧ p.2 < wide) ∧ H' pa = some (.tup (rs.map rv)) ∧ Dr H' d g c ∧ Tabs TL H', ?_, ?_⟩
    · refine ⟨.ref d, rfl, d, g, c, 10, rfl, D4, by decide, by decide, fun n H5 n0 n1 D5 dn5 => ⟨n, rfl, by omega, by omega, fun l hl0 => ?_⟩⟩
      have hpa5 := dn5.tup D4 hpa4
      have T5 := Dn.tabs dn5 D4 T4
      obtain ⟨nld, nlg⟩ := D5.new hl0
      refine lc_range (lo := 0) (n := n.toNat) (fun i H6 => ∃ (xs : List V) (ps : List (Nat × Nat)), xs.length = i ∧ H6 l = some (.lst xs) ∧ Plc K H6 xs ps ∧ (∀ p ∈ ps, p.1 < high ∧ p.2 < wide) ∧ H6 pa = some (.tup (rs.map rv)) ∧ Dr H6 d g c ∧ Tabs TL H6) ?_ ?_ ?_
      · have sl := same_upd (o := .lst []) hl0
        exact ⟨[], [], rfl, upd_same, ⟨rfl, fun i x p h => nomatch h⟩, (fun p h => nomatch h), sl _ _ hpa5, D5.same sl, T5.ext sl⟩
      · rintro i H6 hi6 ⟨xs, ps, hxl, h6, pl, inr, hpa6, D6, T6⟩
        refine ⟨rfl, .ref d, rfl, .int high, rfl, d, g, c, high, rfl, D6, by omega, by omega, fun r H7 r0 r1 D7 dn7 => ⟨.ref d, rfl, .int wide, rfl, d, g, c, wide, rfl, D7, by omega, by omega, fun q H8 q0 q1 D8 dn8 => ⟨by show 2 ≤ sizeLine; decide, fun p hp => ?_⟩⟩⟩
        have dn := dn7.trans dn8
        have sp := same_upd (o := .tup [V.int r, V.int q]) hp
        have h8 := sp _ _ (dn _ _ h6 nld nlg)
        have pl8 := (pl.dn dn D6).same sp
        obtain ⟨rn, rfl⟩ := Int.eq_ofNat_of_zero_le r0
        obtain ⟨qn, rfl⟩ := Int.eq_ofNat_of_zero_le q0
        have npl : p ≠ l := (ne_of_none (dn _ _ h6 nld nlg) hp).symm
        have D9 := D8.same sp
        refine ⟨xs, h8, small1000 (by omega), xs ++ [.ref p], ps ++ [(rn, qn)], by rw [List.length_append, hxl]; rfl, upd_same, ?_, ?_, ?_, ?_, ?_⟩
        · have one : Plc K (upd H8 p (.tup [V.int rn, V.int qn])) [V.ref p] [(rn, qn)] := ⟨rfl, fun i x pp hx hpp => by
            cases i with
            | zero =>
              cases hx
              cases hpp
              exact ⟨p, rfl, SqT.of upd_same⟩
            | succ i => exact nomatch hx⟩
          exact plc_upd (pl8.app one) h8
        · intro pp hpp
          rcases List.mem_append.mp hpp with z | z
          · exact inr pp z
          · rw [List.mem_singleton.mp z]
            exact ⟨by omega, by omega⟩
        · rw [upd_ne (ne_of (sp _ _ (dn.tup D6 hpa6)) h8 (by intro z; cases z))]
          exact sp _ _ (dn.tup D6 hpa6)
        · have nlc : l ≠ c := by
            obtain ⟨_, _, ⟨cs, e, _⟩, _⟩ := D5
            exact (ne_of_none e hl0).symm
          exact D9.updl nld nlg nlc
        · exact Tabs.updl ((Dn.tabs dn D6 T6).ext sp) h8
      · rintro H6 ⟨xs, ps, hxl, h6, pl, inr, hpa6, D6, T6⟩
        exact ⟨l, xs, ps, rfl, h6, by omega, nld, nlg, pl, inr, hpa6, D6, T6⟩
    rintro _ H5 ⟨l0, xs0, ps0, rfl, hl5, hx5, nld5, nlg5, pl5, inr5, hpa5, D5, T5⟩
    -- told + told[:n]
    refine ⟨fun σ' H' => ∃ (l : Addr) (xs : List V) (ps : List (Nat × Nat)), σ' = [some (.ref a), some (.ref d), some tv, some (.ref pa), some (.int high), some (.int wide), some (.ref l), y7, y8, y9, y10, y11, y12, none, none, none, none, none, none] ∧ H' l = some (.lst xs) ∧ xs.length ≤ 18 ∧ l ≠ d ∧ l ≠ g ∧ Plc K H' xs ps ∧ (∀ p ∈ ps, p.1 < high ∧ p.2 < wide) ∧ H' pa = some (.tup (rs.map rv)) ∧ Dr H' d g c ∧ Tabs TL H', ?_, ?_⟩
    · refine ⟨.ref l0, rfl, .ref l0, rfl, .ref d, rfl, d, g, c, 3, rfl, D5, by decide, by decide, fun n H6 n0 n1 D6 dn6 => ?_⟩
      obtain ⟨j, rfl⟩ := Int.eq_ofNat_of_zero_le n0
      have hl6 := dn6 _ _ hl5 nld5 nlg5
      have pl6 := pl5.dn dn6 D5
      refine ⟨j, rfl, l0, xs0, rfl, SqL.of hl6, fun p hp => ?_⟩
      rw [cutV_to]
      have s1 := same_upd (o := .lst (xs0.take j)) hp
      refine ⟨l0, p, xs0, xs0.take j, rfl, rfl, s1 _ _ hl6, upd_same, ?_, fun p2 hp2 => ?_⟩
      · rw [List.length_take]
        exact Nat.le_of_lt (small1000 (by omega))
      have s2 := same_upd (o := .lst (xs0 ++ xs0.take j)) hp2
      have s12 := s1.trans s2
      have n2 := (D6.same s1).new hp2
      refine ⟨p2, xs0 ++ xs0.take j, ps0 ++ ps0.take j, rfl, upd_same, ?_, n2.1, n2.2, (pl6.app (pl6.take j)).same s12, fun q hq => ?_, s12 _ _ (dn6.tup D5 hpa5), D6.same s12, (Dn.tabs dn6 D5 T5).ext s12⟩
      · rw [List.length_append, List.length_take]
        omega
      · rcases List.mem_append.mp hq with z | z
        · exact inr5 q z
        · exact inr5 q (List.mem_of_mem_take z)
    rintro _ H6 ⟨l, xs, ps, rfl, hl6, hx6, nld, nlg, pl6, inr, hpa6, D6, T6⟩
    clear hl5 hx5 nld5 nlg5 pl5 inr5 hpa5 D5 T5
    -- other
    refine ⟨fun σ' H' => ∃ (o : Addr), σ' = [some (.ref a), some (.ref d), some tv, some (.ref pa), some (.int high), some (.int wide), some (.ref l), some (.ref o), y8, y9, y10, y11, y12, none, none, none, none, none, none] ∧ Same H6 H' ∧ H' o = some (.tup ((flipAll rs ps).map rv)), ?_, ?_⟩
    · exact ⟨.ref pa, rfl, .ref l, rfl, pa, l, high, wide, rs, xs, ps, rfl, hpa6, pr, SqL.of hl6, pl6, inr, fun o H7 sm no ho => ⟨o, rfl, sm, ho⟩⟩
    rintro _ H7 ⟨o, rfl, sm7, ho7⟩
    -- kept
    refine ⟨fun σ' H' => ∃ (k : Addr), σ' = [some (.ref a), some (.ref d), some tv, some (.ref pa), some (.int high), some (.int wide), some (.ref l), some (.ref o), some (.ref k), y9, y10, y11, y12, none, none, none, none, none, none] ∧ Same H7 H' ∧ H' k = some (.lst xs), ?_, ?_⟩
    · exact ⟨.ref l, rfl, l, xs, rfl, .inl (SqL.of (sm7 _ _ hl6)), fun k hk => ⟨k, rfl, same_upd hk, upd_same⟩⟩
    rintro _ H8 ⟨k, rfl, sm8, hk8⟩
    have s8 := sm7.trans sm8
    have RF : RowsR high wide (flipAll rs ps) := pr.rows.flips inr
    have sg := fun (ls : List (List Nat)) (h : RowsR high wide ls) => h
    have eqR : PyData.eqv (.tuple ((flipAll rs ps).map rD)) (.tuple ((flipAll rs ps).map rD)) = true := by
      rw [PyData.eqv]
      exact eqv_rows _
    have eqP : PyData.eqv (.list (ps.map pD)) (.list (ps.map pD)) = true := by
      rw [PyData.eqv]
      exact eqv_places _
    -- with_turned, both ways; told stays
    refine ⟨fun σ' H' => σ' = [some (.ref a), some (.ref d), some tv, some (.ref pa), some (.int high), some (.int wide), some (.ref l), some (.ref o), some (.ref k), y9, y10, y11, y12, none, none, none, none, none, none] ∧ Same H8 H', ?_, ?_⟩
    · refine ⟨.ref pa, rfl, .ref l, rfl, pa, .ref l, high, wide, rs, rfl, s8 _ _ hpa6, pr, .inr (.inr ⟨l, xs, ps, rfl, .inl (SqL.of (s8 _ _ hl6)), by omega, pl6.same s8, inr, fun p H9 sm9 np hp => ?_⟩)⟩
      refine ⟨.ref o, rfl, _, _, .tup (SqT.of hp) (dp_rows _), .tup (SqT.of (sm9 _ _ (sm8 _ _ ho7))) (dp_rows _), shaped_rows RF, shaped_rows RF, _, rfl, iteE (by rw [eqR]; rfl) ?_⟩
      have s9 := s8.trans sm9
      refine ⟨.ref pa, rfl, .ref l, rfl, l, xs, rfl, .inl ⟨SqL.of (s9 _ _ hl6), fun t ht => ?_⟩⟩
      have st := same_upd (o := .tup xs) ht
      have s9t := s9.trans st
      refine ⟨pa, .ref t, high, wide, rs, rfl, s9t _ _ hpa6, pr, .inr (.inr ⟨t, xs, ps, rfl, .inr (SqT.of upd_same), by omega, pl6.same s9t, inr, fun p2 H10 sm10 np2 hp2 => ?_⟩)⟩
      have s10 := s9t.trans sm10
      refine ⟨.ref o, rfl, _, _, .tup (SqT.of hp2) (dp_rows _), .tup (SqT.of (sm10 _ _ (st _ _ (sm9 _ _ (sm8 _ _ ho7))))) (dp_rows _), shaped_rows RF, shaped_rows RF, _, rfl, iteE (by rw [eqR]; rfl) ?_⟩
      refine ⟨.ref l, rfl, .ref k, rfl, _, _, .lst (SqL.of (s10 _ _ hl6)) (dp_places (pl6.same s10)), .lst (SqL.of (sm10 _ _ (st _ _ (sm9 _ _ hk8)))) (dp_places (pl6.same s10)), shaped_places _, shaped_places _, _, rfl, iteE (by rw [eqP]; rfl) ?_⟩
      exact ⟨rfl, (sm9.trans st).trans sm10⟩
    rintro _ H9 ⟨rfl, sm9⟩
    have s9 := s8.trans sm9
    have hpa9 := s9 _ _ hpa6
    have hl9 := s9 _ _ hl6
    have pl9 := pl6.same s9
    have ho9 := sm9 _ _ (sm8 _ _ ho7)
    have D9 := D6.same s9
    have T9 := T6.ext s9
    clear hk8 sm8 sm9 sm7 s8 s9 hpa6 hl6 pl6 ho7 D6 T6
    -- odd_ones
    obtain ⟨ks, exs, eks, hks⟩ := plc_keys pl9
    have lks : ks.length = xs.length := by rw [exs, List.length_map]
    refine ⟨fun σ' H' => ∃ (z : Addr) (zs : List V) (L : List (Nat × Nat)), σ' = [some (.ref a), some (.ref d), some tv, some (.ref pa), some (.int high), some (.int wide), some (.ref l), some (.ref o), some (.ref k), some (.ref z), y10, y11, y12, none, none, none, none, none, none] ∧ Same H9 H' ∧ H' z = some (.lst zs) ∧ L.Nodup ∧ (∀ p ∈ L, p ∈ ps) ∧ (∀ p ∈ ps, p ∈ L) ∧ zs.length = (L.filter fun p => decide (ps.count p % 2 = 1)).length, ?_, ?_⟩
    · refine ⟨.ref l, rfl, l, ks, rfl, by rw [← exs]; exact SqL.of hl9, hks, by omega, fun sa L hsa sub all => ?_⟩
      have s1 := same_upd (o := SetTO P w sa L) hsa
      have hB : ∀ q ∈ L, q.2.length = 2 ∧ TS.Bd 120 q.2 := by
        intro q hq
        have h2 : q.2 ∈ ks.map (·.2) := List.mem_map.mpr ⟨q, sub q hq, rfl⟩
        rw [eks] at h2
        obtain ⟨p, hp, e⟩ := List.mem_map.mp h2
        have hr := inr p hp
        rw [← e]
        refine ⟨rfl, fun m hm => ?_⟩
        rcases List.mem_cons.mp hm with z | z
        · rw [z]
          omega
        · rw [List.mem_singleton.mp z]
          omega
      refine ⟨sa, L, 2, 120, rfl, upd_same, fun q hq => sameT s1 (hks q (sub q hq)), by decide, hB, fun L' p pm ndL lt pw hp => ?_⟩
      obtain ⟨k1, k2, k3, k4'⟩ := keys_odd eks sub all pm ndL
      have s2 := same_upd (o := .lst (L'.map fun q => V.ref q.1)) hp
      have s12 := s1.trans s2
      refine ⟨p, rfl, ⟨_, SqL.of upd_same⟩, fun Dd hDd => lc_list (K := K) (a := p) (xs := L'.map fun q => V.ref q.1) (fun i H3 => Same H9 H3 ∧ H3 p = some (.lst (L'.map fun q => V.ref q.1)) ∧ H3 Dd = some (.lst (((L'.take i).filter fun q => decide (ps.count (keyP q.2) % 2 = 1)).map fun q => V.ref q.1))) ⟨s12.trans (same_upd hDd), same_upd hDd _ _ upd_same, upd_same⟩ (fun i H3 _ z => SqL.of z.2.1) ?_ ?_⟩
      · rintro i x H3 hi ⟨sm, h3p, h3D⟩
        rw [List.getElem?_map] at hi
        obtain ⟨q, hq, rfl⟩ : ∃ q, L'[i]? = some q ∧ x = V.ref q.1 := by
          cases e : L'[i]? with
          | none =>
            rw [e] at hi
            cases hi
          | some z =>
            rw [e] at hi
            exact ⟨z, rfl, (Option.some.inj hi).symm⟩
        have hqL := List.mem_of_getElem? hq
        obtain ⟨p0, hp0, e0⟩ := k4' q hqL
        have hsq : SqT K H3 q.1 [.int p0.1, .int p0.2] := by
          have z := sameT sm (hks q (sub q (pm.mem_iff.mp hqL)))
          rw [e0] at z
          exact z
        have ek : keyP q.2 = p0 := by rw [e0, keyP_of]
        refine ⟨rfl, .ref l, rfl, .inl ⟨rfl, xs, SqL.of (sm _ _ hl9)⟩, .ref q.1, rfl, l, .ref q.1, pD p0, ps.map pD, rfl, rfl, .lst (SqL.of (sm _ _ hl9)) (dp_places (pl9.same sm)), dp_place hsq, shaped_places _, shaped_place _, _, 2, rfl, rfl, by show (0 : Int) < 2; decide, rfl, _, rfl, ?_⟩
        rw [count_places]
        have ev : decide (V.int (((ps.count p0 : Nat) : Int) % 2) = V.int 1) = decide (ps.count p0 % 2 = 1) := by
          apply Bool.eq_iff_iff.mpr
          rw [decide_eq_true_iff, decide_eq_true_iff]
          constructor
          · intro h
            have := V.int.inj h
            omega
          · intro h
            have : ((ps.count p0 : Nat) : Int) % 2 = 1 := by omega
            rw [this]
        rw [ev]
        have ll : (L'.take i).length ≤ 64 := by
          rw [List.length_take]
          omega
        have lf := List.length_filter_le (fun q : Addr × List Int => decide (ps.count (keyP q.2) % 2 = 1)) (L'.take i)
        cases eo : decide (ps.count p0 % 2 = 1) with
        | false =>
          refine iteF ⟨sm, h3p, ?_⟩
          rw [h3D, take_snoc hq, List.filter_append]
          have : [q].filter (fun q : Addr × List Int => decide (ps.count (keyP q.2) % 2 = 1)) = [] := by
            rw [List.filter_cons, ek, eo]
            rfl
          rw [this, List.append_nil]
        | true =>
          refine iteT ⟨.ref q.1, rfl, _, h3D, ?_, ?_, ?_, ?_⟩
          · rw [List.length_map]
            exact small1000 (by omega)
          · exact fun b u e => by
              rw [upd_ne (ne_of_none (s12 _ _ e) hDd)]
              exact sm _ _ e
          · rw [upd_ne (ne_of_none (upd_same (a := p)) hDd)]
            exact h3p
          · rw [upd_same, take_snoc hq, List.filter_append]
            have : [q].filter (fun q : Addr × List Int => decide (ps.count (keyP q.2) % 2 = 1)) = [q] := by
              rw [List.filter_cons, ek, eo]
              rfl
            rw [this, List.map_append]
            rfl
      · rintro H3 ⟨sm, h3p, h3D⟩
        rw [List.length_map, List.take_length] at h3D
        refine ⟨Dd, _, L'.map (fun q => keyP q.2), rfl, sm, h3D, k1, k2, k3, ?_⟩
        rw [List.length_map, List.filter_map, List.length_map]
        rfl
    rintro _ H10 ⟨z, zs, L, rfl, sm10, hz10, ndL, subL, allL, lz⟩
    have pf : PicR high wide (flipAll rs ps) := ⟨RF.len, RF.row, hh0, hh1, hw0, hw1⟩
    have hpa10 := sm10 _ _ hpa9
    have ho10 := sm10 _ _ ho9
    have mo := mis_odd pr.rows inr ndL subL allL
    rw [← lz] at mo
    have ms := mis_self RF
    -- unlike, thrice
    refine ⟨fun σ' H' => σ' = [some (.ref a), some (.ref d), some tv, some (.ref pa), some (.int high), some (.int wide), some (.ref l), some (.ref o), some (.ref k), some (.ref z), y10, y11, y12, none, none, none, none, none, none] ∧ Same H10 H', ?_, ?_⟩
    · refine ⟨.ref pa, rfl, .ref o, rfl, pa, o, high, wide, high, wide, rs, _, rfl, hpa10, ho10, pr, pf, fun _ Ha sa => ?_, fun n => absurd ⟨rfl, rfl⟩ n⟩
      refine ⟨.ref o, rfl, .ref pa, rfl, o, pa, high, wide, high, wide, _, rs, rfl, sa _ _ ho10, sa _ _ hpa10, pf, pr, fun _ Hb sb => ?_, fun n => absurd ⟨rfl, rfl⟩ n⟩
      have sab := sa.trans sb
      refine ⟨.ref o, rfl, .ref o, rfl, o, o, high, wide, high, wide, _, _, rfl, sab _ _ ho10, sab _ _ ho10, pf, pf, fun _ Hc sc => ?_, fun n => absurd ⟨rfl, rfl⟩ n⟩
      have sabc := sab.trans sc
      rw [mo.1, mo.2, ms]
      refine ⟨by show 3 ≤ sizeLine; decide, fun p hp => ?_⟩
      have s1 := same_upd (o := .lst [V.int (zs.length : Int), V.int (zs.length : Int), V.int 0]) hp
      have hz := (sabc.trans s1) _ _ hz10
      refine ⟨.ref z, rfl, z, zs, rfl, .inl (SqL.of hz), .ref z, rfl, z, zs, rfl, .inl (SqL.of hz), by show 3 ≤ sizeLine; decide, fun p2 hp2 => ?_⟩
      have s2 := same_upd (o := .lst [V.int (zs.length : Int), V.int (zs.length : Int), V.int 0]) hp2
      refine ⟨.list [.int zs.length, .int zs.length, .int 0], .list [.int zs.length, .int zs.length, .int 0], .lst (SqL.of (s2 _ _ upd_same)) (.cons (.int _) (.cons (.int _) (.cons (.int _) .nil))), .lst (SqL.of upd_same) (.cons (.int _) (.cons (.int _) (.cons (.int _) .nil))), rfl, rfl, _, rfl, iteE (by simp [PyData.eqv, PyData.eqvAll]) ?_⟩
      exact ⟨rfl, (sabc.trans s1).trans s2⟩
    rintro _ H11 ⟨rfl, sm11⟩
    have s11 := sm10.trans sm11
    have hpa11 := s11 _ _ hpa9
    have hl11 := s11 _ _ hl9
    have pl11 := pl9.same s11
    have D11 := D9.same s11
    have T11 := T9.ext s11
    clear hpa10 ho10 sm10 sm11 s11 hz10 ho9 hpa9 hl9 pl9 D9 T9 hks exs
    -- strange
    refine ⟨fun σ' H' => ∃ (sa : Addr) (h2 w2 : Nat) (ss : List (List Nat)), σ' = [some (.ref a), some (.ref d), some tv, some (.ref pa), some (.int high), some (.int wide), some (.ref l), some (.ref o), some (.ref k), some (.ref z), some (.ref sa), y11, y12, none, none, none, none, none, none] ∧ PicR h2 w2 ss ∧ H' sa = some (.tup (ss.map rv)) ∧ H' pa = some (.tup (rs.map rv)) ∧ H' l = some (.lst xs) ∧ Plc K H' xs ps ∧ Dr H' d g c ∧ Tabs TL H', ?_, ?_⟩
    · exact ⟨.ref d, rfl, d, g, c, rfl, D11, fun h2 w2 sa ss Ha pss _ hsa Da dna => ⟨sa, h2, w2, ss, rfl, pss, hsa, dna.tup D11 hpa11, dna _ _ hl11 nld nlg, pl11.dn dna D11, Da, Dn.tabs dna D11 T11⟩⟩
    rintro _ H12 ⟨sa, h2, w2, ss, rfl, pss, hsa12, hpa12, hl12, pl12, D12, T12⟩
    clear hpa11 hl11 pl11 D11 T11
    have qz := picSize pss
    have qh1 := pss.h1
    have qw1 := pss.w1
    have qh0 := pss.h0
    have e1place : (!decide (V.str "place" = V.str "place")) = false := by
      rw [decide_eq_true rfl]
      rfl
    -- of unlike sizes, or not
    refine ⟨fun σ' H' => ∃ y11, σ' = [some (.ref a), some (.ref d), some tv, some (.ref pa), some (.int high), some (.int wide), some (.ref l), some (.ref o), some (.ref k), some (.ref z), some (.ref sa), y11, y12, none, none, none, none, none, none] ∧ H' pa = some (.tup (rs.map rv)) ∧ H' l = some (.lst xs) ∧ Plc K H' xs ps ∧ Dr H' d g c ∧ Tabs TL H', ?_, ?_⟩
    · obtain ⟨r0, rr, ers⟩ : ∃ r0 rr, ss = r0 :: rr := by
        cases ss with
        | nil =>
          have := pss.len
          simp at this
          omega
        | cons r0 rr => exact ⟨r0, rr, rfl⟩
      have hl0 : (S r0).length = r0.length := rfl
      have e0 : r0.length = w2 := by rw [ers] at pss; exact (pss.row r0 List.mem_cons_self).len
      refine ⟨.ref sa, rfl, sa, ss.map rv, rfl, .inr (SqT.of hsa12), .ref sa, rfl, sa, ss.map rv, 0, rv r0, rfl, rfl, SqT.of hsa12, by rw [ers]; exact atI_nat (j := 0) rfl, S r0, rfl, by rw [hl0]; exact Nat.le_of_lt (small1000 (by omega)), by show 2 ≤ sizeLine; decide, fun p hp => ?_⟩
      rw [qz.1, hl0, e0]
      have s1 := same_upd (o := .tup [V.int (h2 : Int), V.int (w2 : Int)]) hp
      refine ⟨.int high, rfl, .int wide, rfl, by show 2 ≤ sizeLine; decide, fun p2 hp2 => ?_⟩
      have s2 := same_upd (o := .tup [V.int (high : Int), V.int (wide : Int)]) hp2
      have s12 := s1.trans s2
      refine ⟨.tuple [.int h2, .int w2], .tuple [.int high, .int wide], .tup (SqT.of (s2 _ _ upd_same)) (.cons (.int _) (.cons (.int _) .nil)), .tup (SqT.of upd_same) (.cons (.int _) (.cons (.int _) .nil)), rfl, rfl, _, rfl, ?_⟩
      have ee : PyData.eqv (.tuple [.int (h2 : Int), .int (w2 : Int)]) (.tuple [.int (high : Int), .int (wide : Int)]) = decide (high = h2 ∧ wide = w2) := by
        apply Bool.eq_iff_iff.mpr
        rw [decide_eq_true_iff]
        simp [PyData.eqv, PyData.eqvAll]
        omega
      rw [ee]
      by_cases hs : high = h2 ∧ wide = w2
      · rw [decide_eq_true hs]
        refine iteF ?_
        have lrs := pr.len
        have lss := pss.len
        refine ⟨.ref pa, rfl, .ref sa, rfl, .tup pa, .tup sa, rs.map rv, ss.map rv, rfl, SqT.of (s12 _ _ hpa12), SqT.of (s12 _ _ hsa12), fun Dd hDd => lc_zipG (K := K) (A := .tup pa) (B := .tup sa) (xs := rs.map rv) (ys := ss.map rv) ?_
          (fun i H5 => Same H12 H5 ∧ H5 Dd = some (.lst ((((rs.zip ss).take i).map fun p => (misZ p.1 p.2 : Int)).map V.int))) ⟨s12.trans (same_upd hDd), upd_same⟩ (fun i H5 _ z => ⟨SqT.of (z.1 _ _ hpa12), SqT.of (z.1 _ _ hsa12)⟩) ?_ ?_⟩
        · rw [List.length_map, List.length_map, pr.len, pss.len, hs.1]
        · rintro i x y H5 Tt hx hy ⟨sm, h5⟩ hTt
          rw [List.getElem?_map] at hx hy
          obtain ⟨l1, hl1, rfl⟩ : ∃ l, rs[i]? = some l ∧ x = rv l := by
            cases e : rs[i]? with
            | none =>
              rw [e] at hx
              cases hx
            | some z =>
              rw [e] at hx
              exact ⟨z, rfl, (Option.some.inj hx).symm⟩
          obtain ⟨m1, hm1, rfl⟩ : ∃ l, ss[i]? = some l ∧ y = rv l := by
            cases e : ss[i]? with
            | none =>
              rw [e] at hy
              cases hy
            | some z =>
              rw [e] at hy
              exact ⟨z, rfl, (Option.some.inj hy).symm⟩
          have hz : (rs.zip ss)[i]? = some (l1, m1) := List.getElem?_zip_eq_some.mpr ⟨hl1, hm1⟩
          have sT := same_upd (o := .tup [rv l1, rv m1]) hTt
          have ll1 := (pr.row l1 (List.mem_of_getElem? hl1)).len
          have lm1 := (pss.row m1 (List.mem_of_getElem? hm1)).len
          have hir : i < rs.length := (List.getElem?_eq_some_iff.mp hl1).1
          have smT := sm.trans sT
          have h5T := sT _ _ h5
          refine ⟨Tt, _, rfl, SqT.of upd_same, rfl, _, _, rfl, _, _, rfl, rfl, rfl, rv l1, rfl, rv m1, rfl, .txt (S l1), .txt (S m1), chars (S l1), chars (S m1), rfl, rfl, rfl, fun E hE => lc_zipG (K := K) (A := .txt (S l1)) (B := .txt (S m1)) (xs := chars (S l1)) (ys := chars (S m1)) ?_
            (fun j H6 => Same (upd H5 Tt (.tup [rv l1, rv m1])) H6 ∧ H6 E = some (.lst ((((l1.zip m1).take j).map fun p => if decide (p.1 ≠ p.2) = true then (1 : Int) else 0).map V.int))) ⟨same_upd hE, upd_same⟩ (fun _ _ _ _ => ⟨rfl, rfl⟩) ?_ ?_⟩
          · rw [chars_S, chars_S, List.length_map, List.length_map]
            omega
          · rintro j x y H6 T2 hx2 hy2 ⟨sm6, h6⟩ hT2
            rw [chars_S, List.getElem?_map] at hx2 hy2
            obtain ⟨a2, ha2, rfl⟩ : ∃ a, l1[j]? = some a ∧ x = V.str ⟨#[a]⟩ := by
              cases e : l1[j]? with
              | none =>
                rw [e] at hx2
                cases hx2
              | some z =>
                rw [e] at hx2
                exact ⟨z, rfl, (Option.some.inj hx2).symm⟩
            obtain ⟨b2, hb2, rfl⟩ : ∃ b, m1[j]? = some b ∧ y = V.str ⟨#[b]⟩ := by
              cases e : m1[j]? with
              | none =>
                rw [e] at hy2
                cases hy2
              | some z =>
                rw [e] at hy2
                exact ⟨z, rfl, (Option.some.inj hy2).symm⟩
            have hz2 : (l1.zip m1)[j]? = some (a2, b2) := List.getElem?_zip_eq_some.mpr ⟨ha2, hb2⟩
            have sT2 := same_upd (o := .tup [V.str ⟨#[a2]⟩, V.str ⟨#[b2]⟩]) hT2
            have hjl : j < l1.length := (List.getElem?_eq_some_iff.mp ha2).1
            refine ⟨T2, _, rfl, SqT.of upd_same, rfl, _, _, rfl, _, _, rfl, rfl, rfl, .str ⟨#[a2]⟩, rfl, .str ⟨#[b2]⟩, rfl, rfl, .inr ⟨_, rfl, _, sT2 _ _ h6, ?_, ?_, ?_⟩⟩
            · rw [List.length_map, List.length_map, List.length_take]
              exact small1000 (by omega)
            · exact fun b u e => by
                rw [upd_ne (ne_of_none e hE)]
                exact sT2 _ _ (sm6 _ _ e)
            · rw [upd_same, take_snoc hz2, List.map_append, List.map_append, ch_dec]
              have eb : (if (!decide (a2 = b2)) = true then (1 : Int) else 0) = if decide (a2 ≠ b2) = true then (1 : Int) else 0 := by
                by_cases q : a2 = b2 <;> simp [q]
              rw [eb]
              rfl
          · rintro H6 ⟨sm6, h6⟩
            have et : (l1.zip m1).take (chars (S l1)).length = l1.zip m1 := by
              apply List.take_of_length_le
              rw [chars_S, List.length_map, List.length_zip]
              omega
            rw [et] at h6
            refine ⟨E, _, rfl, SqL.of h6, _, sm6 _ _ h5T, ?_, ?_, ?_⟩
            · rw [List.length_map, List.length_map, List.length_take]
              exact small1000 (by omega)
            · exact fun b u e => by
                rw [upd_ne (ne_of_none (s12 _ _ e) hDd)]
                exact sm6 _ _ (smT _ _ e)
            · rw [upd_same, take_snoc hz, List.map_append, List.map_append, sum_bits]
              rfl
        · rintro H5 ⟨sm, h5⟩
          have et : (rs.zip ss).take (rs.map rv).length = rs.zip ss := by
            apply List.take_of_length_le
            rw [List.length_map, List.length_zip]
            omega
          rw [et] at h5
          refine ⟨Dd, _, rfl, SqL.of h5, ?_⟩
          refine ⟨.ref pa, rfl, .ref sa, rfl, pa, sa, high, wide, h2, w2, rs, ss, rfl, sm _ _ hpa12, sm _ _ hsa12, pr, pss, fun _ H6 s6 => ?_, fun q => absurd hs q⟩
          refine ⟨.int (misP rs ss), rfl, rfl, _, rfl, iteE (by rw [decide_eq_true rfl]; rfl) ?_⟩
          have sA := sm.trans s6
          exact ⟨_, rfl, sA _ _ hpa12, sA _ _ hl12, pl12.same sA, D12.same sA, T12.ext sA⟩
      · rw [decide_eq_false hs]
        refine iteT ⟨?_, fun Ha ext tabs => fun R => ?_⟩
        · exact T12.ext s12
        · refine ⟨.ref pa, rfl, .ref sa, rfl, pa, sa, high, wide, h2, w2, rs, ss, rfl, ext_tup ext (s12 _ _ hpa12), ext_tup ext (s12 _ _ hsa12), pr, pss, fun q => absurd q hs, fun _ Hb sb => ⟨rfl, rfl, fun Hc sc => ?_⟩⟩
          refine ⟨rfl, _, rfl, iteE e1place ?_⟩
          have sbc := sb.trans sc
          exact ⟨y11, rfl, sbc _ _ (ext_tup ext (s12 _ _ hpa12)), sbc _ _ (ext _ _ (s12 _ _ hl12) (fun _ z => nomatch z)), ((pl12.same s12).ext ext).same sbc, ((D12.same s12).ext ext).same sbc, tabs.ext sbc⟩
    rintro _ H13 ⟨y11, rfl, hpa13, hl13, pl13, D13, T13⟩
    -- odd
    refine ⟨fun σ' H' => ∃ x, σ' = [some (.ref a), some (.ref d), some tv, some (.ref pa), some (.int high), some (.int wide), some (.ref l), some (.ref o), some (.ref k), some (.ref z), some (.ref sa), y11, some x, none, none, none, none, none, none] ∧ OddPlc K H' high wide x ∧ H' pa = some (.tup (rs.map rv)) ∧ Dr H' d g c ∧ Tabs TL H', ?_, ?_⟩
    · exact ⟨.ref d, rfl, .ref l, rfl, .int high, rfl, .int wide, rfl, d, g, c, l, high, wide, xs, ps, rfl, D13, hl13, nlg, by omega, pl13, inr, fun x Ha ox Da dna => ⟨x, rfl, ox, dna.tup D13 hpa13, Da, Dn.tabs dna D13 T13⟩⟩
    rintro _ H14 ⟨x, rfl, ox, hpa14, D14, T14⟩
    refine ⟨T14, fun Ha ext tabs => fun R => ?_⟩
    have fin : ∀ Hb : Hp, Same Ha Hb → ∃ y2 y3 y4 y5 y6 y7 y8 y9 y10 y11' y12, [some (.ref a), some (.ref d), some tv, some (.ref pa), some (.int high), some (.int wide), some (.ref l), some (.ref o), some (.ref k), some (.ref z), some (.ref sa), y11, some x, none, none, none, none, none, none] = [some (.ref a), some (.ref d), y2, y3, y4, y5, y6, y7, y8, y9, y10, y11', y12, none, none, none, none, none, none] ∧ Dr Hb d g c ∧ Tabs TL Hb := fun Hb sb => ⟨_, _, _, _, _, _, _, _, _, _, _, rfl, (D14.ext ext).same sb, tabs.ext sb⟩
    refine ⟨.ref pa, rfl, x, rfl, pa, x, high, wide, rs, rfl, ext_tup ext hpa14, pr, ?_⟩
    rcases ox.ext ext with ⟨Ty, ht, ok, n1, n2⟩ | ⟨q, zs', bs, rfl, hq, hl', hb', hi', ha'⟩
    · exact .inl ⟨Ty, ht, ok, n1, n2, fun Hb sb => ⟨rfl, rfl, fun Hc sc => ⟨rfl, _, rfl, iteE e1place (fin Hc (sb.trans sc))⟩⟩⟩
    · exact .inr (.inl ⟨q, zs', bs, rfl, hq, hl', hb', hi', ha', fun Hb sb => ⟨rfl, rfl, fun Hc sc => ⟨rfl, _, rfl, iteE e1place (fin Hc (sb.trans sc))⟩⟩⟩)
  · rintro σ H2 ⟨y2, y3, y4, y5, y6, y7, y8, y9, y10, y11, y12, rfl, D2, T2⟩
    rfl

end
end Dt
namespace Dt
open PySem PySem.Spec PyProof.Rows L2 L2X LamX
abbrev BndT (nm : Str) (st : Stmt) (ps : List Str) : Prop := ∀ (kV doc pm : Value) (an : Option Addr) (cdv ct : Value) (us : List Value), us.length = ps.length → bindArgs (PySem.W.fnOf nm nm (defArgs st) (defBody st) (defScope st) .none kV doc pm an cdv ct) ⟨us, []⟩ = pure (ps.zip us)
theorem df_mk {K : PySem.W.Frag} {h : Heap} {mg : Str → Option Value} {nm : Str} {st : Stmt} {ps : List Str} {f : Addr} {oc : Value} {od an : Option Addr} {osl : Array (Option Value)} {kV doc pm cdv ct : Value} (X : K.In h) (G : h.Ns mainGlobals mg)
    (a : PySem.W.nsIn K mainGlobals nm = some (some (.ref f))) (l : K.lookup f = some ⟨oc, od, .func (PySem.W.fnOf nm nm (defArgs st) (defBody st) (defScope st) .none kV doc pm an cdv ct), osl⟩) (c : PySem.W.codeIn K cdv nm = true) (k : PySem.W.keepIn K (.ref f) = true) (hb : BndT nm st ps) : Df K mg nm st ps :=
  have F := fun_mk (st := st) l c k
  ⟨f, _, F, PySem.W.mg_of X G a, F.binds (ps := ps) hb⟩
theorem bnd0 : BndT "_law_next" sNext ["draw", "below"] := fun _ _ _ _ _ _ us hl => match us, hl with | [_, _], _ => rfl
theorem bnd1 : BndT "_law_begun" sBegun ["script"] := fun _ _ _ _ _ _ us hl => match us, hl with | [_], _ => rfl
theorem bnd2 : BndT "_law_picture" sPic ["draw", "high", "wide"] := fun _ _ _ _ _ _ us hl => match us, hl with | [_, _, _], _ => rfl
theorem bnd3 : BndT "_law_sized" sSized ["draw"] := fun _ _ _ _ _ _ us hl => match us, hl with | [_], _ => rfl
theorem bnd4 : BndT "_law_pick" sPick ["draw", "some"] := fun _ _ _ _ _ _ us hl => match us, hl with | [_, _], _ => rfl
theorem bnd5 : BndT "is_text" sIsText ["thing"] := fun _ _ _ _ _ _ us hl => match us, hl with | [_], _ => rfl
theorem bnd6 : BndT "_is_row" sIsRow ["thing"] := fun _ _ _ _ _ _ us hl => match us, hl with | [_], _ => rfl
theorem bnd7 : BndT "is_picture" sIsPic ["thing"] := fun _ _ _ _ _ _ us hl => match us, hl with | [_], _ => rfl
theorem bnd8 : BndT "want_picture" sWant ["thing"] := fun _ _ _ _ _ _ us hl => match us, hl with | [_], _ => rfl
theorem bnd9 : BndT "size" sSize ["picture"] := fun _ _ _ _ _ _ us hl => match us, hl with | [_], _ => rfl
theorem bnd10 : BndT "is_number" sIsNum ["thing"] := fun _ _ _ _ _ _ us hl => match us, hl with | [_], _ => rfl
theorem bnd11 : BndT "is_between" sBetw ["thing", "least", "most"] := fun _ _ _ _ _ _ us hl => match us, hl with | [_, _, _], _ => rfl
theorem bnd12 : BndT "is_list" sIsList ["thing"] := fun _ _ _ _ _ _ us hl => match us, hl with | [_], _ => rfl
theorem bnd13 : BndT "is_tuple" sIsTup ["thing", "many"] := fun _ _ _ _ _ _ us hl => match us, hl with | [_, _], _ => rfl
theorem bnd14 : BndT "unlike" sUnlP ["one", "other"] := fun _ _ _ _ _ _ us hl => match us, hl with | [_, _], _ => rfl
theorem bnd15 : BndT "_unlike_signs" sUS ["row", "other"] := fun _ _ _ _ _ _ us hl => match us, hl with | [_, _], _ => rfl
theorem bnd16 : BndT "with_turned" sWTP ["picture", "places"] := fun _ _ _ _ _ _ us hl => match us, hl with | [_, _], _ => rfl
theorem bnd17 : BndT "_is_place" sIsPlc ["thing", "rows", "columns"] := fun _ _ _ _ _ _ us hl => match us, hl with | [_, _, _], _ => rfl
theorem bnd18 : BndT "_with_signs_turned" sWST ["picture", "places"] := fun _ _ _ _ _ _ us hl => match us, hl with | [_, _], _ => rfl
theorem bnd19 : BndT "_law_turned_over" sLTO ["picture", "told"] := fun _ _ _ _ _ _ us hl => match us, hl with | [_, _], _ => rfl
theorem bnd20 : BndT "_law_odd_places" sOdp ["draw", "told", "high", "wide"] := fun _ _ _ _ _ _ us hl => match us, hl with | [_, _, _, _], _ => rfl
theorem bnd21 : BndT "_law_refused" sRef ["work"] := fun _ _ _ _ _ _ us hl => match us, hl with | [_], _ => rfl
theorem bnd22 : BndT "_law_word" sWord ["e"] := fun _ _ _ _ _ _ us hl => match us, hl with | [_], _ => rfl
theorem bnd23 : BndT "law" sLaw ["script"] := fun _ _ _ _ _ _ us hl => match us, hl with | [_], _ => rfl
/-- all defs that the law reaches -/
structure AllD (K : PySem.W.Frag) (mg : Str → Option Value) : Prop where
  d0 : Df K mg "_law_next" sNext ["draw", "below"]
  d1 : Df K mg "_law_begun" sBegun ["script"]
  d2 : Df K mg "_law_picture" sPic ["draw", "high", "wide"]
  d3 : Df K mg "_law_sized" sSized ["draw"]
  d4 : Df K mg "_law_pick" sPick ["draw", "some"]
  d5 : Df K mg "is_text" sIsText ["thing"]
  d6 : Df K mg "_is_row" sIsRow ["thing"]
  d7 : Df K mg "is_picture" sIsPic ["thing"]
  d8 : Df K mg "want_picture" sWant ["thing"]
  d9 : Df K mg "size" sSize ["picture"]
  d10 : Df K mg "is_number" sIsNum ["thing"]
  d11 : Df K mg "is_between" sBetw ["thing", "least", "most"]
  d12 : Df K mg "is_list" sIsList ["thing"]
  d13 : Df K mg "is_tuple" sIsTup ["thing", "many"]
  d14 : Df K mg "unlike" sUnlP ["one", "other"]
  d15 : Df K mg "_unlike_signs" sUS ["row", "other"]
  d16 : Df K mg "with_turned" sWTP ["picture", "places"]
  d17 : Df K mg "_is_place" sIsPlc ["thing", "rows", "columns"]
  d18 : Df K mg "_with_signs_turned" sWST ["picture", "places"]
  d19 : Df K mg "_law_turned_over" sLTO ["picture", "told"]
  d20 : Df K mg "_law_odd_places" sOdp ["draw", "told", "high", "wide"]
  d21 : Df K mg "_law_refused" sRef ["work"]
  d22 : Df K mg "_law_word" sWord ["e"]
  d23 : Df K mg "law" sLaw ["script"]
/-- .. and all else -/
structure AllN (K : PySem.W.Frag) (w : World) (mg : Str → Option Value) (C CP : Addr) : Prop where
  z0 : mg "len" = none
  z1 : mg "range" = none
  z2 : mg "tuple" = none
  z3 : mg "list" = none
  z4 : mg "int" = none
  z5 : mg "type" = none
  z6 : mg "str" = none
  z7 : mg "all" = none
  z8 : mg "isinstance" = none
  z9 : mg "ValueError" = none
  z10 : mg "sum" = none
  z11 : mg "zip" = none
  z12 : mg "sorted" = none
  z13 : mg "set" = none
  mr : ∃ t, mg "MOST_ROWS" = some (.int 60 t)
  mc : ∃ t, mg "MOST_COLUMNS" = some (.int 120 t)
  n : Tn K mg C
  np : ExN K mg "NoPlace" CP
  td : Td K w mg
  w : Tw K mg CP "place"
  CD : ∃ a, mg "DotError" = some (.ref a) ∧ PySem.W.exmOne K (.ref CP) (.ref a) = some true
section
variable {P : Program} {w : World} {K : PySem.W.Frag} {mg : Str → Option Value} {base : Heap} {C CP : Addr}
theorem Pm.of {CX : CXT} {k : Nat} {nm : Str} {st : Stmt} {ps : List Str} {sp : Sp} (d : Df K mg nm st ps) (h : ∀ f fd, Fun K nm nm st f fd → FnOk P w K mg base CX k f fd ps sp) : Pm P w K mg base CX k nm ps sp := by
  obtain ⟨f, fd, F, m, b⟩ := d.ex
  exact ⟨f, fd, h f fd F, m, F.kp, b⟩
theorem facts (D : AllD K mg) (N : AllN K w mg C CP) : LawFs P w K mg base CP := by
  have X : Tx mg := ⟨N.z0, N.z1, N.z2, N.z3, N.z4⟩
  have T : Tp mg := ⟨N.z5, N.z6, N.z7, N.mr, N.mc⟩
  have Z : Tz mg := ⟨N.z10, N.z11⟩
  have nxt : ∀ k, Pm P w K mg base CX0 (k + 1) "_law_next" ["draw", "below"] spNext := fun k => .of D.d0 fun f fd F => ok_next F X.len
  have pck : ∀ k, Pm P w K mg base CX0 (k + 2) "_law_pick" ["draw", "some"] (spPick K) := fun k => .of D.d4 fun f fd F => by
    obtain ⟨_, _, G, m, kp, b⟩ := (nxt k).ex
    exact ok_pick F X G m kp b
  have pic : ∀ k, Pm P w K mg base CX0 (k + 2) "_law_picture" ["draw", "high", "wide"] spPic := fun k => .of D.d2 fun f fd F => by
    obtain ⟨_, _, G, m, kp, b⟩ := (nxt k).ex
    exact ok_pic F X G m kp b
  have isT : ∀ k, Pm P w K mg base CX0 (k + 1) "is_text" ["thing"] (spIsText K) := fun k => .of D.d5 fun f fd F => ok_isText F T
  have isR : ∀ k, Pm P w K mg base CX0 (k + 2) "_is_row" ["thing"] (spIsRow K) := fun k => .of D.d6 fun f fd F => by
    obtain ⟨_, _, G, m, kp, b⟩ := (isT k).ex
    exact ok_isRow F T X G m kp b
  have isP : ∀ k, Pm P w K mg base CX0 (k + 3) "is_picture" ["thing"] (spIsPic K) := fun k => .of D.d7 fun f fd F => by
    obtain ⟨_, _, G, m, kp, b⟩ := (isR k).ex
    exact ok_isPic (k := k + 1) F T X G m kp b
  have wnt : ∀ k, GW P w K mg base C (k + 4) := fun k => by
    obtain ⟨fW, fdW, FW, mW, bW⟩ := D.d8.ex
    obtain ⟨_, _, G, m, kp, b⟩ := (isP k).ex
    exact ⟨fW, fdW, ok_want (k := k + 2) FW N.n G m kp b, mW, FW.kp, bW⟩
  have siz : ∀ k, GS P w K mg base C (k + 5) := fun k => by
    obtain ⟨f, fd, F, m, b⟩ := D.d9.ex
    exact ⟨f, fd, ok_size (k := k + 3) F X (wnt k), m, F.kp, b⟩
  have isN : ∀ k, Pm P w K mg base CX0 (k + 1) "is_number" ["thing"] (spIsNum K) := fun k => .of D.d10 fun f fd F => ok_isNum F T X
  have btw : ∀ k, Pm P w K mg base CX0 (k + 2) "is_between" ["thing", "least", "most"] (spBetw K) := fun k => .of D.d11 fun f fd F => by
    obtain ⟨_, _, G, m, kp, b⟩ := (isN k).ex
    exact ok_betw F G m kp b
  have isL : ∀ k, Pm P w K mg base CX0 (k + 1) "is_list" ["thing"] (spIsList K) := fun k => .of D.d12 fun f fd F => ok_isList F T X
  have isU : ∀ k, Pm P w K mg base CX0 (k + 1) "is_tuple" ["thing", "many"] (spIsTup K) := fun k => .of D.d13 fun f fd F => ok_isTup F T X
  have plc : ∀ k, Pm P w K mg base CX0 (k + 3) "_is_place" ["thing", "rows", "columns"] (spIsPlc K) := fun k => .of D.d17 fun f fd F => by
    obtain ⟨_, _, G, m, kp, b⟩ := (isU (k + 1)).ex
    obtain ⟨_, _, G2, m2, kp2, b2⟩ := (btw k).ex
    exact ok_isPlc F G m kp b G2 m2 kp2 b2
  exact
    { tx := X
      tz := Z
      srt := N.z12
      stn := N.z13
      B := .of D.d1 fun f fd F => ok_begun (k := 7) F X
      Z := .of D.d3 fun f fd F => by
        obtain ⟨_, _, G, m, kp, b⟩ := (nxt 5).ex
        obtain ⟨_, _, G2, m2, kp2, b2⟩ := (pic 5).ex
        exact ok_sized (k := 5) F X G m kp b G2 m2 kp2 b2
      N := nxt 7
      L := .of D.d19 fun f fd F => ok_LTO (k := 7) F X
      D := .of D.d20 fun f fd F => by
        obtain ⟨_, _, G, m, kp, b⟩ := (nxt 6).ex
        obtain ⟨_, _, G2, m2, kp2, b2⟩ := (pck 5).ex
        exact ok_odp (k := 5) F X G m kp b G2 m2 kp2 b2
      T := .of D.d16 fun f fd F => by
        obtain ⟨_, _, G, m, kp, b⟩ := (isL 4).ex
        obtain ⟨_, _, G2, m2, kp2, b2⟩ := (plc 2).ex
        obtain ⟨fF, fdF, FF, mF, bF⟩ := D.d18.ex
        exact ok_WTP (k := 2) F T N.np (siz 0) G m kp b G2 m2 kp2 b2 (ok_WST (k := 4) FF X N.td) mF FF.kp bF
      U := .of D.d14 fun f fd F => by
        obtain ⟨fU, fdU, FU, mU, bU⟩ := D.d15.ex
        exact ok_unlP (fS := fU) (fW := fU) (fdS := fdU) (fdW := fdU) (k := 4) F Z N.np (wnt 1) (siz 0) (ok_US (k := 4) FU Z) mU FU.kp bU
      wd := .of D.d22 fun f fd F => ok_word (k := 6) F N.w
      CD := N.CD
      R := D.d21 }
end
theorem gli_mk {K : PySem.W.Frag} {h : Heap} {mg : Str → Option Value} {nm : Str} {i : Int} {t : Tok} (X : K.In h) (G : h.Ns mainGlobals mg) (a : PySem.W.nsIn K mainGlobals nm = some (some (.int i t))) : ∃ t, mg nm = some (.int i t) := ⟨t, PySem.W.mg_of X G a⟩
theorem glk_mk {K : PySem.W.Frag} {h : Heap} {mg : Str → Option Value} {nm : Str} {C D : Addr} {b : Bool} (X : K.In h) (G : h.Ns mainGlobals mg) (a : PySem.W.nsIn K mainGlobals nm = some (some (.ref C))) (q : PySem.W.kitOne K (.ref D) (.ref C) = some b) : ∃ C, mg nm = some (.ref C) ∧ PySem.W.kitOne K (.ref D) (.ref C) = some b := ⟨C, PySem.W.mg_of X G a, q⟩
theorem glx_mk {K : PySem.W.Frag} {h : Heap} {mg : Str → Option Value} {nm : Str} {C D : Addr} (X : K.In h) (G : h.Ns mainGlobals mg) (a : PySem.W.nsIn K mainGlobals nm = some (some (.ref C))) (q : PySem.W.exmOne K (.ref D) (.ref C) = some true) : ∃ C, mg nm = some (.ref C) ∧ PySem.W.exmOne K (.ref D) (.ref C) = some true := ⟨C, PySem.W.mg_of X G a, q⟩
theorem kitc_ref {K : PySem.W.Frag} {C D : Addr} {b : Bool} (i : PySem.W.isClsIn K C = true) (y : PySem.W.typeIn K (.ref C) = some (.type "type")) (s : PySem.W.subIn K (.ref D) (.ref C) = some b) : PySem.W.kitCls K (.ref D) (.ref C) = some b := by
  have e2 : ((PySem.W.clsIn K C).isSome && PySem.W.typeIn K (.ref C) == some (.type "type")) = true := by
    have i' : (PySem.W.clsIn K C).isSome = true := i
    rw [i', y] <;> rfl
  show (if ((PySem.W.clsIn K C).isSome && PySem.W.typeIn K (.ref C) == some (.type "type")) = true then PySem.W.subIn K (.ref D) (.ref C) else none) = some b
  rw [if_pos e2]
  exact s
theorem kit_self {K : PySem.W.Frag} {C : Addr} : PySem.W.kitOne K (.ref C) (.ref C) = some true := if_pos (beq_self_eq_true _)
theorem kit_ne {K : PySem.W.Frag} {C D : Addr} {b : Bool} (n : D ≠ C) (h : PySem.W.kitCls K (.ref D) (.ref C) = some b) : PySem.W.kitOne K (.ref D) (.ref C) = some b := by
  unfold PySem.W.kitOne
  rw [if_neg (fun z => n (Value.ref.inj (beq_iff_eq.mp z)))]
  exact h
theorem glo_mk {K : PySem.W.Frag} {h : Heap} {mg : Str → Option Value} {nm : Str} {C D : Addr} {b : Bool} (X : K.In h) (G : h.Ns mainGlobals mg) (a : PySem.W.nsIn K mainGlobals nm = some (some (.ref C))) (i : PySem.W.isClsIn K C = true) (y : PySem.W.typeIn K (.ref C) = some (.type "type")) (s : PySem.W.subIn K (.ref D) (.ref C) = some b) (n : D ≠ C) : ∃ C, mg nm = some (.ref C) ∧ PySem.W.kitOne K (.ref D) (.ref C) = some b :=
  ⟨C, PySem.W.mg_of X G a, kit_ne n (kitc_ref i y s)⟩
theorem gls_mk {K : PySem.W.Frag} {h : Heap} {mg : Str → Option Value} {nm : Str} {C : Addr} (X : K.In h) (G : h.Ns mainGlobals mg) (a : PySem.W.nsIn K mainGlobals nm = some (some (.ref C))) : ∃ D, mg nm = some (.ref D) ∧ PySem.W.kitOne K (.ref C) (.ref D) = some true := ⟨C, PySem.W.mg_of X G a, kit_self⟩
theorem kit_ty {K : PySem.W.Frag} {D : Addr} {T : String} {b : Bool} (m : PySem.W.kitMeta T = true) (s : PySem.W.subIn K (.ref D) (.type T) = some b) : PySem.W.kitOne K (.ref D) (.type T) = some b := by
  unfold PySem.W.kitOne
  have n : ¬ ((Value.ref D == Value.type T) = true) := fun z => by
    have e := beq_iff_eq.mp z
    cases e
  rw [if_neg n]
  show (if PySem.W.kitMeta T = true then PySem.W.subIn K (.ref D) (.type T) else none) = some b
  rw [if_pos m]
  exact s
theorem glx_of {K : PySem.W.Frag} {h : Heap} {mg : Str → Option Value} {nm : Str} {C D : Addr} (X : K.In h) (G : h.Ns mainGlobals mg) (a : PySem.W.nsIn K mainGlobals nm = some (some (.ref C))) (b : PySem.W.subIn K (.ref C) (.type "BaseException") = some true) (hd : PySem.W.hasDictIn K C = true) (y : PySem.W.typeIn K (.ref C) = some (.type "type")) (s : PySem.W.subIn K (.ref D) (.ref C) = some true) :
    ∃ C, mg nm = some (.ref C) ∧ PySem.W.exmOne K (.ref D) (.ref C) = some true := ⟨C, PySem.W.mg_of X G a, PySem.W.exm_ref b hd y s⟩
theorem tabm {K : PySem.W.Frag} {f cc PP : Addr} {oc oc2 : Value} {od od2 : Option Addr} {fd : FuncData} {sl sl2 : Array (Option Value)} {vs : Array Value} (a : PySem.W.nsIn K mainGlobals "law" = some (some (.ref f))) (l : K.lookup f = some ⟨oc, od, .func fd, sl⟩) (c : fd.code = .ref cc) (m : K.lookup cc = some ⟨oc2, od2, .fields vs, sl2⟩) (v : (vs[11]? : Option Value) = some (.ref PP)) :
    PySem.W.tabIn K "law" = some (cc, PP) := by
  unfold PySem.W.tabIn
  rw [a]
  simp only
  rw [l]
  simp only
  rw [c]
  simp only
  rw [m]
  simp only
  rw [v]
theorem td_mk {K : PySem.W.Frag} {w : World} {h : Heap} {mg : Str → Option Value} {d : Addr} {es : Array DictEntry} {n : Nat} {t1 t2 : Tok} (X : K.In h) (G : h.Ns mainGlobals mg) (a : PySem.W.nsIn K mainGlobals "TURNED_SIGNS" = some (some (.ref d))) (l : K.lookup d = some ⟨.type "dict", none, .dict es n, #[]⟩)
    (k : PySem.W.KeysLit w.params es.toList) (u1 : PySem.W.nsIn K d "#" = some (some (.str "." t1))) (u2 : PySem.W.nsIn K d "." = some (some (.str "#" t2))) : Td K w mg :=
  ⟨d, PySem.W.mg_of X G a, ⟨es, n, _, l, k, u1, ⟨t1, rfl⟩⟩, ⟨es, n, _, l, k, u2, ⟨t2, rfl⟩⟩⟩
theorem exN_mk {K : PySem.W.Frag} {h : Heap} {mg : Str → Option Value} {nm : Str} {C : Addr} (X : K.In h) (G : h.Ns mainGlobals mg) (a : PySem.W.nsIn K mainGlobals nm = some (some (.ref C)))
    (x : PySem.W.excIn K C [.type "ValueError", .type "Exception", .type "BaseException", .type "object"] "ValueError.__new__" = true) (k : PySem.W.keepIn K (.ref C) = true) (b : PySem.W.subIn K (.ref C) (.type "BaseException") = some true) (t : PySem.W.typeIn K (.ref C) = some (.type "type")) : ExN K mg nm C := ⟨PySem.W.mg_of X G a, x, k, b, t⟩
theorem end_mk {l : PySem.W.OpenLaw} {w : World} {K : PySem.W.Frag} {mg : Str → Option Value} {C CP cc PP : Addr} {P0 : Prop} (p0 : P0) (p1 : P0 → PySem.W.nsIn K mainGlobals "NoPicture" = some (some (.ref C))) (p2 : P0 → PySem.W.nsIn K mainGlobals "NoPlace" = some (some (.ref CP))) (D : AllD K mg) (N : AllN K w mg C CP) (t : PySem.W.tabIn K "law" = some (cc, PP)) (np : K.lookup PP = none) :
    ∃ (C CP cc PP : Addr), AllD K mg ∧ AllN K w mg C CP ∧ PySem.W.tabIn K "law" = some (cc, PP) ∧ K.lookup PP = none := ⟨C, CP, cc, PP, D, N, t, np⟩
theorem walk_ofG {l : PySem.W.OpenLaw} {q : Program} {loose : List Str} {XP : (Str → Option Value) → Heap → Prop} {YP : World → Heap → Prop} {d e : DefRec} {K : Params → PySem.W.Frag}
    (hn : l.most = some 63) (hdf : d.params.defaults = []) (hrec : (PyProof.Rows.recsOf q).find? (fun e => e.name == ("law" : Str)) = some e) (hY : ∀ (w : World) (h : Heap), YP w h → (K w.params).In h) (hname : d.name = "law")
    (F : ∀ (w : World) (mg : Str → Option Value) (h : Heap), (K w.params).In h → h.Ns mainGlobals mg → ∃ (C CP cc PP : Addr), AllD (K w.params) mg ∧ AllN (K w.params) w mg C CP ∧ PySem.W.tabIn (K w.params) "law" = some (cc, PP) ∧ (K w.params).lookup PP = none) :
    PySem.W.WalkO q loose XP YP l.row.toRowW d [] (fun f vs => PySem.call f vs) := by
  refine Att.attach_callB hn hdf fun w s₀ s₁ mg mb fa o pm cd doc a vs ns G Y ho hd hcd hmg hobj hints hlen hbits hg => ?_
  have KX := hY w _ Y
  obtain ⟨C, CP, cc, PP, D, N, ht, nP⟩ := F w mg _ KX G.T.g
  obtain ⟨hC, hP⟩ := PySem.W.tab_of G.T KX hrec ht
  rw [hname] at hmg
  obtain ⟨fL, fdL, FL, mL, bL⟩ := D.d23.ex
  rw [hmg] at mL
  cases mL
  obtain ⟨oc, od, kV, dc, pm', an, cdv, ct, osl, rfl, lk, hc⟩ := FL.ex
  have ec := PySem.W.law_code KX G.T.g ht hmg (KX _ _ lk) rfl
  have ec' : cdv = .ref cc := ec
  subst ec'
  refine law_callG (cs := [(cc, PP)]) KX G.T.g G.T.b G.T.builtins G.T.nolimit hg (fun p hp => by rw [List.mem_singleton.mp hp]; exact hP) (fun p hp => by rw [List.mem_singleton.mp hp]; exact nP) (fun p hp => by rw [List.mem_singleton.mp hp]; exact hC) G.T.bmain hobj hints (Nat.le_trans hlen (by decide)) ?_
  intro base H hKb hNs hTB hHT hS e0
  exact law_run lk hc (fun _ _ => .of_eq rfl) (facts D N) (hTB _ (List.mem_singleton.mpr rfl)) ⟨rfl, by decide, by decide⟩ e0 (hHT _ (List.mem_singleton.mpr rfl)) hS hlen
end Dt
open PySem PySem.W PyProof.Rows
set_option maxRecDepth 100000 in
set_option maxHeartbeats 0 in
theorem PySem.Challenge.cw_dotread_k04_unlike_and_turned_over_holds : PySem.Challenge.rw_dotread_k04_unlike_and_turned_over.Holds := by
  w_on; o_law; k_head; (case hw => w_witness2)
  k_fill
  refine Dt.walk_ofG (l := PySem.Challenge.rw_dotread_k04_unlike_and_turned_over) rfl rfl rfl (fun w h Y => PySem.W.km_in_of Y) (by kernel_rfl) ?F
  case F =>
    intro w mg h KX G
    refine' Dt.end_mk (l := PySem.Challenge.rw_dotread_k04_unlike_and_turned_over) trivial (fun _ => ?nC) (fun _ => ?nP) ⟨Dt.df_mk KX G ?a0 ?l0 ?c0 ?k0 Dt.bnd0, Dt.df_mk KX G ?a1 ?l1 ?c1 ?k1 Dt.bnd1, Dt.df_mk KX G ?a2 ?l2 ?c2 ?k2 Dt.bnd2, Dt.df_mk KX G ?a3 ?l3 ?c3 ?k3 Dt.bnd3, Dt.df_mk KX G ?a4 ?l4 ?c4 ?k4 Dt.bnd4, Dt.df_mk KX G ?a5 ?l5 ?c5 ?k5 Dt.bnd5, Dt.df_mk KX G ?a6 ?l6 ?c6 ?k6 Dt.bnd6, Dt.df_mk KX G ?a7 ?l7 ?c7 ?k7 Dt.bnd7, Dt.df_mk KX G ?a8 ?l8 ?c8 ?k8 Dt.bnd8, Dt.df_mk KX G ?a9 ?l9 ?c9 ?k9 Dt.bnd9, Dt.df_mk KX G ?a10 ?l10 ?c10 ?k10 Dt.bnd10, Dt.df_mk KX G ?a11 ?l11 ?c11 ?k11 Dt.bnd11, Dt.df_mk KX G ?a12 ?l12 ?c12 ?k12 Dt.bnd12, Dt.df_mk KX G ?a13 ?l13 ?c13 ?k13 Dt.bnd13, Dt.df_mk KX G ?a14 ?l14 ?c14 ?k14 Dt.bnd14, Dt.df_mk KX G ?a15 ?l15 ?c15 ?k15 Dt.bnd15, Dt.df_mk KX G ?a16 ?l16 ?c16 ?k16 Dt.bnd16, Dt.df_mk KX G ?a17 ?l17 ?c17 ?k17 Dt.bnd17, Dt.df_mk KX G ?a18 ?l18 ?c18 ?k18 Dt.bnd18, Dt.df_mk KX G ?a19 ?l19 ?c19 ?k19 Dt.bnd19, Dt.df_mk KX G ?a20 ?l20 ?c20 ?k20 Dt.bnd20, Dt.df_mk KX G ?a21 ?l21 ?c21 ?k21 Dt.bnd21, Dt.df_mk KX G ?a22 ?l22 ?c22 ?k22 Dt.bnd22, Dt.df_mk KX G ?a23 ?l23 ?c23 ?k23 Dt.bnd23⟩ ⟨mg_none_of KX G ?z0, mg_none_of KX G ?z1, mg_none_of KX G ?z2, mg_none_of KX G ?z3, mg_none_of KX G ?z4, mg_none_of KX G ?z5, mg_none_of KX G ?z6, mg_none_of KX G ?z7, mg_none_of KX G ?z8, mg_none_of KX G ?z9, mg_none_of KX G ?z10, mg_none_of KX G ?z11, mg_none_of KX G ?z12, mg_none_of KX G ?z13, Dt.gli_mk KX G ?mr, Dt.gli_mk KX G ?mc, ⟨mg_of KX G ?nC2, ?nx, ?nk, ?nb, ?nt⟩, Dt.exN_mk KX G ?nP2 ?px ?pk ?pb ?pt, Dt.td_mk KX G ?da ?dl ?dk ?d1 ?d2, ⟨mg_none_of KX G ?z8b, mg_none_of KX G ?z0b, mg_none_of KX G ?z9b, Dt.kit_ty (by decide +kernel) ?vk, ⟨?e1, ?e2, ?e3, ?e4, ?e5, ?e6, ?e7, ?e8⟩, false, true, false, false, false, false, false, false, false, false, false, false, Dt.glo_mk KX G ?p0 ?i0 ?y0 ?s0 ?n0, Dt.gls_mk KX G ?p1, Dt.glo_mk KX G ?p2 ?i2 ?y2 ?s2 ?n2, Dt.glo_mk KX G ?p3 ?i3 ?y3 ?s3 ?n3, Dt.glo_mk KX G ?p4 ?i4 ?y4 ?s4 ?n4, Dt.glo_mk KX G ?p5 ?i5 ?y5 ?s5 ?n5, Dt.glo_mk KX G ?p6 ?i6 ?y6 ?s6 ?n6, Dt.glo_mk KX G ?p7 ?i7 ?y7 ?s7 ?n7, Dt.glo_mk KX G ?p8 ?i8 ?y8 ?s8 ?n8, Dt.glo_mk KX G ?p9 ?i9 ?y9 ?s9 ?n9, Dt.glo_mk KX G ?p10 ?i10 ?y10 ?s10 ?n10, Dt.glo_mk KX G ?p11 ?i11 ?y11 ?s11 ?n11, by decide +kernel⟩, Dt.glx_of KX G ?dD ?db ?dd ?dy ?ds⟩ (Dt.tabm ?ta ?tl ?tc ?tm ?tv) ?np
    (case nC => k_is)
    (case nP => k_is)
    (case nC2 => k_is)
    (case nP2 => k_is)
    (case a0 => k_is)
    (case l0 => k_is)
    (case c0 => k_is)
    (case k0 => k_is)
    (case a1 => k_is)
    (case l1 => k_is)
    (case c1 => k_is)
    (case k1 => k_is)
    (case a2 => k_is)
    (case l2 => k_is)
    (case c2 => k_is)
    (case k2 => k_is)
    (case a3 => k_is)
    (case l3 => k_is)
    (case c3 => k_is)
    (case k3 => k_is)
    (case a4 => k_is)
    (case l4 => k_is)
    (case c4 => k_is)
    (case k4 => k_is)
    (case a5 => k_is)
    (case l5 => k_is)
    (case c5 => k_is)
    (case k5 => k_is)
    (case a6 => k_is)
    (case l6 => k_is)
    (case c6 => k_is)
    (case k6 => k_is)
    (case a7 => k_is)
    (case l7 => k_is)
    (case c7 => k_is)
    (case k7 => k_is)
    (case a8 => k_is)
    (case l8 => k_is)
    (case c8 => k_is)
    (case k8 => k_is)
    (case a9 => k_is)
    (case l9 => k_is)
    (case c9 => k_is)
    (case k9 => k_is)
    (case a10 => k_is)
    (case l10 => k_is)
    (case c10 => k_is)
    (case k10 => k_is)
    (case a11 => k_is)
    (case l11 => k_is)
    (case c11 => k_is)
    (case k11 => k_is)
    (case a12 => k_is)
    (case l12 => k_is)
    (case c12 => k_is)
    (case k12 => k_is)
    (case a13 => k_is)
    (case l13 => k_is)
    (case c13 => k_is)
    (case k13 => k_is)
    (case a14 => k_is)
    (case l14 => k_is)
    (case c14 => k_is)
    (case k14 => k_is)
    (case a15 => k_is)
    (case l15 => k_is)
    (case c15 => k_is)
    (case k15 => k_is)
    (case a16 => k_is)
    (case l16 => k_is)
    (case c16 => k_is)
    (case k16 => k_is)
    (case a17 => k_is)
    (case l17 => k_is)
    (case c17 => k_is)
    (case k17 => k_is)
    (case a18 => k_is)
    (case l18 => k_is)
    (case c18 => k_is)
    (case k18 => k_is)
    (case a19 => k_is)
    (case l19 => k_is)
    (case c19 => k_is)
    (case k19 => k_is)
    (case a20 => k_is)
    (case l20 => k_is)
    (case c20 => k_is)
    (case k20 => k_is)
    (case a21 => k_is)
    (case l21 => k_is)
    (case c21 => k_is)
    (case k21 => k_is)
    (case a22 => k_is)
    (case l22 => k_is)
    (case c22 => k_is)
    (case k22 => k_is)
    (case a23 => k_is)
    (case l23 => k_is)
    (case c23 => k_is)
    (case k23 => k_is)
    (case z0 => k_is)
    (case z1 => k_is)
    (case z2 => k_is)
    (case z3 => k_is)
    (case z4 => k_is)
    (case z5 => k_is)
    (case z6 => k_is)
    (case z7 => k_is)
    (case z8 => k_is)
    (case z9 => k_is)
    (case z10 => k_is)
    (case z11 => k_is)
    (case z12 => k_is)
    (case z13 => k_is)
    (case mr => k_is)
    (case mc => k_is)
    (case nx => first | kernel_rfl | decide +kernel | rfl)
    (case nk => k_is)
    (case nb => k_is)
    (case nt => k_is)
    (case px => first | kernel_rfl | decide +kernel | rfl)
    (case pk => k_is)
    (case pb => k_is)
    (case pt => k_is)
    (case da => k_is)
    (case dl => k_is)
    (case dk => exact ⟨⟨_, _, rfl, rfl⟩, ⟨_, _, rfl, rfl⟩, trivial⟩)
    (case d1 => k_is)
    (case d2 => k_is)
    (case z8b => k_is)
    (case z0b => k_is)
    (case z9b => k_is)
    (case vk => k_is)
    (case e1 => k_is)
    (case e2 => k_is)
    (case e3 => k_is)
    (case e4 => k_is)
    (case e5 => k_is)
    (case e6 => k_is)
    (case e7 => k_is)
    (case e8 => k_is)
    (case p0 => k_is)
    (case i0 => k_is)
    (case y0 => k_is)
    (case s0 => k_is)
    (case n0 => decide)
    (case p1 => k_is)
    (case p2 => k_is)
    (case i2 => k_is)
    (case y2 => k_is)
    (case s2 => k_is)
    (case n2 => decide)
    (case p3 => k_is)
    (case i3 => k_is)
    (case y3 => k_is)
    (case s3 => k_is)
    (case n3 => decide)
    (case p4 => k_is)
    (case i4 => k_is)
    (case y4 => k_is)
    (case s4 => k_is)
    (case n4 => decide)
    (case p5 => k_is)
    (case i5 => k_is)
    (case y5 => k_is)
    (case s5 => k_is)
    (case n5 => decide)
    (case p6 => k_is)
    (case i6 => k_is)
    (case y6 => k_is)
    (case s6 => k_is)
    (case n6 => decide)
    (case p7 => k_is)
    (case i7 => k_is)
    (case y7 => k_is)
    (case s7 => k_is)
    (case n7 => decide)
    (case p8 => k_is)
    (case i8 => k_is)
    (case y8 => k_is)
    (case s8 => k_is)
    (case n8 => decide)
    (case p9 => k_is)
    (case i9 => k_is)
    (case y9 => k_is)
    (case s9 => k_is)
    (case n9 => decide)
    (case p10 => k_is)
    (case i10 => k_is)
    (case y10 => k_is)
    (case s10 => k_is)
    (case n10 => decide)
    (case p11 => k_is)
    (case i11 => k_is)
    (case y11 => k_is)
    (case s11 => k_is)
    (case n11 => decide)
    (case dD => k_is)
    (case db => k_is)
    (case dd => k_is)
    (case dy => k_is)
    (case ds => k_is)
    (case ta => k_is)
    (case tl => k_is)
    (case tc => rfl)
    (case tm => k_is)
    (case tv => rfl)
    (case np => first | kernel_rfl | decide +kernel | rfl)
