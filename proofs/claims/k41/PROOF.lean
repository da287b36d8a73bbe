import PyProof.Rows.All
import Wide.All
import OpenK.AllK
import Wide.FinOn
import HandS.ForMost
import HandS.Wide
import HandS.Codes
import PySem.Challenge.RW_dotread_k41_fields_refused
import PyProof.TypeEq
import PyProof.InstEq
import PyProof.StrBlock2
import HandS.TupMul
import HandS.TupAny
import HandS.More
import PyProof.ListStr
import HandS.ForExc
import HandS.Zip
import KE.GoesMore
import KE.GoesZip
import KE.GoesEnum
import HandS.Deep
import HandS.List
import HandS.Text
import HandS.WideBits
import HandS.Sort
import HandS.Iter
import HandS.Star
import HandS.Defaults
import HandS.MakeKwOnly
import KE.KDictZip
import HandS.StrMore
import PyProof.StrLawsLast
import HandS.ExcValue
import HandS.ExcIs
import HandS.Lambda
import HandS.EndTab
import PyProof.ReprRoads
import HandS.SetFor
import HandS.IsInst
import HandS.ExcInit
import HandS.ExcField
import KE.KExcIs
import HandS.Flow
import HandS.TryOnly
set_option Elab.async false
set_option linter.all false
set_option maxRecDepth 100000
set_option maxHeartbeats 4000000
namespace Dt
open PySem PySem.Spec PyProof.Rows L2
def topS (i : Nat) : Stmt := PySem.Challenge.pw_dotread_k41_fields_refused.main.body.getD i (.Pass ⟨0, 0, 0, 0⟩)
theorem inr_ne {a b : Str} (h : ¬ a = b) : ¬ (Sum.inr a : Key) = Sum.inr b := fun z => h (Sum.inr.inj z)
theorem same_upd {H : Hp} {p : Addr} {o : HO} (h : H p = none) : Same H (upd H p o) := fun b x e => by
  rw [upd_ne (ne_of_none e h)]
  exact e
theorem dpInts {K : PySem.W.Frag} {H : Hp} : ∀ ns : List Int, DpAll K H (ns.map V.int) (ns.map PyData.int)
  | [] => .nil
  | n :: r => .cons (.int n) (dpInts r)
end Dt
/-! rules of our own: types compared, a text times a number -/
namespace TyNe
open PySem PySem.TypeEq
open Sem (wp)
open Builtin
theorem slot_type_ne : Slot "type" (cmpInfo .NotEq).2.1 "object.__ne__" :=
  .of (owner := "object") (n := "__ne__") (by rw [typeLookup_type, builtinLookup_eq_fast]; kernel_rfl) (by decide +kernel) (by decide +kernel) (by decide +kernel)
    (by first | exact .inl (by decide +kernel) | exact .inr (by decide +kernel)) (by rw [isSubtype_type]; kernel_rfl)
theorem slot_type_ne2 : Slot "type" (cmpInfo .NotEq).2.2 "object.__ne__" :=
  .of (owner := "object") (n := "__ne__") (by rw [typeLookup_type, builtinLookup_eq_fast]; kernel_rfl) (by decide +kernel) (by decide +kernel) (by decide +kernel)
    (by first | exact .inl (by decide +kernel) | exact .inr (by decide +kernel)) (by rw [isSubtype_type]; kernel_rfl)
section
variable {prog : Program} {w : World} {A : Around} {E : Value → Shared → Prop} {s : Shared}
theorem call_ne_same {X : String} {Q : Value → Shared → Prop} (hX : ∀ s' : Shared, s'.TypeIs (.type X) "type") (h : Q (.bool false) s) : wpAny (model prog w) A (call (.builtin "object.__ne__") [.type X, .type X]) Q E s := by
  refine wpAny_call (codeAny_call_builtin slot_type_ne.plain F.cmpEntry_ne (slot_type_ne.check _ _ _ _ _ _ _ _ (hX s) (F.cmpArgs_ne _ _) ?_))
  unfold Builtin.«object.__ne__»
  repeat (first
    | with_reducible refine wpAny_cRoomFor_or (.inl rfl) ?_
    | (refine wpAny_bind (m := callSpecialIfBound? (.type X) (Str.ofString "__eq__") [.type X])
        (wpAny_callSpecialIfBound?_slot (hX _) slot_type_eq (call_gives slot_type_eq (hX _) F.entry_object_eq (F.args_object_eq_2 _ _) (object_eq_same rfl (by simp)) ?_)))
    | wp_step)
  show wpAny (model prog w) A.in1 (truthy (.bool true) >>= fun b => ret (.bool !b)) _ _ _
  exact wpAny_bind (wpAny_truthy_bool (wpAny_pure h))
theorem call_ne_other {X Y : String} {Q : Value → Shared → Prop} (hX : ∀ s' : Shared, s'.TypeIs (.type X) "type") (hne : (Value.type X == Value.type Y) = false) (h : Q .notImplemented s) : wpAny (model prog w) A (call (.builtin "object.__ne__") [.type X, .type Y]) Q E s := by
  refine wpAny_call (codeAny_call_builtin slot_type_ne.plain F.cmpEntry_ne (slot_type_ne.check _ _ _ _ _ _ _ _ (hX s) (F.cmpArgs_ne _ _) ?_))
  unfold Builtin.«object.__ne__»
  repeat (first
    | with_reducible refine wpAny_cRoomFor_or (.inl rfl) ?_
    | (refine wpAny_bind (m := callSpecialIfBound? (.type X) (Str.ofString "__eq__") [.type Y])
        (wpAny_callSpecialIfBound?_slot (hX _) slot_type_eq (call_gives slot_type_eq (hX _) F.entry_object_eq (F.args_object_eq_2 _ _) (object_eq_other rfl hne) ?_)))
    | wp_step)
  show wpAny (model prog w) A.in1 (ret .notImplemented) _ _ _
  exact wpAny_pure h
theorem ne_type_same {X : String} {Q : Value → Shared → Prop} (hX : ∀ s' : Shared, s'.TypeIs (.type X) "type") (h : Q (.bool false) s) : wpAny (model prog w) A (compareOp .NotEq (.type X) (.type X)) Q E s := by
  show wpAny _ A (richCompare .NotEq _ _) Q E s
  exact wpAny_richCompare_same (T := "type") (hX s) (hX s) slot_type_ne (call_ne_same hX ⟨(by intro e; cases e), h⟩)
theorem ne_type_other {X Y : String} {Q : Value → Shared → Prop} (hX : ∀ s' : Shared, s'.TypeIs (.type X) "type") (hY : ∀ s' : Shared, s'.TypeIs (.type Y) "type") (hne : (Value.type X == Value.type Y) = false) (h : Q (.bool true) s) :
    wpAny (model prog w) A (compareOp .NotEq (.type X) (.type Y)) Q E s := by
  have hne' : (Value.type Y == Value.type X) = false := by
    rw [Bool.eq_false_iff] at hne ⊢
    intro e
    exact hne (by rw [beq_iff_eq] at e ⊢; exact e.symm)
  show wpAny _ A (richCompare .NotEq _ _) Q E s
  have h1 := slot_type_ne
  have h2 := slot_type_ne2
  rcases hi : cmpInfo CmpOp.NotEq with ⟨sym, f, r⟩
  rw [hi] at h1 h2
  simp only [richCompare, hi, (hX s).oneThing_none]
  try with_reducible refine wpAny_holding ?_
  refine wpAny_bind (wpAny_cRoomFor_or (.inl rfl) ?_)
  refine wpAny_bind (wpAny_typeOf (hX s) (wpAny_bind (wpAny_typeOf (hY s) ?_)))
  simp only [bne_self_eq_false, Bool.false_eq_true, if_false, pure_bind, Bool.not_false, if_true]
  refine wpAny_bind (m := tryCompare _ _ _) (wpAny_tryCompare_declines (hX s) h1 (call_ne_other hX hne ⟨rfl, ?_⟩))
  refine wpAny_bind (m := tryCompare _ _ _) (wpAny_tryCompare_declines (hY _) h2 (call_ne_other hY hne' ⟨rfl, ?_⟩))
  refine wpAny_bind (wpAny_rule (wpAny_bind (wpAny_of_eq (a := false) (by rw [isSame_plain rfl, hne]) (wpAny_pure h))))
end
end TyNe
namespace L2X
open PySem PySem.Spec PyProof.Rows L2
/-- the built-in classes that are compared here -/
def tyOk (a : String) : Bool := a = "int" ∨ a = "str" ∨ a = "bool" ∨ a = "NoneType" ∨ a = "list" ∨ a = "tuple" ∨ a = "dict"
theorem tyOk_is {a : String} (h : tyOk a = true) : ∀ s' : Shared, s'.TypeIs (.type a) "type" := by
  unfold tyOk at h
  rcases of_decide_eq_true h with rfl | rfl | rfl | rfl | rfl | rfl | rfl
  · exact TypeEq.meta_int
  · exact TypeEq.meta_str
  · exact TypeEq.meta_bool
  · exact TypeEq.meta_NoneType
  · exact TypeEq.meta_list
  · exact TypeEq.meta_tuple
  · exact TypeEq.meta_dict
theorem ty_ne {a b : String} (h : a ≠ b) : (Value.type a == Value.type b) = false := beq_eq_false_iff_ne.mpr fun z => h (Value.type.inj z)
def rTyC (g : Bool → Bool) : R2 := fun x y H Q => ∃ a b, x = .ty a ∧ y = .ty b ∧ tyOk a = true ∧ tyOk b = true ∧ Q (.bl (g (decide (a = b)))) H
section
variable {X : Cx}
theorem op_eq_ty : OpR X (compareOp .Eq) (rTyC id) := by
  intro pins s σ H x y v u Q I rx ry h
  obtain ⟨a, b, rfl, rfl, ha, hb, q⟩ := h
  cases (show v = Value.type a from rx)
  cases (show u = Value.type b from ry)
  by_cases e : a = b
  · subst e
    refine TypeEq.eq_type_same (tyOk_is ha) ⟨.bl true, H, I, rfl, ?_⟩
    rw [decide_eq_true rfl] at q
    exact q
  · refine TypeEq.eq_type_other (tyOk_is ha) (tyOk_is hb) (ty_ne e) ⟨.bl false, H, I, rfl, ?_⟩
    rw [decide_eq_false e] at q
    exact q
theorem op_ne_ty : OpR X (compareOp .NotEq) (rTyC not) := by
  intro pins s σ H x y v u Q I rx ry h
  obtain ⟨a, b, rfl, rfl, ha, hb, q⟩ := h
  cases (show v = Value.type a from rx)
  cases (show u = Value.type b from ry)
  by_cases e : a = b
  · subst e
    refine TyNe.ne_type_same (tyOk_is ha) ⟨.bl false, H, I, rfl, ?_⟩
    rw [decide_eq_true rfl] at q
    exact q
  · refine TyNe.ne_type_other (tyOk_is ha) (tyOk_is hb) (ty_ne e) ⟨.bl true, H, I, rfl, ?_⟩
    rw [decide_eq_false e] at q
    exact q
/-- text * n -/
theorem op_mul_str : OpR X (binaryOp .Mult) (fun x y H Q => ∃ z n, x = .str z ∧ y = .int n ∧ MulOk z n ∧ Q (.str (Txt.mul z n)) H) := by
  intro pins s σ H x y v u Q I rx ry h
  obtain ⟨z, n, rfl, rfl, hk, q⟩ := h
  obtain ⟨t, rfl⟩ := rx
  obtain ⟨t', rfl⟩ := ry
  exact SB.mul hk fun t' k => ⟨.str _, H, I.tok _, ⟨_, rfl⟩, q⟩
end
end L2X
namespace Dt
open PySem PySem.Spec PyProof.Rows L2 L2X
open SX (S)
/-- the built-ins that are named in the text -/
structure Tx (mg : Str → Option Value) : Prop where
  len : mg "len" = none
  range : mg "range" = none
  tuple : mg "tuple" = none
  list : mg "list" = none
  int : mg "int" = none
/-! ### rows and pictures -/
def rv (l : List Nat) : V := .str (S l)
structure RowR (wide : Nat) (l : List Nat) : Prop where
  len : l.length = wide
  sg : ∀ c ∈ l, c = 35 ∨ c = 46
structure PicR (high wide : Nat) (rs : List (List Nat)) : Prop where
  len : rs.length = high
  row : ∀ l ∈ rs, RowR wide l
  h0 : 1 ≤ high
  h1 : high ≤ 60
  w0 : 1 ≤ wide
  w1 : wide ≤ 120
theorem s_dot : ("." : Str) = S [46] := by decide +kernel
theorem s_hash : ("#" : Str) = S [35] := by decide +kernel
theorem s_empty : ("" : Str) = S [] := by decide +kernel
/-! ### a sign many times; signs joined -/
theorem fold_rep (c : Nat) : ∀ (n : Nat) (acc : Array Nat), (List.replicate n #[c]).foldl (· ++ ·) acc = acc ++ (List.replicate n c).toArray
  | 0, acc => by simp
  | n + 1, acc => by
    rw [List.replicate_succ, List.foldl_cons, fold_rep c n (acc ++ #[c]), List.replicate_succ]
    apply Array.ext'
    simp
theorem mul_sign (c n : Nat) (h : 1 ≤ n) : Txt.mul (S [c]) (n : Int) = S (List.replicate n c) := by
  unfold Txt.mul
  rw [if_neg (by omega)]
  by_cases e : n = 1
  · subst e
    rfl
  · have e1 : (((n : Int) == 1) || (S [c]).length == 0) = false := by
      have a1 : ((n : Int) == 1) = false := by
        rw [beq_eq_false_iff_ne]
        omega
      rw [a1]
      rfl
    rw [e1, if_neg Bool.false_ne_true]
    have q := fold_rep c n #[]
    show (⟨(List.replicate (n : Int).toNat #[c]).foldl (· ++ ·) #[]⟩ : Str) = _
    rw [Int.toNat_natCast, q]
    simp [S]
theorem mul_ok (c n : Nat) (h : 1 ≤ n) (h2 : n ≤ 120) : MulOk (S [c]) (n : Int) := by
  refine ⟨?_, fun _ _ => ?_, fun _ _ => ?_⟩
  · rw [Bool.or_eq_false_iff, decide_eq_false_iff_not, decide_eq_false_iff_not]
    omega
  · show ¬ ((1 : Nat) : Int) > (2 ^ 63 - 1) / (n : Int)
    have : (1 : Int) ≤ (2 ^ 63 - 1) / (n : Int) := (Int.le_ediv_iff_mul_le (by omega)).mpr (by omega)
    omega
  · have e : (S [c]).length * (n : Int).toNat = n := by
      show 1 * (n : Int).toNat = n
      omega
    rw [e]
    unfold Builtin.Str.tooLong
    have z : n ≤ sizeLine := Nat.le_of_lt (small1000 (by omega))
    first
      | (rw [decide_eq_false_iff_not]; omega)
      | (simp; omega)
theorem joinL_ones : ∀ cs : List Nat, TL.joinL [] (cs.map fun c => [c]) = cs
  | [] => rfl
  | [c] => rfl
  | c :: d :: r => by
    show [c] ++ ([] ++ TL.joinL [] ((d :: r).map fun c => [c])) = _
    rw [joinL_ones (d :: r)]
    rfl
theorem join_ones (cs : List Nat) : Txt.join "" (cs.map fun c => S [c]) = S cs := by
  rw [s_empty]
  have e := SX.join_S [] (cs.map fun c => [c])
  rw [joinL_ones, List.map_map] at e
  exact e
theorem lens_ones : ∀ cs : List Nat, ((cs.map fun c => S [c]).map (·.length)).sum = cs.length
  | [] => rfl
  | c :: r => by
    show 1 + ((r.map fun c => S [c]).map (·.length)).sum = r.length + 1
    rw [lens_ones r, Nat.add_comm]
theorem row_rep (c wide : Nat) (h : c = 35 ∨ c = 46) : RowR wide (List.replicate wide c) := ⟨List.length_replicate, fun x hx => by rw [(List.mem_replicate.mp hx).2]; exact h⟩
end Dt
namespace Dt
open PySem PySem.Spec PyProof.Rows L2 L2X
open SX (S)
/-! ### what is a picture -/
def rowOk : V → Bool
  | .str x => decide (1 ≤ x.length) && decide (x.length ≤ 120) && decide (Txt.count x "#" + Txt.count x "." = (x.length : Int))
  | _ => false
theorem rowOk_str (x : Str) : rowOk (.str x) = (decide (1 ≤ x.length) && decide (x.length ≤ 120) && decide (Txt.count x "#" + Txt.count x "." = (x.length : Int))) := rfl
def lenV : V → Int
  | .str x => x.length
  | _ => 0
def picOk (xs : List V) : Bool := decide (1 ≤ xs.length) && decide (xs.length ≤ 60) && xs.all rowOk && xs.all fun y => decide (lenV y = lenV (xs.headD .non))
/-- a thing of a known kind -/
def Kn (K : PySem.W.Frag) (H : Hp) (x : V) : Prop := (∃ T, TyB K H x T ∧ tyOk T = true) ∧ ∀ z, x = .str z → z.length ≤ sizeLine
structure Tp (mg : Str → Option Value) : Prop where
  typ : mg "type" = none
  str : mg "str" = none
  all : mg "all" = none
  mr : ∃ t, mg "MOST_ROWS" = some (.int 60 t)
  mc : ∃ t, mg "MOST_COLUMNS" = some (.int 120 t)
abbrev sIsText : Stmt := topS 17
theorem scIsText : FnScope ["thing"] ["thing"] (defScope sIsText) := ⟨rfl, rfl, rfl, by decide +kernel, rfl, by decide +kernel, by decide +kernel⟩
def isStr : V → Bool
  | .str _ => true
  | _ => false
def spIsText (K : PySem.W.Frag) : Sp := fun vs H Q _ => ∃ x, vs = [x] ∧ Kn K H x ∧ Q (.bl (isStr x)) H
abbrev sIsRow : Stmt := topS 23
theorem scIsRow : FnScope ["thing"] ["thing"] (defScope sIsRow) := ⟨rfl, rfl, rfl, by decide +kernel, rfl, by decide +kernel, by decide +kernel⟩
def spIsRow (K : PySem.W.Frag) : Sp := fun vs H Q _ => ∃ x, vs = [x] ∧ Kn K H x ∧ Q (.bl (rowOk x)) H
theorem isStr_ty {K : PySem.W.Frag} {H : Hp} {x : V} {T : String} (t : TyB K H x T) : decide (T = "str") = isStr x := by
  cases t <;> rfl
section
variable {P : Program} {w : World} {K : PySem.W.Frag} {mg : Str → Option Value} {base : Heap}
theorem ok_isText {f : Addr} {fd : FuncData} {k : Nat} (F : Fun K "is_text" "is_text" sIsText f fd) (T : Tp mg) : FnOk P w K mg base CX0 (k + 1) f fd ["thing"] (spIsText K) := by
  refine F.ok scIsText (fun vs H Q E h => ?_) (fun cdv A outer s H vs Q E hr h => ?_)
  · obtain ⟨x, rfl, _⟩ := h
    rfl
  · obtain ⟨x, rfl, ⟨⟨Ty, ht, ok⟩, _⟩, q⟩ := h
    refine ⟨_, pss_one (ps_ret (pe_cmpR op_eq_ty (pe_callTy call_type1 (by rfl) T.typ (by decide +kernel) (pa_cons (pv 0) pa_nil)) (pe_bltn (v := .ty "str") (u := .type "str") (by rfl) T.str (by decide +kernel) rfl) (nomark _))), ?_⟩
    refine ⟨x, rfl, x, Ty, rfl, ht, Ty, "str", rfl, rfl, ok, rfl, ?_⟩
    have e : id (decide (Ty = "str")) = isStr x := isStr_ty ht
    rw [e]
    exact q
theorem ok_isRow {f fT : Addr} {fd fdT : FuncData} {k : Nat} (F : Fun K "_is_row" "_is_row" sIsRow f fd) (T : Tp mg) (X : Tx mg) (GT : FnOk P w K mg base CX0 (k + 1) fT fdT ["thing"] (spIsText K)) (mT : mg "is_text" = some (.ref fT)) (kT : PySem.W.keepIn K (.ref fT) = true) (bT : Binds K fdT ["thing"] []) : FnOk P w K mg base CX0 (k + 2) f fd ["thing"] (spIsRow K) := by
  refine F.ok scIsRow (fun vs H Q E h => ?_) (fun cdv A outer s H vs Q E hr h => ?_)
  · obtain ⟨x, rfl, _⟩ := h
    rfl
  · obtain ⟨x, rfl, kn, q⟩ := h
    obtain ⟨t, hmc⟩ := T.mc
    refine ⟨_, pss_cons (ps_if (PW.pt (pw_or (pt_not (pt_val (pe_call GT hr (by rfl) mT kT bT .nil pass0 (pa_cons (pv 0) pa_nil)))) (pw_or1 (pt_not (pt_chain op_le op_le pe_int (pe_callB call_len_str (by rfl) X.len PySem.boot_len (pa_cons (pv 0) pa_nil)) (pe_glob (v := .int 120) (by rfl) hmc ⟨_, rfl⟩))))))
        (pss_one (ps_ret pe_bl)) pss_nil)
      (pss_one (ps_ret (pe_cmpR op_eq (pe_op op_add (pe_m1 PySem.F.slot_str_count PySem.F.type_str_count mt_count (pv 0) pe_str) (pe_m1 PySem.F.slot_str_count PySem.F.type_str_count mt_count (pv 0) pe_str)) (pe_callB call_len_str (by rfl) X.len PySem.boot_len (pa_cons (pv 0) pa_nil)) (nomark _)))), ?_⟩
    refine ⟨x, rfl, x, rfl, kn, _, rfl, ?_⟩
    cases x with
    | str z =>
      have hz := kn.2 z rfl
      refine iteF ?_
      refine ⟨.str z, rfl, z, rfl, hz, 1, _, rfl, rfl, _, rfl, ?_⟩
      refine ite2 (fun e => ?_) (fun e => ?_)
      · refine ⟨_, 120, rfl, rfl, _, rfl, ite2 (fun e2 => ?_) (fun e2 => ?_)⟩
        · have e3 : ¬ z.length ≤ 120 := fun le => by
            have : decide ((z.length : Int) ≤ 120) = true := decide_eq_true (by omega)
            rw [this] at e2
            cases e2
          have e4 : rowOk (.str z) = false := by
            rw [rowOk_str, decide_eq_false e3, Bool.and_false, Bool.false_and]
          rw [e4] at q
          exact q
        · have e3 : z.length ≤ 120 := by
            have h1 : ¬ ((!decide ((z.length : Int) ≤ 120)) = true) := e2
            have h2 : decide ((z.length : Int) ≤ 120) = true := by
              cases hh : decide ((z.length : Int) ≤ 120) with
              | true => rfl
              | false =>
                rw [hh] at h1
                exact absurd rfl h1
            have := of_decide_eq_true h2
            omega
          have e1 : 1 ≤ z.length := by
            have := of_decide_eq_true e
            omega
          refine ⟨.str z, rfl, ⟨_, rfl⟩, z, "#", rfl, rfl, .str z, rfl, ⟨_, rfl⟩, z, ".", rfl, rfl, _, _, rfl, rfl, .str z, rfl, z, rfl, hz, rfl, ?_⟩
          have e4 : rowOk (.str z) = decide (V.int (Txt.count z "#" + Txt.count z ".") = V.int (z.length : Int)) := by
            rw [rowOk_str, decide_eq_true e1, decide_eq_true e3, Bool.true_and, Bool.true_and]
            exact Bool.eq_iff_iff.mpr ⟨fun h => decide_eq_true (congrArg V.int (of_decide_eq_true h)), fun h => decide_eq_true (V.int.inj (of_decide_eq_true h))⟩
          rw [e4] at q
          exact q
      · have e1 : ¬ 1 ≤ z.length := fun le => e (decide_eq_true (by omega))
        have e4 : rowOk (.str z) = false := by
          rw [rowOk_str, decide_eq_false e1, Bool.false_and, Bool.false_and]
        rw [e4] at q
        exact ⟨_, rfl, q⟩
    | _ => exact iteT (iteT q)
/-! ### is_picture -/
abbrev sIsPic : Stmt := topS 22
theorem scIsPic : FnScope ["thing", "row"] ["thing"] (defScope sIsPic) := ⟨rfl, rfl, rfl, by decide +kernel, rfl, by decide +kernel, by decide +kernel⟩
/-- a thing as is_picture may be asked: no tuple, or a tuple whose items are of known kinds -/
def Asked (K : PySem.W.Frag) (H : Hp) (x : V) (b : Bool) : Prop :=
  (∃ T, TyB K H x T ∧ tyOk T = true ∧ T ≠ "tuple" ∧ b = false) ∨ ∃ a xs, x = .ref a ∧ SqT K H a xs ∧ (xs.length ≤ 60 → ∀ y ∈ xs, Kn K H y) ∧ b = picOk xs
def spIsPic (K : PySem.W.Frag) : Sp := fun vs H Q _ => ∃ x b, vs = [x] ∧ Asked K H x b ∧ ∀ H', Same H H' → Q (.bl b) H'
theorem sameT {K : PySem.W.Frag} {H H' : Hp} {a : Addr} {xs : List V} (e : Same H H') (h : SqT K H a xs) : SqT K H' a xs := by
  rcases h with (h | ⟨o, h⟩) | h
  · exact .inl (.inl (e _ _ h))
  · exact .inl (.inr ⟨o, e _ _ h⟩)
  · exact .inr h
theorem Kn.same {H H' : Hp} {x : V} (h : Kn K H x) (s : Same H H') : Kn K H' x := by
  obtain ⟨⟨T, t, ok⟩, hz⟩ := h
  refine ⟨⟨T, ?_, ok⟩, hz⟩
  cases t with
  | non => exact .non
  | bl b => exact .bl b
  | int i => exact .int i
  | str x => exact .str x
  | byt b => exact .byt b
  | lst h => exact .lst (s.seq h)
  | tup h => exact .tup (sameT s h)
  | dK h => exact .dK (s _ _ h)
theorem iteE {c : Bool} {A B : Prop} (e : c = false) (h : B) : if c = true then A else B := by
  rw [e]
  exact iteF h
theorem iteY {c : Bool} {A B : Prop} (e : c = true) (h : A) : if c = true then A else B := by
  rw [e]
  exact iteT h
theorem take_snoc {α : Type} {xs : List α} {i : Nat} {x : α} (h : xs[i]? = some x) : xs.take (i + 1) = xs.take i ++ [x] := by
  rw [List.take_add_one, h]
  rfl
theorem all_map_id {α : Type} (f : α → Bool) : ∀ xs : List α, (xs.map f).all id = xs.all f
  | [] => rfl
  | x :: r => by
    show (id (f x) && (r.map f).all id) = (f x && r.all f)
    rw [all_map_id f r]
    rfl
theorem bls {α : Type} (f : α → Bool) (xs : List α) : xs.map (fun y => V.bl (f y)) = (xs.map f).map V.bl := by
  rw [List.map_map]
  rfl
theorem ok_isPic {f fR : Addr} {fd fdR : FuncData} {k : Nat} (F : Fun K "is_picture" "is_picture" sIsPic f fd) (T : Tp mg) (X : Tx mg) (GR : FnOk P w K mg base CX0 (k + 1) fR fdR ["thing"] (spIsRow K)) (mR : mg "_is_row" = some (.ref fR)) (kR : PySem.W.keepIn K (.ref fR) = true) (bR : Binds K fdR ["thing"] []) : FnOk P w K mg base CX0 (k + 2) f fd ["thing"] (spIsPic K) := by
  refine F.ok scIsPic (fun vs H Q E h => ?_) (fun cdv A outer s H vs Q E hr h => ?_)
  · obtain ⟨x, b, rfl, _⟩ := h
    rfl
  · obtain ⟨x, b, rfl, ask, q⟩ := h
    obtain ⟨t, hmr⟩ := T.mr
    have nd := scIsPic.nd
    refine ⟨_, pss_cons (ps_if (PW.pt (pw_or (pt_cmpR op_ne_ty (pe_callTy call_type1 (by rfl) T.typ (by decide +kernel) (pa_cons (pv 0) pa_nil)) (pe_bltn (v := .ty "tuple") (u := .type "tuple") (by rfl) X.tuple (by decide +kernel) rfl) (nomark _)) (pw_or1 (pt_not (pt_chain op_le op_le pe_int (pe_callB call_len_seq (by rfl) X.len PySem.boot_len (pa_cons (pv 0) pa_nil)) (pe_glob (v := .int 60) (by rfl) hmr ⟨_, rfl⟩))))))
        (pss_one (ps_ret pe_bl)) pss_nil)
      (pss_cons (ps_if (pt_not (pt_val (pe_callB (cr_all rfl) (by rfl) T.all (by decide +kernel) (pa_cons (pe_lc (own := [("row", 1)]) (g := gName 1) (tt := tYes) rfl nd (pi_tup (pv 0)) (blkOk_by (N := ["thing", "row"]) (sc := defScope sIsPic) (by decide +kernel)) (fun _ _ _ _ _ => pg_name (i := 1) nd rfl (Or.inl rfl)) (fun _ _ _ _ _ => pts_nil)
            (fun _ _ _ _ _ => pe_call GR hr (by rfl) mR kR bR .nil pass0 (pa_cons (pv 1) pa_nil))) pa_nil)))) (pss_one (ps_ret pe_bl)) pss_nil)
      (pss_one (ps_ret (pe_callB (cr_all rfl) (by rfl) T.all (by decide +kernel) (pa_cons (pe_lc (own := [("row", 1)]) (g := gName 1) (tt := tYes) rfl nd (pi_tup (pv 0)) (blkOk_by (N := ["thing", "row"]) (sc := defScope sIsPic) (by decide +kernel)) (fun _ _ _ _ _ => pg_name (i := 1) nd rfl (Or.inl rfl)) (fun _ _ _ _ _ => pts_nil)
            (fun _ _ _ _ _ => pe_cmpR op_eq (pe_callB call_len_str (by rfl) X.len PySem.boot_len (pa_cons (pv 1) pa_nil)) (pe_callB call_len_str (by rfl) X.len PySem.boot_len (pa_cons (pe_ix (r := rIxT K) ix_tup (pv 0) pe_int (fun _ _ => rfl)) pa_nil)) (nomark _))) pa_nil))))), ?_⟩
    rcases ask with ⟨Ty, ht, ok, ne, rfl⟩ | ⟨a, xs, rfl, hx, kn, rfl⟩
    · refine ⟨x, rfl, x, Ty, rfl, ht, Ty, "tuple", rfl, rfl, ok, rfl, _, rfl, ?_⟩
      have e : not (decide (Ty = "tuple")) = true := by rw [decide_eq_false ne]; rfl
      exact iteY e (q H (Same.refl H))
    · refine ⟨.ref a, rfl, .ref a, "tuple", rfl, .tup hx, "tuple", "tuple", rfl, rfl, rfl, rfl, _, rfl, iteE (by decide) ?_⟩
      refine ⟨.ref a, rfl, a, xs, rfl, .inr hx, 1, _, rfl, rfl, _, rfl, ite2 (fun e => ?_) (fun e => ?_)⟩
      · have e1 : 1 ≤ xs.length := by
          have := of_decide_eq_true e
          omega
        refine ⟨_, 60, rfl, rfl, _, rfl, ite2 (fun e2 => ?_) (fun e2 => ?_)⟩
        · have e3 : ¬ xs.length ≤ 60 := fun le => by
            have : decide ((xs.length : Int) ≤ 60) = true := decide_eq_true (by omega)
            rw [this] at e2
            cases e2
          have z : picOk xs = false := by
            unfold picOk
            rw [decide_eq_false e3, Bool.and_false, Bool.false_and, Bool.false_and]
          rw [z] at q
          exact q H (Same.refl H)
        · have e3 : xs.length ≤ 60 := by
            have h1 : ¬ ((!decide ((xs.length : Int) ≤ 60)) = true) := e2
            have h2 : decide ((xs.length : Int) ≤ 60) = true := by
              cases hh : decide ((xs.length : Int) ≤ 60) with
              | true => rfl
              | false =>
                rw [hh] at h1
                exact absurd rfl h1
            have := of_decide_eq_true h2
            omega
          have kn' := kn e3
          refine ⟨.ref a, rfl, a, rfl, ⟨_, hx⟩, fun Dd hDd => lc_tup (K := K) (a := a) (xs := xs) (fun i H2 => Same H H2 ∧ H2 Dd = some (.lst ((xs.take i).map fun y => V.bl (rowOk y)))) ⟨same_upd hDd, upd_same⟩ (fun i H2 _ z => sameT z.1 hx) ?_ ?_⟩
          · rintro i y H2 hi ⟨sm, h2⟩
            have hm : y ∈ xs := List.mem_of_getElem? hi
            refine ⟨rfl, y, rfl, y, rfl, (kn' y hm).same sm, _, h2, ?_, ?_, ?_⟩
            · rw [List.length_map, List.length_take]
              exact small1000 (by omega)
            · exact fun b o e => by
                rw [upd_ne (ne_of_none e hDd)]
                exact sm _ _ e
            · rw [upd_same, take_snoc hi, List.map_append]
              rfl
          · rintro H2 ⟨sm, h2⟩
            rw [List.take_length, bls] at h2
            refine ⟨Dd, xs.map rowOk, rfl, SqL.of h2, _, rfl, ?_⟩
            rw [all_map_id]
            cases eall : xs.all rowOk with
            | false =>
              have z : picOk xs = false := by
                unfold picOk
                rw [eall, Bool.and_false, Bool.false_and]
              rw [z] at q
              exact q H2 sm
            | true =>
              have hx2 : SqT K H2 a xs := sameT sm hx
              obtain ⟨x0, r0, rfl⟩ : ∃ x0 r0, xs = x0 :: r0 := by
                cases xs with
                | nil => exact absurd e1 (by decide)
                | cons x0 r0 => exact ⟨x0, r0, rfl⟩
              have isS : ∀ y ∈ x0 :: r0, ∃ z : Str, y = .str z ∧ z.length ≤ sizeLine := fun y hy => by
                have h := List.all_eq_true.mp eall y hy
                cases y with
                | str z => exact ⟨z, rfl, (kn' _ hy).2 z rfl⟩
                | _ => cases h
              obtain ⟨z0, ez0, hz0⟩ := isS x0 List.mem_cons_self
              refine ⟨.ref a, rfl, a, rfl, ⟨_, hx2⟩, fun D2 hD2 => lc_tup (K := K) (a := a) (xs := x0 :: r0) (fun i H3 => Same H2 H3 ∧ H3 D2 = some (.lst (((x0 :: r0).take i).map fun y => V.bl (decide (lenV y = lenV x0))))) ⟨same_upd hD2, upd_same⟩ (fun i H3 _ z => sameT z.1 hx2) ?_ ?_⟩
              · rintro i y H3 hi ⟨sm3, h3⟩
                have hm : y ∈ x0 :: r0 := List.mem_of_getElem? hi
                obtain ⟨zy, ey, hzy⟩ := isS y hm
                refine ⟨rfl, y, rfl, zy, by rw [ey], hzy, .ref a, rfl, a, x0 :: r0, 0, x0, rfl, rfl, sameT sm3 hx2, atI_nat (j := 0) rfl, z0, by rw [ez0], hz0, rfl, _, h3, ?_, ?_, ?_⟩
                · rw [List.length_map, List.length_take]
                  exact small1000 (by omega)
                · exact fun b o e => by
                    rw [upd_ne (ne_of_none e hD2)]
                    exact sm3 _ _ e
                · rw [upd_same, take_snoc hi, List.map_append]
                  have e5 : decide (V.int (zy.length : Int) = V.int (z0.length : Int)) = decide (lenV y = lenV x0) := by
                    rw [ey, ez0]
                    exact Bool.eq_iff_iff.mpr ⟨fun h => decide_eq_true (V.int.inj (of_decide_eq_true h)), fun h => decide_eq_true (congrArg V.int (of_decide_eq_true h))⟩
                  rw [e5]
                  rfl
              · rintro H3 ⟨sm3, h3⟩
                rw [List.take_length, bls] at h3
                refine ⟨D2, _, rfl, SqL.of h3, ?_⟩
                rw [all_map_id]
                have z : picOk (x0 :: r0) = (x0 :: r0).all fun y => decide (lenV y = lenV x0) := by
                  unfold picOk
                  rw [eall, decide_eq_true e1, decide_eq_true e3]
                  rfl
                rw [z] at q
                exact q H3 (sm.trans sm3)
      · have e1 : ¬ 1 ≤ xs.length := fun le => e (decide_eq_true (by omega))
        have z : picOk xs = false := by
          unfold picOk
          rw [decide_eq_false e1, Bool.false_and, Bool.false_and, Bool.false_and]
        rw [z] at q
        exact ⟨_, rfl, q H (Same.refl H)⟩
end
end Dt
namespace L2X
open PySem PySem.Spec PyProof.Rows L2
section
variable {X : Cx}
/-- a tuple once is itself -/
theorem tuple_mul1 (l : Addr) (items : Array Value) (n : Nat) (dd : Option Addr) (sl : Array (Option Value)) (u : Tok) :
    Meets (Builtin.«tuple.__mul__» ⟨[.ref l, .int 1 u], []⟩) (fun _ R s => s.heap.get? l = some { cls := .type "tuple", dict := dd, data := .seq items n, slots := sl } ∧ R (.ok (.ret (Value.ref l))) s) :=
  .of_wp fun prog w A R s h => by
    obtain ⟨hp, g, d, tk, os⟩ := s
    obtain ⟨hl, h⟩ := h
    have f1 := AutoSeq1.idx_int
    wp_walk using wpAny_loadPart' hl
    exact ⟨_, rfl, h⟩
/-- list(text) -/
theorem vals_signs : ∀ (l : List Nat) (its : List Value), l.length = its.length → (∀ (j : Nat) (v : Value), its[j]? = some v → ∃ (c : Nat) (u : Tok), l[j]? = some c ∧ v = Value.str ⟨#[c]⟩ u) → Vals (l.map fun c => V.str ⟨#[c]⟩) its
  | [], [], _, _ => .nil
  | [], _ :: _, h, _ => by cases h
  | _ :: _, [], h, _ => by cases h
  | c :: r, v :: t, h, g => by
    obtain ⟨c', u, e1, e2⟩ := g 0 v rfl
    have e3 : c = c' := Option.some.inj e1
    subst e3
    refine .cons ⟨u, e2⟩ (vals_signs r t (Nat.succ.inj h) fun j w e => ?_)
    obtain ⟨c2, u2, e4, e5⟩ := g (j + 1) w e
    exact ⟨c2, u2, e4, e5⟩
theorem call_listS (hc : X.calm = true) : CallR X (.type "list") (fun xs H Q => ∃ x : Str, xs = [.str x] ∧ x.length ≤ sizeLine ∧ ∀ l, H l = none → Q (.ref l) (upd H l (.lst (x.cps.toList.map fun c => V.str ⟨#[c]⟩)))) := by
  intro pins s σ H xs us Q I r h
  obtain ⟨x, rfl, hx, q⟩ := h
  obtain ⟨u, rfl, t, rfl⟩ := vals1 r
  refine call_list_str (I.ok.hd hc) x t (fun h' tk acc c' keeps got it => ?_) hx
  have hl : x.cps.toList.length = acc.toList.length := by
    rw [Array.length_toList, Array.length_toList, it.1]
  have vs := vals_signs x.cps.toList acc.toList hl fun j v e => by
    obtain ⟨c, u', e1, e2⟩ := it.2 j v (by rw [← Array.getElem?_toList]; exact e)
    exact ⟨c, u', by rw [Array.getElem?_toList]; exact e1, e2⟩
  refine ⟨.ref s.heap.objs.size, _, I.laid (t' := tk) keeps (Nat.le_refl _) ?_, rfl, q _ (I.hok.fresh (Nat.le_refl _))⟩
  refine ⟨?_, acc.toList, c', vs, ?_⟩
  · rw [List.length_map]
    exact hx
  · rw [got]
/-- t * n, n from 1 on -/
def rRepA (K : PySem.W.Frag) : R2 := fun x y H Q => ∃ l k xs, x = .ref l ∧ y = .int k ∧ SqT K H l xs ∧ xs ≠ [] ∧ 1 ≤ k ∧ k ≤ 1000 ∧ xs.length ≤ 1000 ∧ (k = 1 → Q (.ref l) H) ∧ (2 ≤ k → ∀ p, H p = none → Q (.ref p) (upd H p (.tup (List.replicate k.toNat xs).flatten)))
theorem op_repA : OpR X (binaryOp .Mult) (rRepA X.K) := by
  intro pins s σ H x y v u Q I rx ry h
  obtain ⟨l, k, xs, rfl, rfl, hT, hne, h1, h2, hz, q1, q2⟩ := h
  by_cases e1 : k = 1
  · subst e1
    cases rx
    obtain ⟨t, rfl⟩ := ry
    obtain ⟨its, _, ⟨⟨cls, dd, data, sl⟩, got, hc, n, hd⟩, _⟩ := I.tuple hT
    simp only at hc hd
    subst hc hd
    have once := tuple_mul1 l its.toArray n dd sl t
    have back := int_rmul_tuple 1 t l its.toArray n dd sl
    refine wpAny_binaryOp_repeat_ref (T := "tuple") (U := "int") (by decide) ⟨_, got, rfl⟩ (fun s' => typeIs_int s' 1 t)
      noFill_tuple_mul F.fills_int_mul F.slot_int_rmul repeat_tuple F.slot_int_index.lookup ?_
    refine call_meets F.slot_int_rmul (typeIs_int s 1 t) F.entry_int_rmul (F.args_int_rmul_2 _ _) back ⟨got, rfl, ⟨_, got, rfl⟩, ?_⟩
    refine call_meets F.slot_tuple_mul ⟨_, got, rfl⟩ F.entry_tuple_mul (F.args_tuple_mul_2 _ _) once ⟨got, ?_⟩
    exact ⟨.ref l, H, I, rfl, q1 rfl⟩
  · exact op_repT pins s σ H _ _ v u Q I rx ry ⟨l, k, xs, rfl, rfl, hT, hne, by omega, h2, hz, q2 (by omega)⟩
end
end L2X
namespace Dt
open PySem PySem.Spec PyProof.Rows L2 L2X
open SX (S)
/-! ### rows and pictures by their signs -/
theorem cnt_two : ∀ l : List Nat, cnt 35 l + cnt 46 l ≤ l.length ∧ (cnt 35 l + cnt 46 l = l.length ↔ ∀ c ∈ l, c = 35 ∨ c = 46)
  | [] => ⟨by rw [cnt_nil, cnt_nil]; exact Int.le_refl _, by rw [cnt_nil, cnt_nil]; exact ⟨fun _ _ h => (List.not_mem_nil h).elim, fun _ => rfl⟩⟩
  | n :: r => by
    obtain ⟨h1, h2⟩ := cnt_two r
    rw [cnt_cons, cnt_cons, List.length_cons]
    have e : ∀ c ∈ n :: r, (c = 35 ∨ c = 46) ↔ True ∧ (c = 35 ∨ c = 46) := fun c _ => by simp
    by_cases a : n = 35
    · subst a
      rw [if_pos rfl, if_neg (by decide)]
      refine ⟨by omega, ⟨fun z => ?_, fun z => ?_⟩⟩
      · have z2 := h2.mp (by omega)
        intro c hc
        rcases List.mem_cons.mp hc with q | q
        · exact .inl q
        · exact z2 c q
      · have := h2.mpr fun c hc => z c (List.mem_cons_of_mem _ hc)
        omega
    · by_cases b : n = 46
      · subst b
        rw [if_neg (by decide), if_pos rfl]
        refine ⟨by omega, ⟨fun z => ?_, fun z => ?_⟩⟩
        · have z2 := h2.mp (by omega)
          intro c hc
          rcases List.mem_cons.mp hc with q | q
          · exact .inr q
          · exact z2 c q
        · have := h2.mpr fun c hc => z c (List.mem_cons_of_mem _ hc)
          omega
      · rw [if_neg a, if_neg b]
        refine ⟨by omega, ⟨fun z => by omega, fun z => ?_⟩⟩
        rcases z n List.mem_cons_self with q | q
        · exact absurd q a
        · exact absurd q b
theorem rowOk_S (l : List Nat) : rowOk (.str (S l)) = (decide (1 ≤ l.length) && decide (l.length ≤ 120) && decide (∀ c ∈ l, c = 35 ∨ c = 46)) := by
  have e : decide (Txt.count (S l) "#" + Txt.count (S l) "." = ((S l).length : Int)) = decide (∀ c ∈ l, c = 35 ∨ c = 46) := by
    rw [s_hash, s_dot, count_cnt, count_cnt, SX.S_len]
    exact Bool.eq_iff_iff.mpr ⟨fun h => decide_eq_true ((cnt_two l).2.mp (of_decide_eq_true h)), fun h => decide_eq_true ((cnt_two l).2.mpr (of_decide_eq_true h))⟩
  rw [rowOk_str, e, SX.S_len]
theorem rowOk_rv {wide : Nat} {l : List Nat} (h : RowR wide l) (w0 : 1 ≤ wide) (w1 : wide ≤ 120) : rowOk (rv l) = true := by
  unfold rv
  rw [rowOk_S, h.len, decide_eq_true w0, decide_eq_true w1, decide_eq_true h.sg]
  rfl
theorem rowOk_bad {l : List Nat} {c : Nat} (hc : c ∈ l) (h1 : c ≠ 35) (h2 : c ≠ 46) : rowOk (.str (S l)) = false := by
  rw [rowOk_S, decide_eq_false (p := ∀ c ∈ l, c = 35 ∨ c = 46), Bool.and_false]
  intro z
  rcases z c hc with q | q
  · exact h1 q
  · exact h2 q
theorem rowOk_len {l : List Nat} (h : l.length = 0 ∨ 120 < l.length) : rowOk (.str (S l)) = false := by
  rw [rowOk_S]
  rcases h with h | h
  · rw [decide_eq_false (by omega : ¬ 1 ≤ l.length)]
    rfl
  · rw [decide_eq_false (by omega : ¬ l.length ≤ 120), Bool.and_false, Bool.false_and]
theorem lenV_S (l : List Nat) : lenV (.str (S l)) = (l.length : Int) := by
  show ((S l).length : Int) = _
  rw [SX.S_len]
theorem picOk_pic {high wide : Nat} {rs : List (List Nat)} (h : PicR high wide rs) : picOk (rs.map rv) = true := by
  unfold picOk
  have a1 : decide (1 ≤ (rs.map rv).length) = true := decide_eq_true (by rw [List.length_map, h.len]; exact h.h0)
  have a2 : decide ((rs.map rv).length ≤ 60) = true := decide_eq_true (by rw [List.length_map, h.len]; exact h.h1)
  have a3 : (rs.map rv).all rowOk = true := List.all_eq_true.mpr fun y hy => by
    obtain ⟨l, hl, rfl⟩ := List.mem_map.mp hy
    exact rowOk_rv (h.row l hl) h.w0 h.w1
  have len : ∀ y ∈ rs.map rv, lenV y = (wide : Int) := fun y hy => by
    obtain ⟨l, hl, rfl⟩ := List.mem_map.mp hy
    unfold rv
    rw [lenV_S, (h.row l hl).len]
  have a4 : ((rs.map rv).all fun y => decide (lenV y = lenV ((rs.map rv).headD .non))) = true := List.all_eq_true.mpr fun y hy => by
    refine decide_eq_true ?_
    rw [len y hy]
    cases e : rs.map rv with
    | nil =>
      rw [e] at hy
      cases hy
    | cons x r =>
      have z := len x (by rw [e]; exact List.mem_cons_self)
      exact z.symm
  rw [a1, a2, a3, a4]
  rfl
/-- one row put in the place of another: no picture -/
theorem picOk_odd {high wide r : Nat} {rs : List (List Nat)} {one : V} (h : PicR high wide rs) (hr : r < high) (b : rowOk one = false ∨ (2 ≤ high ∧ lenV one ≠ (wide : Int))) :
    picOk ((rs.map rv).take r ++ [one] ++ (rs.map rv).drop (r + 1)) = false := by
  cases e : picOk ((rs.map rv).take r ++ [one] ++ (rs.map rv).drop (r + 1)) with
  | false => rfl
  | true =>
    exfalso
    unfold picOk at e
    rw [Bool.and_eq_true, Bool.and_eq_true, Bool.and_eq_true] at e
    obtain ⟨⟨⟨_, _⟩, e3⟩, e4⟩ := e
    have m1 : one ∈ (rs.map rv).take r ++ [one] ++ (rs.map rv).drop (r + 1) := by simp
    rcases b with b | ⟨b1, b2⟩
    · have z := List.all_eq_true.mp e3 one m1
      rw [b] at z
      cases z
    · have len : ∀ y ∈ rs.map rv, lenV y = (wide : Int) := fun y hy => by
        obtain ⟨l, hl, rfl⟩ := List.mem_map.mp hy
        unfold rv
        rw [lenV_S, (h.row l hl).len]
      obtain ⟨y, m2, hy⟩ : ∃ y, y ∈ (rs.map rv).take r ++ [one] ++ (rs.map rv).drop (r + 1) ∧ y ∈ rs.map rv := by
        have hl : (rs.map rv).length = high := by rw [List.length_map, h.len]
        by_cases hr0 : r = 0
        · subst hr0
          have : 1 < (rs.map rv).length := by omega
          refine ⟨(rs.map rv)[1], ?_, List.getElem_mem _⟩
          refine List.mem_append_right _ ?_
          exact List.mem_of_getElem? (i := 0) (by rw [List.getElem?_drop, List.getElem?_eq_getElem this])
        · have : 0 < (rs.map rv).length := by omega
          refine ⟨(rs.map rv)[0], ?_, List.getElem_mem _⟩
          refine List.mem_append_left _ (List.mem_append_left _ ?_)
          exact List.mem_of_getElem? (i := 0) (by rw [List.getElem?_take, if_pos (by omega), List.getElem?_eq_getElem this])
      have z1 := of_decide_eq_true (List.all_eq_true.mp e4 one m1)
      have z2 := of_decide_eq_true (List.all_eq_true.mp e4 y m2)
      exact b2 (z1.trans (z2.symm.trans (len y hy)))
end Dt
namespace Dt
open PySem PySem.Spec PyProof.Rows L2 L2X
open SX (S)
/-! ### refusals -/
/-- the class NoPicture, as the top has made it, at C -/
structure Tn (K : PySem.W.Frag) (mg : Str → Option Value) (C : Addr) : Prop where
  g : mg "NoPicture" = some (.ref C)
  x : PySem.W.excIn K C [.type "ValueError", .type "Exception", .type "BaseException", .type "object"] "ValueError.__new__" = true
  k : PySem.W.keepIn K (.ref C) = true
  b : PySem.W.subIn K (.ref C) (.type "BaseException") = some true
  t : PySem.W.typeIn K (.ref C) = some (.type "type")
abbrev sWant : Stmt := topS 24
theorem scWant : FnScope ["thing"] ["thing"] (defScope sWant) := ⟨rfl, rfl, rfl, by decide +kernel, rfl, by decide +kernel, by decide +kernel⟩
def spWant (K : PySem.W.Frag) (C : Addr) : Sp := fun vs H Q E => ∃ x b, vs = [x] ∧ Asked K H x b ∧ (b = true → ∀ H', Same H H' → Q .non H') ∧ (b = false → ∀ H', Same H H' → E (.ref C) none H')
section
variable {P : Program} {w : World} {K : PySem.W.Frag} {mg : Str → Option Value} {base : Heap} {C : Addr}
theorem ok_want {f fP : Addr} {fd fdP : FuncData} {k : Nat} (F : Fun K "want_picture" "want_picture" sWant f fd) (N : Tn K mg C) (GP : FnOk P w K mg base CX0 (k + 1) fP fdP ["thing"] (spIsPic K)) (mP : mg "is_picture" = some (.ref fP)) (kP : PySem.W.keepIn K (.ref fP) = true) (bP : Binds K fdP ["thing"] []) :
    FnOk P w K mg base (L2.CX P w) (k + 2) f fd ["thing"] (spWant K C) := by
  refine F.okX scWant (fun vs H Q E h => ?_) (fun cdv A outer s H vs Q E hr h => ?_)
  · obtain ⟨x, b, rfl, _⟩ := h
    rfl
  · obtain ⟨x, b, rfl, ask, q1, q2⟩ := h
    refine ⟨_, pss_one (ps_if (pt_not (pt_val (pe_call GP hr (by rfl) mP kP bP .nil pass0 (pa_cons (pv 0) pa_nil)))) (pss_one (ps_raise rfl (takes_of rfl rfl rfl rfl) (pmk_own PySem.F.excBase_ValueError N.x N.g N.k (raises_own N.b N.t) rfl))) pss_nil), ?_⟩
    refine ⟨x, rfl, x, b, rfl, ask, fun H' sm => ⟨_, rfl, ?_⟩⟩
    cases b with
    | true => exact iteF (q1 rfl H' sm)
    | false => exact iteT (q2 rfl H' sm)
end
end Dt
namespace Dt
open PySem PySem.Spec PyProof.Rows L2 L2X
open SX (S)
theorem pss_never {X : Cx} {st : List Stmt} : PSs X st (fun _ _ _ => False) := ⟨fun _ _ _ _ _ _ h => h.elim⟩
theorem pg_never {X : Cx} {tg : Expr} : PG X tg (fun _ _ _ _ => False) := ⟨fun _ _ _ _ _ _ _ _ _ h => h.elim⟩
abbrev sSize : Stmt := topS 25
theorem scSize : FnScope ["picture"] ["picture"] (defScope sSize) := ⟨rfl, rfl, rfl, by decide +kernel, rfl, by decide +kernel, by decide +kernel⟩
/-- size of a picture, or of what is none -/
def spSize (K : PySem.W.Frag) (C : Addr) : Sp := fun vs H Q E => ∃ x, vs = [x] ∧ ((Asked K H x false ∧ ∀ H', Same H H' → E (.ref C) none H') ∨
  ∃ a xs, x = .ref a ∧ SqT K H a xs ∧ (∀ y ∈ xs, Kn K H y) ∧ picOk xs = true ∧ ∀ p H', Same H H' → H p = none → H' p = some (.tup [.int (xs.length : Int), .int (lenV (xs.headD .non))]) → Q (.ref p) H')
theorem Asked.same {K : PySem.W.Frag} {H H' : Hp} {x : V} {b : Bool} (h : Asked K H x b) (s : Same H H') : Asked K H' x b := by
  rcases h with ⟨T, t, ok, ne, e⟩ | ⟨a, xs, e, h1, h2, e2⟩
  · refine .inl ⟨T, ?_, ok, ne, e⟩
    cases t with
    | non => exact .non
    | bl b => exact .bl b
    | int i => exact .int i
    | str x => exact .str x
    | byt b => exact .byt b
    | lst h => exact .lst (s.seq h)
    | tup h => exact .tup (sameT s h)
    | dK h => exact .dK (s _ _ h)
  · exact .inr ⟨a, xs, e, sameT s h1, fun l y hy => (h2 l y hy).same s, e2⟩
section
variable {P : Program} {w : World} {K : PySem.W.Frag} {mg : Str → Option Value} {base : Heap} {C : Addr}
/-- want_picture, and whoever calls it first -/
structure GW (P : Program) (w : World) (K : PySem.W.Frag) (mg : Str → Option Value) (base : Heap) (C : Addr) (k : Nat) : Prop where
  ex : ∃ f fd, FnOk P w K mg base (L2.CX P w) k f fd ["thing"] (spWant K C) ∧ mg "want_picture" = some (.ref f) ∧ PySem.W.keepIn K (.ref f) = true ∧ Binds K fd ["thing"] []
structure GS (P : Program) (w : World) (K : PySem.W.Frag) (mg : Str → Option Value) (base : Heap) (C : Addr) (k : Nat) : Prop where
  ex : ∃ f fd, FnOk P w K mg base (L2.CX P w) k f fd ["picture"] (spSize K C) ∧ mg "size" = some (.ref f) ∧ PySem.W.keepIn K (.ref f) = true ∧ Binds K fd ["picture"] []
theorem ok_size {f : Addr} {fd : FuncData} {k : Nat} (F : Fun K "size" "size" sSize f fd) (X : Tx mg) (G : GW P w K mg base C (k + 1)) : FnOk P w K mg base (L2.CX P w) (k + 2) f fd ["picture"] (spSize K C) := by
  obtain ⟨fW, fdW, GW, mW, kW, bW⟩ := G.ex
  refine F.okX scSize (fun vs H Q E h => ?_) (fun cdv A outer s H vs Q E hr h => ?_)
  · obtain ⟨x, rfl, _⟩ := h
    rfl
  · obtain ⟨x, rfl, h⟩ := h
    refine ⟨_, pss_cons (ps_expr (pe_callS GW hr (by rfl) mW kW bW (fun σ => passAt (takes_of rfl rfl rfl rfl) σ) (pa_cons (pv 0) pa_nil)))
      (pss_one (ps_ret (pe_tup (pa_cons (pe_callB call_len_seq (by rfl) X.len PySem.boot_len (pa_cons (pv 0) pa_nil)) (pa_cons (pe_callB call_len_str (by rfl) X.len PySem.boot_len (pa_cons (pe_ix (r := rIxT K) ix_tup (pv 0) pe_int (fun _ _ => rfl)) pa_nil)) pa_nil))))), ?_⟩
    rcases h with ⟨ask, q⟩ | ⟨a, xs, rfl, hx, kn, ok, q⟩
    · exact ⟨x, rfl, x, false, rfl, ask, (fun e => nomatch e), fun _ H' sm => q H' sm⟩
    · refine ⟨.ref a, rfl, .ref a, true, rfl, .inr ⟨a, xs, rfl, hx, fun _ => kn, ok.symm⟩, fun _ H' sm => ?_, fun e => nomatch e⟩
      have hx' := sameT sm hx
      unfold picOk at ok
      rw [Bool.and_eq_true, Bool.and_eq_true, Bool.and_eq_true] at ok
      obtain ⟨⟨⟨o1, o2⟩, o3⟩, o4⟩ := ok
      cases xs with
      | nil => exact absurd (of_decide_eq_true o1) (by decide)
      | cons x0 r =>
        have hk := List.all_eq_true.mp o3 x0 List.mem_cons_self
        cases x0 with
        | str z =>
          have hz := (kn _ List.mem_cons_self).2 z rfl
          refine ⟨.ref a, rfl, a, _, rfl, .inr hx', .ref a, rfl, a, _, 0, .str z, rfl, rfl, hx', atI_nat (j := 0) rfl, z, rfl, hz, by show 2 ≤ sizeLine; decide, fun p hp => ?_⟩
          exact q p _ (sm.trans (same_upd hp)) (sm.free hp) upd_same
        | _ => cases hk
end
theorem upd_at2 {H : Hp} {p : Addr} {o : HO} : (upd H p o) p = some o := upd_same
theorem kn_str2 {K : PySem.W.Frag} {H : Hp} {z : Str} (h : z.length ≤ sizeLine) : Kn K H (.str z) := ⟨⟨"str", .str z, rfl⟩, fun y e => by cases e; exact h⟩
theorem kn_rows {K : PySem.W.Frag} {H : Hp} {high wide : Nat} {rs : List (List Nat)} (h : PicR high wide rs) : ∀ y ∈ rs.map rv, Kn K H y := by
  intro y hy
  obtain ⟨x, hx, rfl⟩ := List.mem_map.mp hy
  refine kn_str2 ?_
  show x.length ≤ sizeLine
  have := (h.row x hx).len
  have := h.w1
  exact Nat.le_of_lt (small1000 (by omega))
theorem askPic {K : PySem.W.Frag} {H : Hp} {high wide : Nat} {rs : List (List Nat)} {a : Addr} (h : PicR high wide rs) (e : H a = some (.tup (rs.map rv))) : Asked K H (.ref a) true :=
  .inr ⟨a, _, rfl, SqT.of e, fun _ => kn_rows h, (picOk_pic h).symm⟩
theorem picSize {high wide : Nat} {rs : List (List Nat)} (h : PicR high wide rs) : (((rs.map rv).length : Nat) : Int) = (high : Int) ∧ lenV ((rs.map rv).headD .non) = (wide : Int) := by
  refine ⟨by rw [List.length_map, h.len], ?_⟩
  cases rs with
  | nil =>
    have h1 := h.len
    have h2 := h.h0
    simp at h1
    omega
  | cons l r =>
    have e := (h.row l List.mem_cons_self).len
    show lenV (rv l) = _
    unfold rv
    rw [lenV_S, e]
end Dt
/-! zip of two and enumerate, over any of a list, a tuple, a text -/
namespace L2X
open PySem PySem.Spec PyProof.Rows L2
inductive Src
  | lst (a : Addr)
  | tup (a : Addr)
  | txt (z : Str)
def chars (z : Str) : List V := z.cps.toList.map fun c => V.str ⟨#[c]⟩
/-- what stands in it -/
def Src.has (K : PySem.W.Frag) (H : Hp) : Src → List V → Prop
  | .lst a, xs => SqL K H a xs
  | .tup a, xs => SqT K H a xs
  | .txt z, xs => xs = chars z
def Src.val : Src → V
  | .lst a => .ref a
  | .tup a => .ref a
  | .txt z => .str z
/-- its iterator at its i-th item -/
def Src.it (it : Addr) (i : Nat) (h : Heap) : Src → Prop
  | .lst a => h.IsListIter it a i
  | .tup a => h.IsTupleIter it a i
  | .txt z => ∃ t, h.IsStrIter it (strIterType z) z t i
def Src.off (c : Addr) : Src → Prop
  | .lst a => a ≠ c
  | .tup a => a ≠ c
  | .txt _ => True
theorem Src.it_obj {S : Src} {it : Addr} {i : Nat} {h : Heap} (e : S.it it i h) : ∃ o, h.get? it = some o ∧ ∀ v, o.data ≠ .cell v := by
  cases S with
  | lst a =>
    obtain ⟨o, e1, _, d⟩ := e
    exact ⟨o, e1, fun v q => by rw [d] at q; cases q⟩
  | tup a =>
    obtain ⟨o, e1, _, d⟩ := e
    exact ⟨o, e1, fun v q => by rw [d] at q; cases q⟩
  | txt z =>
    obtain ⟨t, o, e1, _, d⟩ := e
    exact ⟨o, e1, fun v q => by rw [d] at q; cases q⟩
theorem Src.it_at {S : Src} {it : Addr} {i : Nat} {h h' : Heap} (e : S.it it i h) (k : ∀ o, h.get? it = some o → h'.get? it = some o) : S.it it i h' := by
  cases S with
  | lst a => exact Heap.IsListIter.at e k
  | tup a => exact Heap.IsTupleIter.at e k
  | txt z =>
    obtain ⟨t, o, e1, e2, d⟩ := e
    exact ⟨t, o, k _ e1, e2, d⟩
section
variable {X : Cx} {pins : List (Addr × Obj)} {σ : L2.St} {H : Hp} {s : Shared}
theorem Src.inj {S : Src} {xs ys : List V} (I : Inv X pins σ H s) (h : S.has X.K H xs) (h' : S.has X.K H ys) : xs = ys := by
  cases S with
  | lst a => exact I.list_inj h h'
  | tup a => exact I.tuple_inj h h'
  | txt z => exact Eq.trans h (Eq.symm h')
/-- what its iterator draws, now -/
theorem Src.draws {S : Src} {xs : List V} {it : Addr} {i : Nat} {A : Around} (I : Inv X pins σ H s) (hh : A.handled = none) (h : S.has X.K H xs) (st : S.it it i s.heap) (off : S.off it) :
    ∃ (fp : List Addr) (P : Nat → Value → Prop) (St : Nat → Heap → Prop), Draws X.prog X.w A it fp xs.length P St ∧ St i s.heap ∧ it ∈ fp ∧ (∀ c, c ≠ it → S.off c → c ∉ fp) ∧ (∀ j v, P j v → ∃ x, xs[j]? = some x ∧ RelV x v) ∧ (∀ j h, St j h → S.it it j h) := by
  cases S with
  | lst a =>
    obtain ⟨its, rv, p, _⟩ := I.list h
    have el : its.toArray.size = xs.length := by rw [rv.length]; simp
    rw [← el]
    refine ⟨[it, a], _, _, Draws.list hh it a off its.toArray, ⟨st, p.isList⟩, by simp, fun c hc ho hm => ?_, fun j v hv => ?_, fun j h e => e.1⟩
    · have e' : c = it ∨ c = a := by simpa using hm
      rcases e' with e' | e'
      · exact hc e'
      · exact ho e'.symm
    · have hv' : its[j]? = some v := by simpa using hv
      have hj : j < xs.length := by
        rw [← el]
        have := (List.getElem?_eq_some_iff.mp hv').1
        simpa using this
      obtain ⟨u, hu, ru⟩ := rv.get (List.getElem?_eq_getElem hj)
      rw [hv'] at hu
      cases hu
      exact ⟨_, List.getElem?_eq_getElem hj, ru⟩
  | tup a =>
    obtain ⟨its, rv, p, _⟩ := I.tuple h
    have el : its.toArray.size = xs.length := by rw [rv.length]; simp
    rw [← el]
    refine ⟨[it, a], _, _, Draws.tuple hh it a off its.toArray, ⟨st, p⟩, by simp, fun c hc ho hm => ?_, fun j v hv => ?_, fun j h e => e.1⟩
    · have e' : c = it ∨ c = a := by simpa using hm
      rcases e' with e' | e'
      · exact hc e'
      · exact ho e'.symm
    · have hv' : its[j]? = some v := by simpa using hv
      have hj : j < xs.length := by
        rw [← el]
        have := (List.getElem?_eq_some_iff.mp hv').1
        simpa using this
      obtain ⟨u, hu, ru⟩ := rv.get (List.getElem?_eq_getElem hj)
      rw [hv'] at hu
      cases hu
      exact ⟨_, List.getElem?_eq_getElem hj, ru⟩
  | txt z =>
    obtain ⟨t, st⟩ := st
    have hx : xs = chars z := h
    have el : z.cps.size = xs.length := by rw [hx]; simp [chars]
    rw [← el]
    refine ⟨[it], _, _, Draws.text hh it z t, st, by simp, fun c hc _ hm => hc (by simpa using hm), fun j v hv => ?_, fun j h e => ⟨t, e⟩⟩
    obtain ⟨c, u, e1, rfl⟩ := hv
    refine ⟨.str ⟨#[c]⟩, ?_, _, rfl⟩
    rw [hx]
    unfold chars
    rw [List.getElem?_map, Array.getElem?_toList, e1]
    rfl
/-- two things at each turn, in new pairs -/
def ItzG (K : PySem.W.Frag) (A B : Src) : It :=
  ⟨fun i H => ∃ (xs ys : List V) (x y : V), A.has K H xs ∧ B.has K H ys ∧ xs[i]? = some x ∧ ys[i]? = some y,
    fun i H v H' => ∃ T x y, v = .ref T ∧ H T = none ∧ H' = upd H T (.tup [x, y]) ∧ (∀ xs, A.has K H xs → xs[i]? = some x) ∧ ∀ ys, B.has K H ys → ys[i]? = some y,
    fun i H => ∃ xs ys : List V, A.has K H xs ∧ B.has K H ys ∧ (xs.length = i ∧ i ≤ ys.length ∨ ys.length = i ∧ i ≤ xs.length)⟩
structure Apart5 (A B : Src) (z TI TO i1 i2 : Addr) : Prop where
  TIz : TI ≠ z
  TOz : TO ≠ z
  i1z : i1 ≠ z
  i2z : i2 ≠ z
  TITO : TI ≠ TO
  TIi1 : TI ≠ i1
  TIi2 : TI ≠ i2
  TOi1 : TO ≠ i1
  TOi2 : TO ≠ i2
  i12 : i1 ≠ i2
  az : A.off z
  aT : A.off TO
  a1 : A.off i1
  a2 : A.off i2
  bz : B.off z
  bT : B.off TO
  b1 : B.off i1
  b2 : B.off i2
theorem turn_zipG {P : Program} {w : World} {K : PySem.W.Frag} {elts : List Expr} {kk : Nat} {tpos : Pos} {A B : Src} {z TI TO i1 i2 : Addr} (D : Apart5 A B z TI TO i1 i2) :
    Turn P w K (.Tuple elts kk tpos) (ItzG K A B) [z, TI, TO, i1, i2] z (fun i h => IsZip h z TI TO .none ∧ IsTupOf2 h TI (.ref i1) (.ref i2) ∧ (∃ x y, IsTupOf2 h TO x y) ∧ A.it i1 i h ∧ B.it i2 i h) where
  mem := by simp
  obj := fun i h st c hc => by
    obtain ⟨hz, hTI, ⟨x, y, hTO⟩, h1, h2⟩ := st
    have e' : c = z ∨ c = TI ∨ c = TO ∨ c = i1 ∨ c = i2 := by simpa using hc
    rcases e' with q | q | q | q | q
    · rw [q]; exact ⟨_, hz, fun v q => nomatch q⟩
    · rw [q]; exact ⟨_, hTI, fun v q => nomatch q⟩
    · rw [q]; exact ⟨_, hTO, fun v q => nomatch q⟩
    · rw [q]; exact Src.it_obj h1
    · rw [q]; exact Src.it_obj h2
  keep := fun i h h' st k => by
    obtain ⟨hz, hTI, ⟨x, y, hTO⟩, h1, h2⟩ := st
    exact ⟨k z (by simp) _ hz, k TI (by simp) _ hTI, ⟨x, y, k TO (by simp) _ hTO⟩, Src.it_at h1 fun o q => k i1 (by simp) o q, Src.it_at h2 fun o q => k i2 (by simp) o q⟩
  item := by
    intro X hP hw hK hc i pins s σ H E I hf st hg
    subst hP hw hK
    obtain ⟨hz, hTI, ⟨x0, y0, hTO⟩, h1, h2⟩ := st
    obtain ⟨xs, ys, x, y, hqx, hqy, hx, hy⟩ := hg
    obtain ⟨f1, P1, S1, D1, s1, m1, o1, p1, t1⟩ := Src.draws (A := X.A.in1) I (I.ok.hd hc) hqx h1 D.a1
    obtain ⟨f2, P2, S2, D2, s2, m2, o2, p2, t2⟩ := Src.draws (A := X.A.in1) I (I.ok.hd hc) hqy h2 D.b2
    have sep : ZipSep2 z TI TO i1 i2 f1 f2 := ⟨D.TIz, D.TOz, D.TITO, D.TIi1, m1, o1 _ D.i1z.symm D.az, o1 _ D.TOi1 D.aT, D.TIi2, m2, o2 _ D.i2z.symm D.bz, o2 _ D.TOi2 D.bT, o2 _ D.i12 D.b1, o1 _ D.i12.symm D.a2⟩
    have hzl : z < s.heap.objs.size := Heap.lt_size hz
    refine wpAny_pyNext_zipD2_item sep D1 D2 hz hTI hTO s1 s2 (List.getElem?_eq_some_iff.mp hx).1 (List.getElem?_eq_some_iff.mp hy).1 fun u u2 h' tk q1 q2 z' TO' h1' h2' hT hsz hk => ?_
    obtain ⟨x', ex, ru⟩ := p1 _ _ q1
    rw [hx] at ex
    cases ex
    obtain ⟨y', ey, ru2⟩ := p2 _ _ q2
    rw [hy] at ey
    cases ey
    refine ⟨_, rfl, wpAny_letOwnedTupleGo_zip (s := { s with heap := h', toks := tk }) z' fun h'' z'' sb => ?_⟩
    have hT2 : h''.get? s.heap.objs.size = some { cls := .type "tuple", data := .seq #[u, u2] } := (sb.2 _ (Nat.ne_of_gt hzl)).trans hT
    have new : ObjOk X.prog X.w (upd H s.heap.objs.size (.tup [x, y])) h'' s.heap.objs.size (.tup [x, y]) :=
      ⟨by show 2 ≤ sizeLine; decide, [u, u2], .cons ru (.cons ru2 .nil), ⟨_, hT2, rfl, _, rfl⟩⟩
    have I1 : Inv X pins σ (upd H s.heap.objs.size (.tup [x, y])) { s with heap := h'', toks := tk } :=
      I.turnedNew (t' := tk) (ch := [z, TI, TO, i1, i2]) (fun c o hb q => (sb.2 c (fun q' => hb (by simp [q']))).trans (hk c o (fun q' => hb (by simp [q'])) (fun q' => hb (by simp [q'])) (fun q' => hb (by simp [q'])) (fun q' => hb (by simp [q'])) q)) hf (Nat.le_refl _) new
    refine ⟨.ref s.heap.objs.size, _, I1, rfl, ⟨_, x, y, rfl, I.hok.fresh (Nat.le_refl _), rfl, fun l hl => by rw [Src.inj I hl hqx]; exact hx, fun l hl => by rw [Src.inj I hl hqy]; exact hy⟩, ⟨z'', ?_, ⟨u, u2, ?_⟩, ?_, ?_⟩, fun c hcm => ?_⟩
    · exact (sb.2 _ D.TIz).trans (hk _ _ D.TIz D.TITO D.TIi1 D.TIi2 hTI)
    · exact (sb.2 _ D.TOz).trans TO'
    · exact Src.it_at (t1 _ _ h1') fun o q => (sb.2 _ D.i1z).trans q
    · exact Src.it_at (t2 _ _ h2') fun o q => (sb.2 _ D.i2z).trans q
    · have hlt : c < s.heap.objs.size := by
        have e' : c = z ∨ c = TI ∨ c = TO ∨ c = i1 ∨ c = i2 := by simpa using hcm
        rcases e' with q | q | q | q | q
        · rw [q]; exact hzl
        · rw [q]; exact Heap.lt_size hTI
        · rw [q]; exact Heap.lt_size hTO
        · rw [q]; obtain ⟨_, e1, _⟩ := Src.it_obj h1; exact Heap.lt_size e1
        · rw [q]; obtain ⟨_, e2, _⟩ := Src.it_obj h2; exact Heap.lt_size e2
      rw [upd_ne (Nat.ne_of_lt hlt)]
      exact (hf c hcm).1
  done := by
    intro X hP hw hK hc i pins s σ H E I hf st hg
    subst hP hw hK
    obtain ⟨hz, hTI, ⟨x0, y0, hTO⟩, h1, h2⟩ := st
    obtain ⟨xs, ys, hqx, hqy, hend⟩ := hg
    obtain ⟨f1, P1, S1, D1, s1, m1, o1, p1, t1⟩ := Src.draws (A := X.A.in1) I (I.ok.hd hc) hqx h1 D.a1
    obtain ⟨f2, P2, S2, D2, s2, m2, o2, p2, t2⟩ := Src.draws (A := X.A.in1) I (I.ok.hd hc) hqy h2 D.b2
    have sep : ZipSep2 z TI TO i1 i2 f1 f2 := ⟨D.TIz, D.TOz, D.TITO, D.TIi1, m1, o1 _ D.i1z.symm D.az, o1 _ D.TOi1 D.aT, D.TIi2, m2, o2 _ D.i2z.symm D.bz, o2 _ D.TOi2 D.bT, o2 _ D.i12 D.b1, o1 _ D.i12.symm D.a2⟩
    exact wpAny_pyNext_zipD2_end sep D1 D2 hz hTI hTO s1 s2 (by omega) (by omega) (by omega) fun h' tk hk => ⟨rfl, I.turnedL (t' := tk) (ch := [z, TI, TO, i1, i2]) (fun c o hb q =>
      hk c o (fun q' => hb (by simp [q'])) (fun q' => hb (by simp [q'])) (fun q' => hb (by simp [q'])) (fun q' => hb (by simp [q'])) q) hf⟩
  self := fun A i s Q E st h => wpAny_pyIter_zip st.1 h
/-- how a source begins -/
theorem Src.begins {S : Src} {xs : List V} {u : Value} (I : Inv X pins σ H s) (h : S.has X.K H xs) (r : RelV S.val u) : ∃ (o : Obj) (Hh : Heap → Prop), Begins u o Hh ∧ Hh s.heap ∧ (∀ (h' : Heap) (it : Addr), h'.get? it = some o → S.it it 0 h') ∧ ∀ c, s.heap.objs.size ≤ c → S.off c := by
  cases S with
  | lst a =>
    cases r
    obtain ⟨its, rv, p, _⟩ := I.list h
    exact ⟨_, _, begins_list a its.toArray, p.isList, fun h' it e => ⟨_, e, rfl, rfl⟩, fun c hc => Nat.ne_of_lt (Nat.lt_of_lt_of_le p.lt hc)⟩
  | tup a =>
    cases r
    obtain ⟨its, rv, p, _⟩ := I.tuple h
    obtain ⟨o, e, _⟩ := id p
    exact ⟨_, _, begins_tuple a its.toArray, p, fun h' it e => ⟨_, e, rfl, rfl⟩, fun c hc => Nat.ne_of_lt (Nat.lt_of_lt_of_le (Heap.lt_size e) hc)⟩
  | txt z =>
    obtain ⟨t, rfl⟩ := r
    exact ⟨_, _, begins_text z t, trivial, fun h' it e => ⟨t, _, e, rfl, rfl⟩, fun _ _ => trivial⟩
theorem ap_ne (N a b : Nat) (h : a ≠ b) : N + a ≠ N + b := by omega
theorem apart5_new {A B : Src} {N : Nat} (f1 : ∀ c, N ≤ c → A.off c) (f2 : ∀ c, N ≤ c → B.off c) : Apart5 A B (N + 4) (N + 2) (N + 3) N (N + 1) :=
  ⟨ap_ne N 2 4 (by decide), ap_ne N 3 4 (by decide), ap_ne N 0 4 (by decide), ap_ne N 1 4 (by decide), ap_ne N 2 3 (by decide), ap_ne N 2 0 (by decide), ap_ne N 2 1 (by decide), ap_ne N 3 0 (by decide), ap_ne N 3 1 (by decide), ap_ne N 0 1 (by decide),
    f1 _ (Nat.le_add_right _ _), f1 _ (Nat.le_add_right _ _), f1 _ (Nat.le_refl _), f1 _ (Nat.le_add_right _ _), f2 _ (Nat.le_add_right _ _), f2 _ (Nat.le_add_right _ _), f2 _ (Nat.le_refl _), f2 _ (Nat.le_add_right _ _)⟩
def iZipG (K : PySem.W.Frag) (ta : TA) : TI := fun σ H R => ta σ H fun vs H1 => ∃ (A B : Src) (xs ys : List V), vs = [A.val, B.val] ∧ A.has K H1 xs ∧ B.has K H1 ys ∧ R (ItzG K A B) H1
theorem pi_zipG {X : Cx} {e e2 : Expr} {ta : TA} {p pos tpos : Pos} {elts : List Expr} {kk : Nat} (hg : Gl X "zip") (hm : X.mg "zip" = none) (ha : PA X [e, e2] ta)
    (hs : starEach [e, e2] X.env = (false, eval e X.env) :: starEach [e2] X.env := by rfl) (hpl : (backTo pos (starEach [e2] X.env)).any (·.1) = false := by rfl) :
    PI X (.Tuple elts kk tpos) (.Call (.Name "zip" p) [e, e2] [] pos) (iZipG X.K ta) := by
  refine ⟨fun pins s σ H R I h => ?_⟩
  refine Call_ (ld_blt I hg hm PyProof.Rows.boot_zip (PyProof.Rows.callWith_type1 (thn (ha.run pos pins s σ H _ I h) fun us s1 ⟨vs, H1, I1, r1, q1⟩ => ?_) hs hpl))
  obtain ⟨A, B, xs, ys, ex, ha1, hb1, q⟩ := q1
  subst ex
  cases r1 with
  | cons r rr =>
    cases rr with
    | cons r' rr =>
      cases rr
      obtain ⟨o1, G1, B1, g1, n1, f1⟩ := Src.begins I1 ha1 r
      obtain ⟨o2, G2, B2, g2, n2, f2⟩ := Src.begins I1 hb1 r'
      refine zip_begins2 B1 B2 g1 g2 fun h' hz hTI hTO e1 e2 hsz hk => wpAny_pyIter_zip hz ?_
      have I2 : Inv X pins σ H1 { s1 with heap := h' } := I1.kept (t' := s1.toks) hk
      have ap : Apart5 A B (s1.heap.objs.size + 4) (s1.heap.objs.size + 2) (s1.heap.objs.size + 3) s1.heap.objs.size (s1.heap.objs.size + 1) :=
        apart5_new f1 f2
      refine ⟨s1.heap.objs.size + 4, [s1.heap.objs.size + 4, s1.heap.objs.size + 2, s1.heap.objs.size + 3, s1.heap.objs.size, s1.heap.objs.size + 1], _, _, H1, rfl, I2, turn_zipG ap, ⟨hz, hTI, ⟨_, _, hTO⟩, n1 _ _ e1, n2 _ _ e2⟩, fun c hcm => ?_, q⟩
      have e' : c = s1.heap.objs.size + 4 ∨ c = s1.heap.objs.size + 2 ∨ c = s1.heap.objs.size + 3 ∨ c = s1.heap.objs.size ∨ c = s1.heap.objs.size + 1 := by simpa using hcm
      have hle : s1.heap.objs.size ≤ c := by
        rcases e' with z | z | z | z | z
        · rw [z]; exact Nat.le_add_right _ _
        · rw [z]; exact Nat.le_add_right _ _
        · rw [z]; exact Nat.le_add_right _ _
        · rw [z]; exact Nat.le_refl _
        · rw [z]; exact Nat.le_add_right _ _
      exact I1.fpOk hle (I1.hok.fresh hle)
/-! ### enumerate -/
def IteG (K : PySem.W.Frag) (A : Src) : It :=
  ⟨fun i H => ∃ (xs : List V) (x : V), A.has K H xs ∧ xs[i]? = some x, fun i H v H' => ∃ T x, v = .ref T ∧ H T = none ∧ H' = upd H T (.tup [.int (i : Nat), x]) ∧ ∀ xs, A.has K H xs → xs[i]? = some x, fun i H => ∃ xs : List V, A.has K H xs ∧ xs.length = i⟩
theorem turn_enumG {P : Program} {w : World} {K : PySem.W.Frag} {elts : List Expr} {kk : Nat} {tpos : Pos} {A : Src} {e it : Addr} (hne : e ≠ it) (oe : A.off e) (oi : A.off it) :
    Turn P w K (.Tuple elts kk tpos) (IteG K A) [e, it] e (fun i h => (∃ old, IsEnum h e it ((i : Nat) : Int) old) ∧ A.it it i h) where
  mem := by simp
  obj := fun i h st b hb => by
    obtain ⟨⟨old, he⟩, hi⟩ := st
    have e' : b = e ∨ b = it := by simpa using hb
    rcases e' with z | z
    · rw [z]; exact ⟨_, he, fun v q => nomatch q⟩
    · rw [z]; exact Src.it_obj hi
  keep := fun i h h' st k => let ⟨⟨old, he⟩, hi⟩ := st; ⟨⟨old, k e (by simp) _ he⟩, Src.it_at hi fun o q => k it (by simp) o q⟩
  item := by
    intro X hP hw hK hc i pins s σ H E I hf st hg
    subst hP hw hK
    obtain ⟨⟨old, he⟩, hit⟩ := st
    obtain ⟨xs, x, hq, hx⟩ := hg
    obtain ⟨f1, P1, S1, D1, s1, m1, o1, p1, t1⟩ := Src.draws (A := X.A.in1) I (I.ok.hd hc) hq hit oi
    have hel : e < s.heap.objs.size := Heap.lt_size he
    have hil : it < s.heap.objs.size := by obtain ⟨_, q, _⟩ := Src.it_obj hit; exact Heap.lt_size q
    refine wpAny_pyNext_enum_itemD D1 he s1 (List.getElem?_eq_some_iff.mp hx).1 hne (o1 _ hne oe) fun u h' tk q1 ho hit' hT hsz hk => ?_
    obtain ⟨x', ex, ru⟩ := p1 _ _ q1
    rw [hx] at ex
    cases ex
    refine ⟨_, rfl, wpAny_letOwnedTupleGo_enum (s := { s with heap := h', toks := tk + 1 }) ho fun h'' he' sb => ?_⟩
    have hT2 : h''.get? s.heap.objs.size = some { cls := .type "tuple", data := .seq #[.int i tk, u] } := (sb.2 _ (Nat.ne_of_gt hel)).trans hT
    have new : ObjOk X.prog X.w (upd H s.heap.objs.size (.tup [.int (i : Nat), x])) h'' s.heap.objs.size (.tup [.int (i : Nat), x]) :=
      ⟨by show 2 ≤ sizeLine; decide, [.int i tk, u], .cons ⟨_, rfl⟩ (.cons ru .nil), ⟨_, hT2, rfl, _, rfl⟩⟩
    have I1 : Inv X pins σ (upd H s.heap.objs.size (.tup [.int (i : Nat), x])) { s with heap := h'', toks := tk + 1 } :=
      I.turnedNew (t' := tk + 1) (ch := [e, it]) (fun b ob hb q => (sb.2 b (fun z => hb (by simp [z]))).trans (hk b ob (fun z => hb (by simp [z])) (fun z => hb (by simp [z])) q)) hf (Nat.le_refl _) new
    refine ⟨.ref s.heap.objs.size, _, I1, rfl, ⟨_, x, rfl, I.hok.fresh (Nat.le_refl _), rfl, fun ys hy => by rw [Src.inj I hy hq]; exact hx⟩, ⟨⟨u, ?_⟩, Src.it_at (t1 _ _ hit') fun o q => (sb.2 it (Ne.symm hne)).trans q⟩, fun b hb => ?_⟩
    · have e1 : ((i + 1 : Nat) : Int) = (i : Int) + 1 := by omega
      rw [e1]; exact he'
    · have hb' : b < s.heap.objs.size := by
        have e' : b = e ∨ b = it := by simpa using hb
        rcases e' with z | z
        · rw [z]; exact hel
        · rw [z]; exact hil
      rw [upd_ne (Nat.ne_of_lt hb')]
      exact (hf b hb).1
  done := by
    intro X hP hw hK hc i pins s σ H E I hf st hg
    subst hP hw hK
    obtain ⟨⟨old, he⟩, hit⟩ := st
    obtain ⟨xs, hq, hx⟩ := hg
    subst hx
    obtain ⟨f1, P1, S1, D1, s1, m1, o1, p1, t1⟩ := Src.draws (A := X.A.in1) I (I.ok.hd hc) hq hit oi
    obtain ⟨f0, f1', f2, f3, f4, f5⟩ := hf it (by simp)
    exact wpAny_pyNext_enum_endD D1 he s1 fun h' eb => ⟨rfl, I.turned (t' := s.toks) (fun b o hb q => eb b o hb q) f0 f1' f3 f4 f5⟩
  self := fun A i s Q E st h => let ⟨⟨_, he⟩, _⟩ := st; wpAny_pyIter_enum he h
theorem meets_enumerate_new1B {v : Value} {o : Obj} {H : Heap → Prop} (B : Begins v o H) :
    Meets (Builtin.«enumerate.__new__» ⟨[.type "enumerate", v], []⟩) (fun _ R s => H s.heap ∧
      R (.ok (.ret (.ref (s.heap.push o).objs.size))) { s with heap := (s.heap.push o).push { cls := .type "enumerate", data := .fields #[.none, .bool false, .ref s.heap.objs.size, rawInt 0, .none, .none] } }) :=
  .of_wp fun prog w A R s h => by
    obtain ⟨hp, g, d, tk, os⟩ := s; obtain ⟨h1, h⟩ := h
    have hsub := sub_enumerate
    have q1 : ∀ {A' : Around} {E : Value → Shared → Prop} {Q : Value → Shared → Prop}, Q (.ref hp.objs.size) ⟨hp.push o, g, d, tk, os⟩ → wpAny (model prog w) A' (pyIter v) Q E ⟨hp, g, d, tk, os⟩ :=
      fun q => B.iter prog w _ _ ⟨hp, g, d, tk, os⟩ _ h1 q
    wp_walk
    refine wpAny_stack_any fun st => wpAny_pure ?_
    split
    · rename_i c _ _ _ _ _
      cases (c == Value.type "enumerate")
      · wp_walk using q1
        exact ⟨_, rfl, h⟩
      · wp_walk using q1
        exact ⟨_, rfl, h⟩
    · wp_walk using q1
      exact ⟨_, rfl, h⟩
theorem enum_begins1 {prog : Program} {w : World} {A : Around} {E : Value → Shared → Prop} {s : Shared} {v : Value} {o : Obj} {H : Heap → Prop} {Q : Value → Shared → Prop} (B : Begins v o H) (h1 : H s.heap)
    (h : ∀ h', IsEnum h' (s.heap.objs.size + 1) s.heap.objs.size 0 .none → h'.get? s.heap.objs.size = some o → h'.objs.size = s.heap.objs.size + 2 →
      (∀ b o, s.heap.get? b = some o → h'.get? b = some o) → Q (.ref (s.heap.objs.size + 1)) { s with heap := h' }) :
    wpAny (model prog w) A (call (.type "enumerate") [v]) Q E s := by
  refine callType_new F.called_enumerate (by decide) (F.typeCall_enumerate_1 _) (F.newCall_enumerate_1 _) (fun obj => F.args_object_init_2 obj _) F.entry_enumerate_new
    (meets_enumerate_new1B B) ⟨h1, ?_⟩
  have hz : (s.heap.push o).objs.size = s.heap.objs.size + 1 := Heap.size_push ..
  show _ ∧ _
  rw [hz]
  have he : IsEnum ((s.heap.push o).push { cls := .type "enumerate", data := .fields #[.none, .bool false, .ref s.heap.objs.size, rawInt 0, .none, .none] }) (s.heap.objs.size + 1) s.heap.objs.size 0 .none := by
    have := Heap.get?_push_size (s.heap.push o) (o := { cls := .type "enumerate", data := .fields #[.none, .bool false, .ref s.heap.objs.size, rawInt 0, .none, .none] }) rfl
    rw [hz] at this
    exact this
  exact ⟨⟨_, he, rfl⟩, h _ he (Heap.get?_push_of_some _ (Heap.get?_push_size _ B.free)) (by rw [Heap.size_push, hz]) fun b o x => Heap.get?_push_of_some _ (Heap.get?_push_of_some _ x)⟩
def iEnumG (K : PySem.W.Frag) (ta : TA) : TI := fun σ H R => ta σ H fun vs H1 => ∃ (A : Src) (xs : List V), vs = [A.val] ∧ A.has K H1 xs ∧ R (IteG K A) H1
theorem pi_enumG {X : Cx} {e : Expr} {ta : TA} {p pos tpos : Pos} {elts : List Expr} {kk : Nat} (hg : Gl X "enumerate") (hm : X.mg "enumerate" = none) (ha : PA X [e] ta) (hs : starEach [e] X.env = [(false, eval e X.env)] := by rfl) :
    PI X (.Tuple elts kk tpos) (.Call (.Name "enumerate" p) [e] [] pos) (iEnumG X.K ta) := by
  refine ⟨fun pins s σ H R I h => ?_⟩
  refine Call_ (ld_blt I hg hm boot_enumerate (PyProof.Rows.callWith_type1 (thn (ha.run pos pins s σ H _ I h) fun us s1 ⟨vs, H1, I1, r1, q1⟩ => ?_) hs rfl))
  obtain ⟨A, xs, ex, hq, q⟩ := q1
  subst ex
  cases r1 with
  | cons r rr =>
    cases rr
    obtain ⟨o1, G1, B1, g1, n1, f1⟩ := Src.begins I1 hq r
    refine enum_begins1 B1 g1 fun h' he hit hsz hk => wpAny_pyIter_enum he ?_
    have I2 : Inv X pins σ H1 { s1 with heap := h' } := I1.kept (t' := s1.toks) hk
    refine ⟨s1.heap.objs.size + 1, [s1.heap.objs.size + 1, s1.heap.objs.size], _, _, H1, rfl, I2, turn_enumG (Nat.succ_ne_self _) (f1 _ (Nat.le_add_right _ _)) (f1 _ (Nat.le_refl _)), ⟨⟨.none, he⟩, n1 _ _ hit⟩, fun b hb => ?_, q⟩
    have e' : b = s1.heap.objs.size + 1 ∨ b = s1.heap.objs.size := by simpa using hb
    have hle : s1.heap.objs.size ≤ b := by
      rcases e' with z | z
      · rw [z]; exact Nat.le_add_right _ _
      · rw [z]; exact Nat.le_refl _
    exact I1.fpOk hle (I1.hok.fresh hle)
end
end L2X
/-! comprehensions and loops over zip and enumerate of anything -/
namespace L2X
open PySem PySem.Spec PyProof.Rows L2
theorem lc_zipG {K : PySem.W.Frag} {A B : Src} {xs ys : List V} {g : TG} {tt : TT} {te : TE} {vs : List Nat} {σ : L2.St} {H1 : Hp} {D : Addr} {Qd : Hp → Prop} (hn : xs.length = ys.length) (Pv : Nat → Hp → Prop) (h0 : Pv 0 (upd H1 D (.lst []))) (hl : ∀ i H, i ≤ xs.length → Pv i H → A.has K H xs ∧ B.has K H ys)
    (hs : ∀ i x y H T, xs[i]? = some x → ys[i]? = some y → Pv i H → H T = none → g (.ref T) (wipe σ vs) (upd H T (.tup [x, y])) fun σ2 H2 => wipe σ2 vs = wipe σ vs ∧ tt σ2 H2 fun b H3 =>
      if b = true then te σ2 H3 fun z H4 => ∃ acc, H4 D = some (.lst acc) ∧ acc.length < sizeLine ∧ Pv (i + 1) (upd H4 D (.lst (acc ++ [z]))) else Pv (i + 1) H3) (hd : ∀ H, Pv xs.length H → Qd H) :
    ∃ W : Nat → Nat → Hp → Prop, (∃ m, W 0 m (upd H1 D (.lst []))) ∧ ∀ i m H, W i m H →
      ((ItzG K A B).stop i H ∧ Qd H) ∨ ((ItzG K A B).go i H ∧ ∃ Nx : Hp → Prop, (∀ H', Nx H' → ∃ m', m' < m ∧ W (i + 1) m' H') ∧ ∀ x H', (ItzG K A B).yld i H x H' → g x (wipe σ vs) H' fun σ2 H2 => wipe σ2 vs = wipe σ vs ∧ tt σ2 H2 fun b H3 =>
        if b = true then te σ2 H3 fun y H4 => ∃ acc, H4 D = some (.lst acc) ∧ acc.length < sizeLine ∧ Nx (upd H4 D (.lst (acc ++ [y]))) else Nx H3) := by
  refine ⟨fun i m H => m = xs.length - i ∧ i ≤ xs.length ∧ Pv i H, ⟨xs.length, by simp, Nat.zero_le _, h0⟩, ?_⟩
  rintro i m H ⟨rfl, hi, p⟩
  obtain ⟨qx, qy⟩ := hl i H hi p
  by_cases hlt : i < xs.length
  · have hlt2 : i < ys.length := by omega
    have ex : xs[i]? = some xs[i] := List.getElem?_eq_getElem hlt
    have ey : ys[i]? = some ys[i] := List.getElem?_eq_getElem hlt2
    refine .inr ⟨⟨xs, ys, _, _, qx, qy, ex, ey⟩, Pv (i + 1), fun H' p' => ⟨xs.length - (i + 1), by omega, rfl, hlt, p'⟩, fun x H' y => ?_⟩
    obtain ⟨T, u, v, rfl, nT, rfl, z1, z2⟩ := y
    exact hs i u v H T (z1 xs qx) (z2 ys qy) p nT
  · have e : i = xs.length := by omega
    subst e
    exact .inl ⟨⟨xs, ys, qx, qy, .inl ⟨rfl, by omega⟩⟩, hd H p⟩
theorem lc_enumG {K : PySem.W.Frag} {A : Src} {xs : List V} {g : TG} {tt : TT} {te : TE} {vs : List Nat} {σ : L2.St} {H1 : Hp} {D : Addr} {Qd : Hp → Prop} (Pv : Nat → Hp → Prop) (h0 : Pv 0 (upd H1 D (.lst []))) (hl : ∀ i H, i ≤ xs.length → Pv i H → A.has K H xs)
    (hs : ∀ i x H T, xs[i]? = some x → Pv i H → H T = none → g (.ref T) (wipe σ vs) (upd H T (.tup [.int (i : Nat), x])) fun σ2 H2 => wipe σ2 vs = wipe σ vs ∧ tt σ2 H2 fun b H3 =>
      if b = true then te σ2 H3 fun z H4 => ∃ acc, H4 D = some (.lst acc) ∧ acc.length < sizeLine ∧ Pv (i + 1) (upd H4 D (.lst (acc ++ [z]))) else Pv (i + 1) H3) (hd : ∀ H, Pv xs.length H → Qd H) :
    ∃ W : Nat → Nat → Hp → Prop, (∃ m, W 0 m (upd H1 D (.lst []))) ∧ ∀ i m H, W i m H →
      ((IteG K A).stop i H ∧ Qd H) ∨ ((IteG K A).go i H ∧ ∃ Nx : Hp → Prop, (∀ H', Nx H' → ∃ m', m' < m ∧ W (i + 1) m' H') ∧ ∀ x H', (IteG K A).yld i H x H' → g x (wipe σ vs) H' fun σ2 H2 => wipe σ2 vs = wipe σ vs ∧ tt σ2 H2 fun b H3 =>
        if b = true then te σ2 H3 fun y H4 => ∃ acc, H4 D = some (.lst acc) ∧ acc.length < sizeLine ∧ Nx (upd H4 D (.lst (acc ++ [y]))) else Nx H3) := by
  refine ⟨fun i m H => m = xs.length - i ∧ i ≤ xs.length ∧ Pv i H, ⟨xs.length, by simp, Nat.zero_le _, h0⟩, ?_⟩
  rintro i m H ⟨rfl, hi, p⟩
  have qx := hl i H hi p
  by_cases hlt : i < xs.length
  · have ex : xs[i]? = some xs[i] := List.getElem?_eq_getElem hlt
    refine .inr ⟨⟨xs, _, qx, ex⟩, Pv (i + 1), fun H' p' => ⟨xs.length - (i + 1), by omega, rfl, hlt, p'⟩, fun x H' y => ?_⟩
    obtain ⟨T, u, rfl, nT, rfl, z1⟩ := y
    exact hs i u H T (z1 xs qx) p nT
  · have e : i = xs.length := by omega
    subst e
    exact .inl ⟨⟨xs, qx, rfl⟩, hd H p⟩
end L2X
namespace L2X
open PySem PySem.Spec PyProof.Rows L2
theorem eqAt_ty {A : Around} {s : Shared} {a b : String} (ha : tyOk a = true) (hb : tyOk b = true) : SeqAt.EqAt A s (.type a) (.type b) (decide (a = b)) := fun prog w E Q h => by
  unfold eqBool
  refine wpAny_holding ?_
  by_cases e : a = b
  · subst e
    rw [decide_eq_true rfl] at h
    refine wpAny_ite_split (fun _ => ?_) (fun n => absurd (beq_self_eq_true _) n)
    exact wpAny_pure (M := model prog w) (E := E) h
  · rw [decide_eq_false e] at h
    refine wpAny_ite_split (fun q => ?_) (fun _ => ?_)
    · rw [ty_ne e] at q
      cases q
    · have z : wpAny (model prog w) A (compareOp .Eq (.type a) (.type b)) (fun v s' => v = .bool false ∧ s' = s) E s := TypeEq.eq_type_other (tyOk_is ha) (tyOk_is hb) (ty_ne e) ⟨rfl, rfl⟩
      exact wpAny_bind (wpAny_mono z (fun v s' q => by
        obtain ⟨rfl, rfl⟩ := q
        exact wpAny_truthy_bool h) fun _ _ x => x)
def tyIs (a : String) : Value → Bool
  | .type T => decide (T = a)
  | _ => false
def rInTy (K : PySem.W.Frag) : R2 := fun x y H Q => ∃ (a : String) (p : Addr) (ts : List String), x = .ty a ∧ y = .ref p ∧ SqT K H p (ts.map V.ty) ∧ tyOk a = true ∧ ts.all tyOk = true ∧ Q (.bl (ts.any fun t => decide (t = a))) H
theorem vals_tys : ∀ {ts : List String} {us : List Value}, Vals (ts.map V.ty) us → us = ts.map Value.type
  | [], _, .nil => rfl
  | t :: ts, _, .cons r rr => by
    cases (show _ = Value.type t from r)
    rw [vals_tys rr]
    rfl
theorem op_in_ty {X : Cx} : OpR X (compareOp .In) (rInTy X.K) := by
  intro pins s σ H x y v u Q I rx ry h
  obtain ⟨a, p, ts, rfl, rfl, hq, ha, hts, q⟩ := h
  cases ry
  cases (show v = Value.type a from rx)
  obtain ⟨its, r, pl, hz⟩ := I.tuple hq
  have e := vals_tys r
  subst e
  refine SeqAt.in_tupleAt (tyIs a) pl (fun w hw => ?_) ⟨.bl _, H, I, rfl, ?_⟩
  · obtain ⟨t, ht, rfl⟩ : ∃ t, t ∈ ts ∧ w = Value.type t := by
      obtain ⟨t, ht, e⟩ := List.mem_map.mp (show w ∈ ts.map Value.type by simpa using hw)
      exact ⟨t, ht, e.symm⟩
    exact eqAt_ty (List.all_eq_true.mp hts t ht) ha
  · have e : (ts.map Value.type).toArray.any (tyIs a) = ts.any fun t => decide (t = a) := by
      simp [List.any_map]
      rfl
    rw [e]
    exact q
end L2X
namespace Dt
open PySem PySem.Spec PyProof.Rows L2 L2X
/-! ### kinds -/
def isInt : V → Bool
  | .int _ => true
  | _ => false
theorem isInt_ty {K : PySem.W.Frag} {H : Hp} {x : V} {T : String} (t : TyB K H x T) : decide (T = "int") = isInt x := by
  cases t <;> rfl
def betw : V → Int → Int → Bool
  | .int i, lo, hi => decide (lo ≤ i) && decide (i ≤ hi)
  | _, _, _ => false
theorem betw_int (i lo hi : Int) : betw (.int i) lo hi = (decide (lo ≤ i) && decide (i ≤ hi)) := rfl
theorem betw_no {x : V} {lo hi : Int} (h : isInt x = false) : betw x lo hi = false := by
  cases x with
  | int i => cases h
  | _ => rfl
/-- a thing of a known kind -/
def Kt (K : PySem.W.Frag) (H : Hp) (x : V) : Prop := ∃ T, TyB K H x T ∧ tyOk T = true
abbrev sIsNum : Stmt := topS 15
theorem scIsNum : FnScope ["thing"] ["thing"] (defScope sIsNum) := ⟨rfl, rfl, rfl, by decide +kernel, rfl, by decide +kernel, by decide +kernel⟩
def spIsNum (K : PySem.W.Frag) : Sp := fun vs H Q _ => ∃ x, vs = [x] ∧ Kt K H x ∧ Q (.bl (isInt x)) H
abbrev sBetw : Stmt := topS 16
theorem scBetw : FnScope ["thing", "least", "most"] ["thing", "least", "most"] (defScope sBetw) := ⟨rfl, rfl, rfl, by decide +kernel, rfl, by decide +kernel, by decide +kernel⟩
def spBetw (K : PySem.W.Frag) : Sp := fun vs H Q _ => ∃ x lo hi, vs = [x, .int lo, .int hi] ∧ Kt K H x ∧ Q (.bl (betw x lo hi)) H
section
variable {P : Program} {w : World} {K : PySem.W.Frag} {mg : Str → Option Value} {base : Heap}
theorem ok_isNum {f : Addr} {fd : FuncData} {k : Nat} (F : Fun K "is_number" "is_number" sIsNum f fd) (T : Tp mg) (X : Tx mg) : FnOk P w K mg base CX0 (k + 1) f fd ["thing"] (spIsNum K) := by
  refine F.ok scIsNum (fun vs H Q E h => ?_) (fun cdv A outer s H vs Q E hr h => ?_)
  · obtain ⟨x, rfl, _⟩ := h
    rfl
  · obtain ⟨x, rfl, ⟨Ty, ht, ok⟩, q⟩ := h
    refine ⟨_, pss_one (ps_ret (pe_cmpR op_eq_ty (pe_callTy call_type1 (by rfl) T.typ (by decide +kernel) (pa_cons (pv 0) pa_nil)) (pe_bltn (v := .ty "int") (u := .type "int") (by rfl) X.int (by decide +kernel) rfl) (nomark _))), ?_⟩
    refine ⟨x, rfl, x, Ty, rfl, ht, Ty, "int", rfl, rfl, ok, rfl, ?_⟩
    have e : id (decide (Ty = "int")) = isInt x := isInt_ty ht
    rw [e]
    exact q
theorem ok_betw {f fN : Addr} {fd fdN : FuncData} {k : Nat} (F : Fun K "is_between" "is_between" sBetw f fd) (GN : FnOk P w K mg base CX0 (k + 1) fN fdN ["thing"] (spIsNum K)) (mN : mg "is_number" = some (.ref fN)) (kN : PySem.W.keepIn K (.ref fN) = true) (bN : Binds K fdN ["thing"] []) : FnOk P w K mg base CX0 (k + 2) f fd ["thing", "least", "most"] (spBetw K) := by
  refine F.ok scBetw (fun vs H Q E h => ?_) (fun cdv A outer s H vs Q E hr h => ?_)
  · obtain ⟨x, lo, hi, rfl, _⟩ := h
    rfl
  · obtain ⟨x, lo, hi, rfl, kt, q⟩ := h
    refine ⟨_, pss_one (ps_ret (pe_and (pe_call GN hr (by rfl) mN kN bN .nil pass0 (pa_cons (pv 0) pa_nil)) (pe_one (pe_chain op_le op_le (pv 1) (pv 0) (pv 2))))), ?_⟩
    refine ⟨x, rfl, x, rfl, kt, _, rfl, ?_⟩
    cases x with
    | int i =>
      refine iteT ⟨.int lo, rfl, .int i, rfl, lo, i, rfl, rfl, _, rfl, ite2 (fun e => ?_) (fun e => ?_)⟩
      · refine ⟨.int hi, rfl, i, hi, rfl, rfl, ?_⟩
        rw [betw_int, e, Bool.true_and] at q
        exact q
      · rw [betw_int, Bool.eq_false_iff.mpr e, Bool.false_and] at q
        exact q
    | _ => exact iteF q
end
/-! ### is_tuple -/
abbrev sIsTup : Stmt := topS 18
theorem scIsTup : FnScope ["thing", "many"] ["thing", "many"] (defScope sIsTup) := ⟨rfl, rfl, rfl, by decide +kernel, rfl, by decide +kernel, by decide +kernel⟩
def spIsTup (K : PySem.W.Frag) : Sp := fun vs H Q _ => ∃ x n, vs = [x, .int n] ∧ ((∃ T, TyB K H x T ∧ tyOk T = true ∧ T ≠ "tuple" ∧ Q (.bl false) H) ∨ ∃ a xs, x = .ref a ∧ SqT K H a xs ∧ Q (.bl (decide ((xs.length : Int) = n))) H)
section
variable {P : Program} {w : World} {K : PySem.W.Frag} {mg : Str → Option Value} {base : Heap}
theorem ok_isTup {f : Addr} {fd : FuncData} {k : Nat} (F : Fun K "is_tuple" "is_tuple" sIsTup f fd) (T : Tp mg) (X : Tx mg) : FnOk P w K mg base CX0 (k + 1) f fd ["thing", "many"] (spIsTup K) := by
  refine F.ok scIsTup (fun vs H Q E h => ?_) (fun cdv A outer s H vs Q E hr h => ?_)
  · obtain ⟨x, n, rfl, _⟩ := h
    rfl
  · obtain ⟨x, n, rfl, h⟩ := h
    refine ⟨_, pss_one (ps_ret (pe_and (pe_cmpR op_eq_ty (pe_callTy call_type1 (by rfl) T.typ (by decide +kernel) (pa_cons (pv 0) pa_nil)) (pe_bltn (v := .ty "tuple") (u := .type "tuple") (by rfl) X.tuple (by decide +kernel) rfl) (nomark _)) (pe_one (pe_cmpR op_eq (pe_callB call_len_seq (by rfl) X.len PySem.boot_len (pa_cons (pv 0) pa_nil)) (pv 1) (nomark _))))), ?_⟩
    rcases h with ⟨Ty, ht, ok, ne, q⟩ | ⟨a, xs, rfl, hx, q⟩
    · refine ⟨x, rfl, x, Ty, rfl, ht, Ty, "tuple", rfl, rfl, ok, rfl, _, rfl, iteE (decide_eq_false ne) q⟩
    · refine ⟨.ref a, rfl, .ref a, "tuple", rfl, .tup hx, "tuple", "tuple", rfl, rfl, rfl, rfl, _, rfl, iteY (by decide) ?_⟩
      refine ⟨.ref a, rfl, a, xs, rfl, .inr hx, .int n, rfl, rfl, ?_⟩
      have e : decide (V.int (xs.length : Int) = V.int n) = decide ((xs.length : Int) = n) := Bool.eq_iff_iff.mpr ⟨fun h => decide_eq_true (V.int.inj (of_decide_eq_true h)), fun h => decide_eq_true (congrArg V.int (of_decide_eq_true h))⟩
      rw [e]
      exact q
end
end Dt
/-! what many laws share -/
namespace L2X
open PySem PySem.Spec PyProof.Rows L2
theorem PI.or {X : Cx} {tg it : Expr} {w1 w2 : TI} (a : PI X tg it w1) (b : PI X tg it w2) : PI X tg it (fun σ H R => w1 σ H R ∨ w2 σ H R) :=
  ⟨fun pins s σ H R I h => h.elim (a.run pins s σ H R I) (b.run pins s σ H R I)⟩
def rJoinK (K : PySem.W.Frag) : V → List V → Hp → VK → Prop := fun x xs H Q => ∃ a p, ∃ ys : List Str, x = .str a ∧ xs = [.ref p] ∧ (SqL K H p (ys.map V.str) ∨ SqT K H p (ys.map V.str)) ∧ (ys.map (·.length)).sum + ys.length * a.length ≤ 16777216 ∧ Q (.str (Txt.join a ys)) H
theorem pe_joinK {X : Cx} {o e : Expr} {to te : TE} {pos apos : Pos} {K : PySem.W.Frag} (hK : X.K = K) (ho : PE X o to) (he : PE X e te) (hs : starEach [e] X.env = [(false, eval e X.env)] := by rfl) (hbase : attributeBase o "join" X.env (eval o X.env) = eval o X.env := by rfl) (hline : (apos.endLine == pos.line) = true := by rfl) :
    PE X (.Call (.Attribute o "join" apos) [e] [] pos) (tM1 (rJoinK K) to te) := by
  subst hK
  exact pe_join ho he hs hbase hline
end L2X
namespace Dt
open PySem PySem.Spec PyProof.Rows L2 L2X
open SX (S)
def ch (c : Nat) : V := .str ⟨#[c]⟩
structure RowsR (high wide : Nat) (rs : List (List Nat)) : Prop where
  len : rs.length = high
  row : ∀ l ∈ rs, RowR wide l
theorem PicR.rows {high wide : Nat} {rs : List (List Nat)} (h : PicR high wide rs) : RowsR high wide rs := ⟨h.len, h.row⟩
theorem set_getD {ls : List (List Nat)} {r : Nat} {l : List Nat} (h : ls[r]? = some l) : ls.getD r [] = l := by
  rw [List.getD_eq_getElem?_getD, h]
  rfl
theorem getD_at {l : List Nat} {c x : Nat} (h : l[c]? = some x) : l.getD c 0 = x := by
  rw [List.getD_eq_getElem?_getD, h]
  rfl
structure Plc (K : PySem.W.Frag) (H : Hp) (xs : List V) (ps : List (Nat × Nat)) : Prop where
  len : xs.length = ps.length
  at_ : ∀ (i : Nat) (x : V) (p : Nat × Nat), xs[i]? = some x → ps[i]? = some p → ∃ t, x = .ref t ∧ SqT K H t [.int p.1, .int p.2]
theorem Plc.same {K : PySem.W.Frag} {H H' : Hp} {xs : List V} {ps : List (Nat × Nat)} (h : Plc K H xs ps) (s : Same H H') : Plc K H' xs ps :=
  ⟨h.len, fun i x p a b => let ⟨t, e, z⟩ := h.at_ i x p a b; ⟨t, e, sameT s z⟩⟩
theorem chars_row (l : List Nat) : (S l).cps.toList.map (fun c => V.str ⟨#[c]⟩) = l.map ch := by
  unfold S
  rfl
theorem same_over {H0 H : Hp} {a : Addr} {o : HO} (s : Same H0 H) (n : H0 a = none) : Same H0 (upd H a o) := fun b u e => by
  rw [upd_ne (ne_of_none e n)]
  exact s _ _ e
theorem lens_rows (cs : List Nat) : ((cs.map fun c => (⟨#[c]⟩ : Str)).map (·.length)).sum = cs.length := lens_ones cs
theorem join_row (cs : List Nat) : Txt.join "" (cs.map fun c => (⟨#[c]⟩ : Str)) = S cs := join_ones cs
theorem ixN_at {n j : Nat} (hj : j < n) : ixN n (j : Int) = some j := by
  unfold ixN
  rw [if_pos (by omega), if_pos (by omega)]
  simp
theorem chars_S (l : List Nat) : chars (S l) = l.map fun c => V.str ⟨#[c]⟩ := by
  unfold chars S
  simp
theorem sum_ones : ∀ n : Nat, (List.replicate n (1 : Int)).sum = n
  | 0 => rfl
  | n + 1 => by
    rw [List.replicate_succ, List.sum_cons, sum_ones n]
    omega
theorem ch_dec (a b : Nat) : decide (V.str ⟨#[a]⟩ = V.str ⟨#[b]⟩) = decide (a = b) := by
  apply Bool.eq_iff_iff.mpr
  rw [decide_eq_true_iff, decide_eq_true_iff]
  constructor
  · intro h
    have e1 : (⟨#[a]⟩ : Str) = ⟨#[b]⟩ := V.str.inj h
    have e2 : (#[a] : Array Nat) = #[b] := congrArg Str.cps e1
    have e3 : [a] = [b] := congrArg Array.toList e2
    exact (List.cons.inj e3).1
  · intro h
    rw [h]
structure ExN (K : PySem.W.Frag) (mg : Str → Option Value) (nm : Str) (C : Addr) : Prop where
  g : mg nm = some (.ref C)
  x : PySem.W.excIn K C [.type "ValueError", .type "Exception", .type "BaseException", .type "object"] "ValueError.__new__" = true
  k : PySem.W.keepIn K (.ref C) = true
  b : PySem.W.subIn K (.ref C) (.type "BaseException") = some true
  t : PySem.W.typeIn K (.ref C) = some (.type "type")
structure Tz (mg : Str → Option Value) : Prop where
  sum : mg "sum" = none
  zip : mg "zip" = none
theorem tyB_same2 {K : PySem.W.Frag} {H H' : Hp} {x : V} {T : String} (t : TyB K H x T) (s : Same H H') : TyB K H' x T := by
  cases t with
  | non => exact .non
  | bl b => exact .bl b
  | int i => exact .int i
  | str x => exact .str x
  | byt b => exact .byt b
  | lst h => exact .lst (s.seq h)
  | tup h => exact .tup (sameT s h)
  | dK h => exact .dK (s _ _ h)
theorem Kt.same {K : PySem.W.Frag} {H H' : Hp} {x : V} (h : Kt K H x) (s : Same H H') : Kt K H' x := let ⟨T, t, ok⟩ := h; ⟨T, tyB_same2 t s, ok⟩
theorem all_true : ∀ n : Nat, (List.replicate n true).all id = true
  | 0 => rfl
  | n + 1 => by
    rw [List.replicate_succ, List.all_cons, all_true n]
    rfl
theorem kt_int {K : PySem.W.Frag} {H : Hp} (i : Int) : Kt K H (.int i) := ⟨"int", .int i, rfl⟩
theorem kt_bl {K : PySem.W.Frag} {H : Hp} (b : Bool) : Kt K H (.bl b) := ⟨"bool", .bl b, rfl⟩
def rD (l : List Nat) : PyData := .str (S l)
def pD (p : Nat × Nat) : PyData := .tuple [.int p.1, .int p.2]
theorem strOk_row {l : List Nat} (h : ∀ c ∈ l, c = 35 ∨ c = 46) : PyData.strOk (S l) = true := by
  unfold PyData.strOk S
  simp
  intro c hc
  rcases h c hc with z | z <;> (subst z; decide)
theorem lay_rows : ∀ ls : List (List Nat), (∀ l ∈ ls, ∀ c ∈ l, c = 35 ∨ c = 46) → PyData.canLayAll0 (ls.map rD) = true ∧ PyData.depthAll (ls.map rD) ≤ 1
  | [], _ => ⟨by simp [PyData.canLayAll0], by simp [PyData.depthAll]⟩
  | l :: r, h => by
    obtain ⟨h1, h2⟩ := lay_rows r fun m hm => h m (List.mem_cons_of_mem _ hm)
    refine ⟨?_, ?_⟩
    · rw [List.map_cons]
      simp [PyData.canLayAll0, PyData.canLay0, rD, h1, strOk_row (h l List.mem_cons_self)]
    · rw [List.map_cons]
      simp only [PyData.depthAll, PyData.depth, rD]
      omega
theorem lay_places : ∀ ps : List (Nat × Nat), PyData.canLayAll0 (ps.map pD) = true ∧ PyData.depthAll (ps.map pD) ≤ 3
  | [] => ⟨by simp [PyData.canLayAll0], by simp [PyData.depthAll]⟩
  | p :: r => by
    obtain ⟨h1, h2⟩ := lay_places r
    refine ⟨?_, ?_⟩
    · rw [List.map_cons]
      simp [PyData.canLayAll0, PyData.canLay0, pD, h1]
    · rw [List.map_cons]
      simp only [PyData.depthAll, PyData.depth, pD]
      omega
theorem shaped_rows {high wide : Nat} {ls : List (List Nat)} (R : RowsR high wide ls) : SeqAt.shaped (.tuple (ls.map rD)) = true := by
  obtain ⟨h1, h2⟩ := lay_rows ls fun l hl => (R.row l hl).sg
  unfold SeqAt.shaped
  rw [Bool.and_eq_true, decide_eq_true_iff]
  refine ⟨by simp [PyData.canLay0, h1], ?_⟩
  simp only [PyData.depth]
  omega
theorem shaped_places (ps : List (Nat × Nat)) : SeqAt.shaped (.list (ps.map pD)) = true := by
  obtain ⟨h1, h2⟩ := lay_places ps
  unfold SeqAt.shaped
  rw [Bool.and_eq_true, decide_eq_true_iff]
  refine ⟨by simp [PyData.canLay0, h1], ?_⟩
  simp only [PyData.depth]
  omega
theorem shaped_place (p : Nat × Nat) : SeqAt.shaped (pD p) = true := rfl
theorem eqv_rows : ∀ ls : List (List Nat), PyData.eqvAll (ls.map rD) (ls.map rD) = true
  | [] => by simp [PyData.eqvAll]
  | l :: r => by
    rw [List.map_cons, PyData.eqvAll, eqv_rows r]
    simp [PyData.eqv, rD]
theorem eqv_pD (p q : Nat × Nat) : PyData.eqv (pD p) (pD q) = decide (p = q) := by
  apply Bool.eq_iff_iff.mpr
  rw [decide_eq_true_iff]
  simp [PyData.eqv, PyData.eqvAll, pD, Prod.ext_iff]
  omega
theorem eqv_places : ∀ ps : List (Nat × Nat), PyData.eqvAll (ps.map pD) (ps.map pD) = true
  | [] => by simp [PyData.eqvAll]
  | p :: r => by
    rw [List.map_cons, PyData.eqvAll, eqv_places r, eqv_pD, decide_eq_true rfl]
    rfl
section
variable {K : PySem.W.Frag} {H : Hp}
theorem dp_rows : ∀ ls : List (List Nat), DpAll K H (ls.map rv) (ls.map rD)
  | [] => .nil
  | l :: r => .cons (.str _) (dp_rows r)
theorem dp_place {t : Addr} {p : Nat × Nat} (h : SqT K H t [.int p.1, .int p.2]) : Dp K H (.ref t) (pD p) := .tup h (.cons (.int _) (.cons (.int _) .nil))
theorem dp_places : ∀ {xs : List V} {ps : List (Nat × Nat)}, Plc K H xs ps → DpAll K H xs (ps.map pD)
  | [], [], _ => .nil
  | [], _ :: _, h => nomatch h.len
  | _ :: _, [], h => nomatch h.len
  | x :: xs, p :: ps, h => by
    obtain ⟨t, e, ht⟩ := h.at_ 0 x p rfl rfl
    subst e
    exact .cons (dp_place ht) (dp_places ⟨Nat.succ.inj h.len, fun i y q a b => h.at_ (i + 1) y q a b⟩)
theorem Plc.app {xs ys : List V} {ps qs : List (Nat × Nat)} (a : Plc K H xs ps) (b : Plc K H ys qs) : Plc K H (xs ++ ys) (ps ++ qs) := by
  refine ⟨by rw [List.length_append, List.length_append, a.len, b.len], fun i x p hx hp => ?_⟩
  by_cases hi : i < xs.length
  · rw [List.getElem?_append_left hi] at hx
    rw [List.getElem?_append_left (by rw [← a.len]; exact hi)] at hp
    exact a.at_ i x p hx hp
  · rw [List.getElem?_append_right (by omega)] at hx
    rw [List.getElem?_append_right (by rw [← a.len]; omega), ← a.len] at hp
    exact b.at_ _ x p hx hp
theorem plc_upd {xs ys zs : List V} {ps : List (Nat × Nat)} {l : Addr} (h : Plc K H xs ps) (hl : H l = some (.lst ys)) : Plc K (upd H l (.lst zs)) xs ps := by
  refine ⟨h.len, fun i x p a b => ?_⟩
  obtain ⟨t, e, ht⟩ := h.at_ i x p a b
  refine ⟨t, e, ?_⟩
  rcases ht with (ht | ⟨o, ht⟩) | ht
  · exact SqT.of (by rw [upd_ne (ne_of ht hl (by intro z; cases z))]; exact ht)
  · exact .inl (.inr ⟨o, by rw [upd_ne (ne_of ht hl (by intro z; cases z))]; exact ht⟩)
  · exact .inr ht
theorem Plc.take {xs : List V} {ps : List (Nat × Nat)} (a : Plc K H xs ps) (n : Nat) : Plc K H (xs.take n) (ps.take n) := by
  refine ⟨by rw [List.length_take, List.length_take, a.len], fun i x p hx hp => ?_⟩
  rw [List.getElem?_take] at hx hp
  split at hx
  · rename_i h
    rw [if_pos h] at hp
    exact a.at_ i x p hx hp
  · cases hx
end
theorem cutV_whole {xs : List V} {lo hi : Option Int} (h : HT.sIx xs.length 0 lo = 0 ∧ HT.sIx xs.length xs.length hi = xs.length) : cutV xs lo hi = xs := by
  unfold cutV
  rw [h.1, h.2, List.drop_zero, Nat.sub_zero, List.take_length]
theorem sl_any {K : PySem.W.Frag} {H : Hp} {a : Addr} {xs : List V} {lo hi : Option Int} {Q : VK} (h : H a = some (.tup xs)) (q : ∀ z H2, Same H H2 → H2 z = some (.tup (cutV xs lo hi)) → Q (.ref z) H2) : rSlA K (.ref a) lo hi H Q :=
  ⟨a, xs, rfl, SqT.of h, fun w => q a H (Same.refl H) (by rw [cutV_whole w]; exact h), fun _ p hp => q p _ (same_upd hp) upd_same⟩
theorem cat_any {K : PySem.W.Frag} {H : Hp} {a b : Addr} {xs ys : List V} {Q : VK} (h : H a = some (.tup xs)) (g : H b = some (.tup ys)) (hz : xs.length + ys.length ≤ sizeLine) (q : ∀ z H2, Same H H2 → H2 z = some (.tup (xs ++ ys)) → Q (.ref z) H2) :
    rCatA K (.ref a) (.ref b) H Q :=
  ⟨a, b, xs, ys, rfl, rfl, SqT.of h, SqT.of g, hz, fun e => q b H (Same.refl H) (by rw [e]; exact g), fun _ e => q a H (Same.refl H) (by rw [e, List.append_nil]; exact h), fun _ _ p hp => q p _ (same_upd hp) upd_same⟩
theorem rep_any {K : PySem.W.Frag} {H : Hp} {a : Addr} {x : V} {k : Nat} {Q : VK} (h : H a = some (.tup [x])) (h1 : 1 ≤ k) (h2 : k ≤ 1000) (q : ∀ z H2, Same H H2 → H2 z = some (.tup (List.replicate k x)) → Q (.ref z) H2) :
    rRepA K (.ref a) (.int k) H Q := by
  have flat : ∀ n : Nat, (List.replicate n [x]).flatten = List.replicate n x := by
    intro n
    induction n with
    | zero => rfl
    | succ n ih => rw [List.replicate_succ, List.flatten_cons, ih, List.replicate_succ]; rfl
  refine ⟨a, k, [x], rfl, rfl, SqT.of h, (by simp), by omega, by omega, by show 1 ≤ 1000; decide, fun e => q a H (Same.refl H) ?_, fun _ p hp => q p _ (same_upd hp) ?_⟩
  · have : k = 1 := by omega
    subst this
    exact h
  · rw [upd_same, Int.toNat_natCast, flat]
end Dt
/-! a list or a tuple walked, one rule for both -/
namespace L2X
open PySem PySem.Spec PyProof.Rows L2
/-- at a stands a list (true) or a tuple (false) of xs -/
def Sq (K : PySem.W.Frag) (H : Hp) (b : Bool) (a : Addr) (xs : List V) : Prop := match b with
  | true => SqL K H a xs
  | false => SqT K H a xs
theorem sameT0 {K : PySem.W.Frag} {H H' : Hp} {a : Addr} {xs : List V} (e : Same H H') (h : SqT K H a xs) : SqT K H' a xs := by
  rcases h with (h | ⟨o, h⟩) | h
  · exact .inl (.inl (e _ _ h))
  · exact .inl (.inr ⟨o, e _ _ h⟩)
  · exact .inr h
theorem Sq.same {K : PySem.W.Frag} {H H' : Hp} {b : Bool} {a : Addr} {xs : List V} (h : Sq K H b a xs) (s : Same H H') : Sq K H' b a xs := by
  cases b with
  | true => exact s.seq h
  | false => exact sameT0 s h
def Its (K : PySem.W.Frag) (b : Bool) (a : Addr) : It := match b with
  | true => Itl K a
  | false => Itt K a
def iSq (K : PySem.W.Frag) (tl : TE) : TI := fun σ H R => tl σ H fun x H1 => ∃ b a xs, x = .ref a ∧ Sq K H1 b a xs ∧ R (Its K b a) H1
theorem pi_sq {X : Cx} {tg l : Expr} {tl : TE} (hl : PE X l tl) : PI X tg l (iSq X.K tl) := by
  refine ⟨fun pins s σ H R I h => ?_⟩
  refine thn (hl.run pins s σ H _ I h) fun v s1 ⟨x, H1, I1, r1, q1⟩ => ?_
  obtain ⟨b, a, xs, e, hq, q⟩ := q1
  subst e
  cases r1
  cases b with
  | true =>
    obtain ⟨its, rv, p, hz⟩ := I1.list hq
    refine wpAny_pyIter_list p.isList ?_
    refine ⟨s1.heap.objs.size, [s1.heap.objs.size], _, _, H1, rfl, I1.kept (t' := s1.toks) fun b o e => Heap.get?_push_of_some _ e, turn_list a _, ⟨_, Heap.get?_push_size _ rfl, rfl, rfl⟩, fun b hb => ?_, q⟩
    have e : b = s1.heap.objs.size := by simpa using hb
    subst e
    exact I1.fpOk (Nat.le_refl _) (I1.hok.fresh (Nat.le_refl _))
  | false =>
    obtain ⟨its, rv, p, hz⟩ := I1.tuple hq
    refine wpAny_pyIter_tuple (show s1.heap.IsTuple a its.toArray from p) ?_
    refine ⟨s1.heap.objs.size, [s1.heap.objs.size], _, _, H1, rfl, I1.kept (t' := s1.toks) fun b o e => Heap.get?_push_of_some _ e, turn_tuple a _, ⟨_, Heap.get?_push_size _ rfl, rfl, rfl⟩, fun b hb => ?_, q⟩
    have e : b = s1.heap.objs.size := by simpa using hb
    subst e
    exact I1.fpOk (Nat.le_refl _) (I1.hok.fresh (Nat.le_refl _))
theorem lc_sq {K : PySem.W.Frag} {b : Bool} {a : Addr} {xs : List V} {g : TG} {tt : TT} {te : TE} {vs : List Nat} {σ : L2.St} {H1 : Hp} {D : Addr} {Qd : Hp → Prop} (Pv : Nat → Hp → Prop) (h0 : Pv 0 (upd H1 D (.lst []))) (hl : ∀ i H, i ≤ xs.length → Pv i H → Sq K H b a xs)
    (hs : ∀ i x H, xs[i]? = some x → Pv i H → g x (wipe σ vs) H fun σ2 H2 => wipe σ2 vs = wipe σ vs ∧ tt σ2 H2 fun b H3 =>
      if b = true then te σ2 H3 fun y H4 => ∃ acc, H4 D = some (.lst acc) ∧ acc.length < sizeLine ∧ Pv (i + 1) (upd H4 D (.lst (acc ++ [y]))) else Pv (i + 1) H3) (hd : ∀ H, Pv xs.length H → Qd H) :
    ∃ W : Nat → Nat → Hp → Prop, (∃ m, W 0 m (upd H1 D (.lst []))) ∧ ∀ i m H, W i m H →
      ((Its K b a).stop i H ∧ Qd H) ∨ ((Its K b a).go i H ∧ ∃ Nx : Hp → Prop, (∀ H', Nx H' → ∃ m', m' < m ∧ W (i + 1) m' H') ∧ ∀ x H', (Its K b a).yld i H x H' → g x (wipe σ vs) H' fun σ2 H2 => wipe σ2 vs = wipe σ vs ∧ tt σ2 H2 fun b H3 =>
        if b = true then te σ2 H3 fun y H4 => ∃ acc, H4 D = some (.lst acc) ∧ acc.length < sizeLine ∧ Nx (upd H4 D (.lst (acc ++ [y]))) else Nx H3) := by
  cases b with
  | true => exact lc_list Pv h0 hl hs hd
  | false => exact lc_tup Pv h0 hl hs hd
end L2X
namespace L2X
open PySem PySem.Spec PyProof.Rows L2
/-! ### comprehensions of two clauses, and of one, over anything -/
theorem lc2_by {J : It} {g : TG} {tt : TT} {wi1 : TI} {g1 : TG} {tt1 : TT} {te : TE} {vs vs1 : List Nat} {σ : L2.St} {H1 : Hp} {D : Addr} {Qd : Hp → Prop} (n : Nat) (Pv : Nat → Hp → Prop) (h0 : Pv 0 (upd H1 D (.lst [])))
    (hstop : ∀ H, Pv n H → J.stop n H) (hgo : ∀ i H, i < n → Pv i H → J.go i H)
    (hs : ∀ i x H H', i < n → Pv i H → J.yld i H x H' → g x (wipe σ vs) H' fun σ2 H2 => wipe σ2 vs = wipe σ vs ∧ tt σ2 H2 fun b H3 =>
      if b = true then wi1 σ2 H3 fun J1 H4 => ∃ W1 : Nat → Nat → Hp → Prop, (∃ m, W1 0 m H4) ∧ ∀ j k H, W1 j k H →
        (J1.stop j H ∧ Pv (i + 1) H) ∨ (J1.go j H ∧ ∃ Nx1 : Hp → Prop, (∀ H', Nx1 H' → ∃ k', k' < k ∧ W1 (j + 1) k' H') ∧ ∀ x H', J1.yld j H x H' → g1 x (wipe σ2 vs1) H' fun σ3 H5 => wipe σ3 vs1 = wipe σ2 vs1 ∧ tt1 σ3 H5 fun b H6 =>
          if b = true then te σ3 H6 fun y H7 => ∃ acc, H7 D = some (.lst acc) ∧ acc.length < sizeLine ∧ Nx1 (upd H7 D (.lst (acc ++ [y]))) else Nx1 H6)
      else Pv (i + 1) H3) (hd : ∀ H, Pv n H → Qd H) :
    ∃ W : Nat → Nat → Hp → Prop, (∃ m, W 0 m (upd H1 D (.lst []))) ∧ ∀ i m H, W i m H →
      (J.stop i H ∧ Qd H) ∨ (J.go i H ∧ ∃ Nx : Hp → Prop, (∀ H', Nx H' → ∃ m', m' < m ∧ W (i + 1) m' H') ∧ ∀ x H', J.yld i H x H' → g x (wipe σ vs) H' fun σ2 H2 => wipe σ2 vs = wipe σ vs ∧ tt σ2 H2 fun b H3 =>
        if b = true then wi1 σ2 H3 fun J1 H4 => ∃ W1 : Nat → Nat → Hp → Prop, (∃ m, W1 0 m H4) ∧ ∀ j k H, W1 j k H →
          (J1.stop j H ∧ Nx H) ∨ (J1.go j H ∧ ∃ Nx1 : Hp → Prop, (∀ H', Nx1 H' → ∃ k', k' < k ∧ W1 (j + 1) k' H') ∧ ∀ x H', J1.yld j H x H' → g1 x (wipe σ2 vs1) H' fun σ3 H5 => wipe σ3 vs1 = wipe σ2 vs1 ∧ tt1 σ3 H5 fun b H6 =>
            if b = true then te σ3 H6 fun y H7 => ∃ acc, H7 D = some (.lst acc) ∧ acc.length < sizeLine ∧ Nx1 (upd H7 D (.lst (acc ++ [y]))) else Nx1 H6)
        else Nx H3) := by
  refine ⟨fun i m H => m = n - i ∧ i ≤ n ∧ Pv i H, ⟨n, by simp, Nat.zero_le _, h0⟩, ?_⟩
  rintro i m H ⟨rfl, hi, p⟩
  by_cases hlt : i < n
  · exact .inr ⟨hgo i H hlt p, Pv (i + 1), fun H' p' => ⟨n - (i + 1), by omega, rfl, hlt, p'⟩, fun x H' y => hs i x H H' hlt p y⟩
  · have e : i = n := by omega
    subst e
    exact .inl ⟨hstop H p, hd H p⟩
theorem lc2_in {J1 : It} {g1 : TG} {tt1 : TT} {te : TE} {vs1 : List Nat} {σ2 : L2.St} {H4 : Hp} {D : Addr} {Nx : Hp → Prop} (n : Nat) (Pv : Nat → Hp → Prop) (h0 : Pv 0 H4) (hstop : ∀ H, Pv n H → J1.stop n H) (hgo : ∀ i H, i < n → Pv i H → J1.go i H)
    (hs : ∀ i x H H', i < n → Pv i H → J1.yld i H x H' → g1 x (wipe σ2 vs1) H' fun σ3 H5 => wipe σ3 vs1 = wipe σ2 vs1 ∧ tt1 σ3 H5 fun b H6 =>
      if b = true then te σ3 H6 fun y H7 => ∃ acc, H7 D = some (.lst acc) ∧ acc.length < sizeLine ∧ Pv (i + 1) (upd H7 D (.lst (acc ++ [y]))) else Pv (i + 1) H6) (hd : ∀ H, Pv n H → Nx H) :
    ∃ W1 : Nat → Nat → Hp → Prop, (∃ m, W1 0 m H4) ∧ ∀ j k H, W1 j k H →
      (J1.stop j H ∧ Nx H) ∨ (J1.go j H ∧ ∃ Nx1 : Hp → Prop, (∀ H', Nx1 H' → ∃ k', k' < k ∧ W1 (j + 1) k' H') ∧ ∀ x H', J1.yld j H x H' → g1 x (wipe σ2 vs1) H' fun σ3 H5 => wipe σ3 vs1 = wipe σ2 vs1 ∧ tt1 σ3 H5 fun b H6 =>
        if b = true then te σ3 H6 fun y H7 => ∃ acc, H7 D = some (.lst acc) ∧ acc.length < sizeLine ∧ Nx1 (upd H7 D (.lst (acc ++ [y]))) else Nx1 H6) := by
  refine ⟨fun i m H => m = n - i ∧ i ≤ n ∧ Pv i H, ⟨n, by simp, Nat.zero_le _, h0⟩, ?_⟩
  rintro i m H ⟨rfl, hi, p⟩
  by_cases hlt : i < n
  · exact .inr ⟨hgo i H hlt p, Pv (i + 1), fun H' p' => ⟨n - (i + 1), by omega, rfl, hlt, p'⟩, fun x H' y => hs i x H H' hlt p y⟩
  · have e : i = n := by omega
    subst e
    exact .inl ⟨hstop H p, hd H p⟩
end L2X
namespace Dt
open PySem PySem.Spec PyProof.Rows L2 L2X
open SX (S)
/-! ### dots -/
theorem smallT {n : Nat} (h : n < 100000) : n < sizeLine := Nat.lt_of_lt_of_le h (by decide)
def rowDots (r : Nat) (l : List Nat) : List (Nat × Nat) := (l.zipIdx.filter fun p => decide (p.1 = 35)).map fun p => (r, p.2)
def dotsP (rs : List (List Nat)) : List (Nat × Nat) := (rs.zipIdx.map fun p => rowDots p.2 p.1).flatten
theorem map_at {α β : Type} {f : α → β} {l : List α} {i : Nat} {y : β} (h : (l.map f)[i]? = some y) : ∃ x, l[i]? = some x ∧ y = f x := by
  rw [List.getElem?_map] at h
  cases e : l[i]? with
  | none =>
    rw [e] at h
    cases h
  | some z =>
    rw [e] at h
    exact ⟨z, rfl, (Option.some.inj h).symm⟩
theorem dotsP_snoc {rs : List (List Nat)} {i : Nat} {l : List Nat} (h : rs[i]? = some l) : dotsP (rs.take (i + 1)) = dotsP (rs.take i) ++ rowDots i l := by
  have hi : i < rs.length := (List.getElem?_eq_some_iff.mp h).1
  unfold dotsP
  rw [take_snoc h, List.zipIdx_append, List.map_append, List.flatten_append]
  have : (rs.take i).length = i := by
    rw [List.length_take]
    omega
  simp [this]
theorem rowDots_snoc {r : Nat} {l : List Nat} {j c : Nat} (h : l[j]? = some c) : rowDots r (l.take (j + 1)) = rowDots r (l.take j) ++ if c = 35 then [(r, j)] else [] := by
  have hj : j < l.length := (List.getElem?_eq_some_iff.mp h).1
  unfold rowDots
  rw [take_snoc h, List.zipIdx_append, List.filter_append, List.map_append]
  have : (l.take j).length = j := by
    rw [List.length_take]
    omega
  by_cases e : c = 35
  · simp [this, e]
  · simp [this, e]
theorem plc_one {K : PySem.W.Frag} {H : Hp} {xs : List V} {ps : List (Nat × Nat)} {D t : Addr} {r c : Nat} (h : Plc K H xs ps) (hD : H D = some (.lst xs)) (ht : H t = none) :
    Plc K (upd (upd H t (.tup [.int r, .int c])) D (.lst (xs ++ [.ref t]))) (xs ++ [.ref t]) (ps ++ [(r, c)]) := by
  have s := same_upd (o := .tup [V.int r, V.int c]) ht
  have one : Plc K (upd H t (.tup [V.int r, V.int c])) [V.ref t] [(r, c)] := ⟨rfl, fun i x pp hx hpp => by
    cases i with
    | zero =>
      cases hx
      cases hpp
      exact ⟨t, rfl, SqT.of upd_same⟩
    | succ i => exact nomatch hx⟩
  exact plc_upd ((h.same s).app one) (s _ _ hD)
section
variable {P : Program} {w : World} {K : PySem.W.Frag} {mg : Str → Option Value} {base : Heap} {C CP : Addr}
end
end Dt
namespace Dt
open PySem PySem.Spec PyProof.Rows L2 L2X
open SX (S)
/-! ### what a def promises, in one -/
/-- a def of the text as it stands behind the top -/
structure Df (K : PySem.W.Frag) (mg : Str → Option Value) (nm : Str) (st : Stmt) (ps : List Str) : Prop where
  ex : ∃ f fd, Fun K nm nm st f fd ∧ mg nm = some (.ref f) ∧ Binds K fd ps []
/-- .. with its promise -/
structure Pm (P : Program) (w : World) (K : PySem.W.Frag) (mg : Str → Option Value) (base : Heap) (CX : CXT) (k : Nat) (nm : Str) (ps : List Str) (sp : Sp) : Prop where
  ex : ∃ f fd, FnOk P w K mg base CX k f fd ps sp ∧ mg nm = some (.ref f) ∧ PySem.W.keepIn K (.ref f) = true ∧ Binds K fd ps []
theorem Pm.of {P : Program} {w : World} {K : PySem.W.Frag} {mg : Str → Option Value} {base : Heap} {CX : CXT} {k : Nat} {nm : Str} {st : Stmt} {ps : List Str} {sp : Sp} (d : Df K mg nm st ps) (h : ∀ f fd, Fun K nm nm st f fd → FnOk P w K mg base CX k f fd ps sp) : Pm P w K mg base CX k nm ps sp := by
  obtain ⟨f, fd, F, m, b⟩ := d.ex
  exact ⟨f, fd, h f fd F, m, F.kp, b⟩
/-! ### parts -/
def strB (x y : V) (n : Int) : Bool := match y with
  | .int m => decide (1 ≤ m) && betw x 0 (n - m)
  | _ => false
theorem strB_no {x y : V} {n : Int} (h : isInt y = false) : strB x y n = false := by
  cases y with
  | int i => cases h
  | _ => rfl
theorem strB_true {x y : V} {n : Nat} (h : strB x y (n : Int) = true) : ∃ t m : Nat, x = .int t ∧ y = .int m ∧ 1 ≤ m ∧ t + m ≤ n := by
  cases y with
  | int m =>
    unfold strB at h
    rw [Bool.and_eq_true, decide_eq_true_iff] at h
    obtain ⟨h1, h2⟩ := h
    cases x with
    | int t =>
      rw [betw_int, Bool.and_eq_true, decide_eq_true_iff, decide_eq_true_iff] at h2
      refine ⟨t.toNat, m.toNat, ?_, ?_, by omega, by omega⟩
      · rw [Int.toNat_of_nonneg h2.1]
      · rw [Int.toNat_of_nonneg (by omega)]
    | _ => cases h2
  | _ => cases h
def cutR (rs : List (List Nat)) (t l h w : Nat) : List (List Nat) := ((rs.drop t).take h).map fun r => (r.drop l).take w
theorem cutV_mid (xs : List V) (t h : Nat) (b : t + h ≤ xs.length) : cutV xs (some (t : Int)) (some ((t : Int) + (h : Int))) = (xs.drop t).take h := by
  have e : ((t : Int) + (h : Int)) = ((t + h : Nat) : Int) := by omega
  unfold cutV
  rw [e, HT.sIx_nat, HT.sIx_nat, Nat.min_eq_left b, Nat.min_eq_left (by omega), Nat.add_sub_cancel_left]
theorem cutS_mid (l : List Nat) (t h : Nat) (b : t + h ≤ l.length) : cutS (S l) (some (t : Int)) (some ((t : Int) + (h : Int))) = S ((l.drop t).take h) := by
  have e : ((t : Int) + (h : Int)) = ((t + h : Nat) : Int) := by omega
  unfold cutS
  rw [e, SX.S_len, HT.sIx_nat, HT.sIx_nat, Nat.min_eq_left b, Nat.min_eq_left (by omega), Nat.add_sub_cancel_left]
abbrev sStr : Stmt := topS 27
theorem scStr : FnScope ["start", "many", "whole"] ["start", "many", "whole"] (defScope sStr) := ⟨rfl, rfl, rfl, by decide +kernel, rfl, by decide +kernel, by decide +kernel⟩
def spStr (K : PySem.W.Frag) : Sp := fun vs H Q _ => ∃ x y n, vs = [x, y, .int n] ∧ Kt K H x ∧ Kt K H y ∧ Q (.bl (strB x y n)) H
abbrev sCut : Stmt := topS 26
theorem scCut : FnScope ["picture", "top", "left", "high", "wide", "rows", "columns", "row"] ["picture", "top", "left", "high", "wide"] (defScope sCut) := ⟨rfl, rfl, rfl, by decide +kernel, rfl, by decide +kernel, by decide +kernel⟩
def spCut (K : PySem.W.Frag) (CP : Addr) : Sp := fun vs H Q E => ∃ (a : Addr) (high wide : Nat) (rs : List (List Nat)) (x1 x2 x3 x4 : V), vs = [.ref a, x1, x2, x3, x4] ∧ H a = some (.tup (rs.map rv)) ∧ PicR high wide rs ∧ Kt K H x1 ∧ Kt K H x2 ∧ Kt K H x3 ∧ Kt K H x4 ∧
  ((strB x1 x3 high && strB x2 x4 wide) = true → ∀ t l h w : Nat, x1 = .int t → x2 = .int l → x3 = .int h → x4 = .int w → t + h ≤ high → l + w ≤ wide → 1 ≤ h → 1 ≤ w → ∀ p H', Same H H' → H p = none → H' p = some (.tup ((cutR rs t l h w).map rv)) → Q (.ref p) H') ∧
  ((strB x1 x3 high && strB x2 x4 wide) = false → ∀ H', Same H H' → E (.ref CP) none H')
section
variable {P : Program} {w : World} {K : PySem.W.Frag} {mg : Str → Option Value} {base : Heap} {C CP : Addr}
theorem ok_str {f : Addr} {fd : FuncData} {k : Nat} (F : Fun K "_is_stretch" "_is_stretch" sStr f fd) (GI : Pm P w K mg base CX0 (k + 1) "is_number" ["thing"] (spIsNum K)) (GB : Pm P w K mg base CX0 (k + 2) "is_between" ["thing", "least", "most"] (spBetw K)) : FnOk P w K mg base CX0 (k + 3) f fd ["start", "many", "whole"] (spStr K) := by
  obtain ⟨fI, fdI, GI, mI, kI, bI⟩ := GI.ex
  obtain ⟨fB, fdB, GB, mB, kB, bB⟩ := GB.ex
  refine F.ok scStr (fun vs H Q E h => ?_) (fun cdv A outer s H vs Q E hr h => ?_)
  · obtain ⟨x, y, n, rfl, _⟩ := h
    rfl
  · obtain ⟨x, y, n, rfl, kx, ky, q⟩ := h
    have hr1 : Room (k + 1) _ := hr.mono (by omega)
    refine ⟨_, pss_one (ps_ret (pe_and (pe_call GI hr1 (by rfl) mI kI bI .nil pass0 (pa_cons (pv 1) pa_nil)) (pe_and (pe_cmpR op_ge (pv 1) pe_int (nomark _)) (pe_one (pe_call GB hr (by rfl) mB kB bB .nil pass0 (pa_cons (pv 0) (pa_cons pe_int (pa_cons (pe_op op_sub (pv 2) (pv 1)) pa_nil)))))))), ?_⟩
    refine ⟨y, rfl, y, rfl, ky, _, rfl, ?_⟩
    cases y with
    | int m =>
      refine iteT ⟨.int m, rfl, m, 1, rfl, rfl, _, rfl, ite2 (fun e => ?_) (fun e => ?_)⟩
      · refine ⟨x, rfl, .int n, rfl, .int m, rfl, n, m, rfl, rfl, x, 0, n - m, rfl, kx, ?_⟩
        have e2 : strB x (.int m) n = betw x 0 (n - m) := by
          show (decide (1 ≤ m) && betw x 0 (n - m)) = _
          have : decide (1 ≤ m) = true := e
          rw [this, Bool.true_and]
        rw [e2] at q
        exact q
      · have e2 : strB x (.int m) n = false := by
          show (decide (1 ≤ m) && betw x 0 (n - m)) = _
          have : decide (1 ≤ m) = false := Bool.eq_false_iff.mpr e
          rw [this, Bool.false_and]
        rw [e2] at q
        exact q
    | _ => exact iteF q
theorem ok_cut {f : Addr} {fd : FuncData} {k : Nat} (F : Fun K "cut_out" "cut_out" sCut f fd) (X : Tx mg) (NP : ExN K mg "NoPlace" CP) (GZ : GS P w K mg base C (k + 3)) (GI : Pm P w K mg base CX0 (k + 3) "_is_stretch" ["start", "many", "whole"] (spStr K)) : FnOk P w K mg base (L2.CX P w) (k + 4) f fd ["picture", "top", "left", "high", "wide"] (spCut K CP) := by
  obtain ⟨fS, fdS, GS, mS, kS, bS⟩ := GZ.ex
  obtain ⟨fI, fdI, GI, mI, kI, bI⟩ := GI.ex
  refine F.okX scCut (fun vs H Q E h => ?_) (fun cdv A outer s H vs Q E hr h => ?_)
  · obtain ⟨a, _, _, _, x1, x2, x3, x4, rfl, _⟩ := h
    rfl
  · obtain ⟨a, high, wide, rs, x1, x2, x3, x4, rfl, ha, pr, k1, k2, k3, k4, q1, q2⟩ := h
    have nd := scCut.nd
    refine ⟨_, pss_cons (ps_asg (pe_callS GS hr (by rfl) mS kS bS (fun σ => passAt (takes_of rfl rfl rfl rfl) σ) (pa_cons (pv 0) pa_nil)) (pg_tup rfl (pgs_cons (pg_name (i := 5) nd rfl (Or.inl rfl)) (pgs_cons (pg_name (i := 6) nd rfl (Or.inl rfl)) pgs_nil))))
      (pss_cons (ps_if (PW.pt (pw_or (pt_not (pt_val (pe_call GI hr (by rfl) mI kI bI .nil pass0 (pa_cons (pv 1) (pa_cons (pv 3) (pa_cons (pv 5) pa_nil)))))) (pw_or1 (pt_not (pt_val (pe_call GI hr (by rfl) mI kI bI .nil pass0 (pa_cons (pv 2) (pa_cons (pv 4) (pa_cons (pv 6) pa_nil)))))))))
        (pss_one (ps_raise rfl (takes_of rfl rfl rfl rfl) (pmk_own PySem.F.excBase_ValueError NP.x NP.g NP.k (raises_own NP.b NP.t) rfl))) pss_nil)
      (pss_one (ps_ret (pe_callTy call_tuple_of (by rfl) X.tuple (by decide +kernel) (pa_cons (pe_lc (own := [("row", 7)]) (g := gName 7) (tt := tYes) rfl nd (pi_tup (pe_slice sl_tupA (pv 0) (po_some (pv 1)) (po_some (pe_op op_add (pv 1) (pv 3))))) (blkOk_by (N := ["picture", "top", "left", "high", "wide", "rows", "columns", "row"]) (sc := defScope sCut) (by decide +kernel)) (fun _ _ _ _ _ => pg_name (i := 7) nd rfl (Or.inl rfl)) (fun _ _ _ _ _ => pts_nil)
          (fun _ _ _ _ _ => pe_slice sl_str (pv 7) (po_some (pv 2)) (po_some (pe_op op_add (pv 2) (pv 4))))) pa_nil))))), ?_⟩
    have e1 := picSize pr
    refine ⟨.ref a, rfl, .ref a, rfl, .inr ⟨a, _, rfl, SqT.of ha, kn_rows pr, picOk_pic pr, fun p3 H3 s3 n3 h3 => ?_⟩⟩
    rw [e1.1, e1.2] at h3
    refine ⟨p3, _, rfl, SqT.of h3, rfl, _, _, rfl, _, _, rfl, rfl, x1, rfl, x3, rfl, .int high, rfl, x1, x3, high, rfl, k1.same s3, k3.same s3, _, rfl, ?_⟩
    cases b1 : strB x1 x3 high with
    | false =>
      refine iteT (iteT (q2 (by rw [b1]; rfl) _ s3))
    | true =>
      refine iteF ⟨x2, rfl, x4, rfl, .int wide, rfl, x2, x4, wide, rfl, k2.same s3, k4.same s3, _, rfl, ?_⟩
      cases b2 : strB x2 x4 wide with
      | false => exact iteT (q2 (by rw [b1, b2]; rfl) _ s3)
      | true =>
        refine iteF ?_
        obtain ⟨t, hh, rfl, rfl, hh1, hh2⟩ := strB_true b1
        obtain ⟨l, ww, rfl, rfl, ww1, ww2⟩ := strB_true b2
        have q := q1 (by rw [b1, b2]; rfl) t l hh ww rfl rfl rfl rfl hh2 ww2 hh1 ww1
        have hlen := pr.len
        refine ⟨.ref a, rfl, .int t, rfl, t, rfl, .int t, rfl, .int hh, rfl, t, hh, rfl, rfl, _, rfl, sl_any (s3 _ _ ha) fun z H4 s4 hz => ?_⟩
        rw [cutV_mid _ _ _ (by rw [List.length_map, hlen]; exact hh2), ← List.map_drop, ← List.map_take] at hz
        have s34 := s3.trans s4
        refine ⟨z, rfl, ⟨_, SqT.of hz⟩, fun D hD => lc_tup (K := K) (a := z) (xs := ((rs.drop t).take hh).map rv) (fun i H5 => Same H4 H5 ∧ H5 D = some (.lst (((((rs.drop t).take hh).take i).map fun r => (r.drop l).take ww).map rv))) ⟨same_upd hD, upd_same⟩ (fun i H5 _ zz => SqT.of (zz.1 _ _ hz)) ?_ ?_⟩
        · rintro i x H5 hi ⟨sm, h5⟩
          obtain ⟨r, hr, rfl⟩ := map_at hi
          have hm : r ∈ rs := List.mem_of_mem_drop (List.mem_of_mem_take (List.mem_of_getElem? hr))
          have lr := (pr.row r hm).len
          have w1 := pr.w1
          have h1' := pr.h1
          have hil : i < ((rs.drop t).take hh).length := (List.getElem?_eq_some_iff.mp hr).1
          rw [List.length_take, List.length_drop] at hil
          refine ⟨rfl, rv r, rfl, .int l, rfl, l, rfl, .int l, rfl, .int ww, rfl, l, ww, rfl, rfl, _, rfl, S r, rfl, ?_, ?_⟩
          · rw [SX.S_len]
            exact Nat.le_of_lt (small1000 (by omega))
          · rw [cutS_mid _ _ _ (by omega)]
            refine ⟨_, h5, ?_, same_over sm hD, ?_⟩
            · rw [List.length_map, List.length_map, List.length_take]
              exact smallT (by omega)
            · rw [upd_same, take_snoc hr, List.map_append, List.map_append]
              rfl
        · rintro H5 ⟨sm, h5⟩
          rw [List.length_map, List.take_length] at h5
          refine ⟨D, _, rfl, .inl ⟨SqL.of h5, fun p hp => ?_⟩⟩
          have sp := same_upd (o := .tup ((cutR rs t l hh ww).map rv)) hp
          exact q p _ ((s34.trans sm).trans sp) (s34.free (sm.free hp)) upd_same
end
end Dt
namespace Dt
open PySem PySem.Spec PyProof.Rows L2 L2X
open SX (S)
/-! ### dots turned over -/
def flipC (c : Nat) : Nat := if c = 35 then 46 else 35
def flipAt (ls : List (List Nat)) (r c : Nat) : List (List Nat) := ls.set r ((ls.getD r []).set c (flipC ((ls.getD r []).getD c 0)))
def flipAll (ls : List (List Nat)) (ps : List (Nat × Nat)) : List (List Nat) := ps.foldl (fun a p => flipAt a p.1 p.2) ls
theorem flip_ok {c : Nat} : flipC c = 35 ∨ flipC c = 46 := by
  unfold flipC
  split
  · exact .inr rfl
  · exact .inl rfl
theorem flipAt_eq {ls : List (List Nat)} {r c x : Nat} {l : List Nat} (h : ls[r]? = some l) (hx : l[c]? = some x) : flipAt ls r c = ls.set r (l.set c (flipC x)) := by
  unfold flipAt
  rw [set_getD h, getD_at hx]
theorem RowsR.flip {high wide r c : Nat} {rs : List (List Nat)} (h : RowsR high wide rs) (hr : r < high) (hc : c < wide) : RowsR high wide (flipAt rs r c) := by
  have hr' : r < rs.length := by rw [h.len]; exact hr
  have e1 : rs[r]? = some rs[r] := List.getElem?_eq_getElem hr'
  have rw1 := h.row rs[r] (List.getElem_mem hr')
  have hc' : c < rs[r].length := by rw [rw1.len]; exact hc
  have e2 : rs[r][c]? = some rs[r][c] := List.getElem?_eq_getElem hc'
  rw [flipAt_eq e1 e2]
  refine ⟨by rw [List.length_set, h.len], fun l hl => ?_⟩
  rcases List.mem_or_eq_of_mem_set hl with q | q
  · exact h.row l q
  · rw [q]
    refine ⟨by rw [List.length_set, rw1.len], fun x hx => ?_⟩
    rcases List.mem_or_eq_of_mem_set hx with q2 | q2
    · exact rw1.sg x q2
    · rw [q2]
      exact flip_ok
theorem RowsR.flips {high wide : Nat} : ∀ {ps : List (Nat × Nat)} {rs : List (List Nat)}, RowsR high wide rs → (∀ p ∈ ps, p.1 < high ∧ p.2 < wide) → RowsR high wide (flipAll rs ps)
  | [], _, h, _ => h
  | p :: ps, rs, h, hp => by
    have h1 := hp p List.mem_cons_self
    exact RowsR.flips (ps := ps) (h.flip h1.1 h1.2) fun q hq => hp q (List.mem_cons_of_mem _ hq)
structure Grid (H : Hp) (g : Addr) (as : List Addr) (ls : List (List Nat)) : Prop where
  top : H g = some (.lst (as.map V.ref))
  len : as.length = ls.length
  row : ∀ (i : Nat) (a : Addr) (l : List Nat), as[i]? = some a → ls[i]? = some l → H a = some (.lst (l.map ch))
  nd : as.Nodup
  off : g ∉ as
theorem Grid.same {H H' : Hp} {g : Addr} {as : List Addr} {ls : List (List Nat)} (G : Grid H g as ls) (s : Same H H') : Grid H' g as ls := ⟨s _ _ G.top, G.len, fun i a l h1 h2 => s _ _ (G.row i a l h1 h2), G.nd, G.off⟩
theorem Grid.put {H : Hp} {g a : Addr} {as : List Addr} {ls : List (List Nat)} {r c x : Nat} {l : List Nat} (G : Grid H g as ls) (ha : as[r]? = some a) (hl : ls[r]? = some l) : Grid (upd H a (.lst ((l.map ch).set c (ch x)))) g as (ls.set r (l.set c x)) := by
  have na : g ≠ a := fun e => G.off (e ▸ List.mem_of_getElem? ha)
  refine ⟨by rw [upd_ne na]; exact G.top, by rw [List.length_set, G.len], fun i b m hb hm => ?_, G.nd, G.off⟩
  by_cases e : i = r
  · subst e
    rw [ha] at hb
    cases hb
    have hlt := (List.getElem?_eq_some_iff.mp hl).1
    rw [List.getElem?_set_self hlt] at hm
    cases hm
    rw [upd_same, List.map_set]
  · rw [List.getElem?_set_ne (Ne.symm e)] at hm
    have nb : b ≠ a := fun q => by
      subst q
      obtain ⟨h1, e1⟩ := List.getElem?_eq_some_iff.mp hb
      obtain ⟨h2, e2⟩ := List.getElem?_eq_some_iff.mp ha
      exact e ((List.getElem_inj G.nd).mp (e1.trans e2.symm))
    rw [upd_ne nb]
    exact G.row i b m hb hm
/-- one more row -/
theorem Grid.add {H : Hp} {g a : Addr} {as : List Addr} {ls : List (List Nat)} {l : List Nat} (G : Grid H g as ls) (hn : H a = none) : Grid (upd (upd H a (.lst (l.map ch))) g (.lst (as.map V.ref ++ [V.ref a]))) g (as ++ [a]) (ls ++ [l]) := by
  have na : g ≠ a := ne_of_none G.top hn
  have old : ∀ b ∈ as, H b ≠ none := fun b hb e => by
    obtain ⟨i, hi⟩ := List.mem_iff_getElem?.mp hb
    have hlt : i < ls.length := by
      rw [← G.len]
      exact (List.getElem?_eq_some_iff.mp hi).1
    have := G.row i b _ hi (List.getElem?_eq_getElem hlt)
    rw [e] at this
    cases this
  have am : a ∉ as := fun h => old a h hn
  refine ⟨?_, by rw [List.length_append, List.length_append, G.len]; rfl, fun i b m hb hm => ?_, ?_, ?_⟩
  · rw [upd_same, List.map_append]
    rfl
  · have nbg : b ≠ g := fun q => by
      subst q
      rcases List.mem_append.mp (List.mem_of_getElem? hb) with z | z
      · exact G.off z
      · exact na (List.mem_singleton.mp z)
    rw [upd_ne nbg]
    by_cases hi : i < as.length
    · rw [List.getElem?_append_left hi] at hb
      rw [List.getElem?_append_left (by rw [← G.len]; exact hi)] at hm
      have nba : b ≠ a := fun q => am (q ▸ List.mem_of_getElem? hb)
      rw [upd_ne nba]
      exact G.row i b m hb hm
    · have hi2 : i = as.length := by
        have := (List.getElem?_eq_some_iff.mp hb).1
        rw [List.length_append, List.length_singleton] at this
        omega
      rw [hi2, List.getElem?_concat_length] at hb
      rw [hi2, G.len, List.getElem?_concat_length] at hm
      cases hb
      cases hm
      rw [upd_same]
  · rw [List.nodup_append]
    exact ⟨G.nd, (by simp), fun x hx y hy e => am (by rw [← List.mem_singleton.mp hy, ← e]; exact hx)⟩
  · intro h
    rcases List.mem_append.mp h with z | z
    · exact G.off z
    · exact na (List.mem_singleton.mp z)
/-- .. and its rows are new -/
structure GridN (H0 H : Hp) (g : Addr) (as : List Addr) (ls : List (List Nat)) : Prop where
  gr : Grid H g as ls
  sm : Same H0 H
  ng : H0 g = none
  nr : ∀ a ∈ as, H0 a = none
theorem GridN.put {H0 H : Hp} {g a : Addr} {as : List Addr} {ls : List (List Nat)} {r c x : Nat} {l : List Nat} (G : GridN H0 H g as ls) (ha : as[r]? = some a) (hl : ls[r]? = some l) : GridN H0 (upd H a (.lst ((l.map ch).set c (ch x)))) g as (ls.set r (l.set c x)) :=
  ⟨G.gr.put ha hl, same_over G.sm (G.nr a (List.mem_of_getElem? ha)), G.ng, G.nr⟩
theorem GridN.add {H0 H : Hp} {g a : Addr} {as : List Addr} {ls : List (List Nat)} {l : List Nat} (G : GridN H0 H g as ls) (hn : H a = none) : GridN H0 (upd (upd H a (.lst (l.map ch))) g (.lst (as.map V.ref ++ [V.ref a]))) g (as ++ [a]) (ls ++ [l]) := by
  have na := G.sm.free hn
  refine ⟨G.gr.add hn, same_over (same_over G.sm na) G.ng, G.ng, fun b hb => ?_⟩
  rcases List.mem_append.mp hb with z | z
  · exact G.nr b z
  · rw [List.mem_singleton.mp z]
    exact na
theorem GridN.same {H0 H H' : Hp} {g : Addr} {as : List Addr} {ls : List (List Nat)} (G : GridN H0 H g as ls) (s : Same H H') : GridN H0 H' g as ls := ⟨G.gr.same s, G.sm.trans s, G.ng, G.nr⟩
theorem GridN.same' {H0 H : Hp} {g E : Addr} {as : List Addr} {ls : List (List Nat)} {xs ys : List V} (G : GridN H0 H g as ls) (_ : H E = some (.lst xs)) (n1 : g ≠ E) (n2 : ∀ a ∈ as, a ≠ E) (n3 : H0 E = none) : GridN H0 (upd H E (.lst ys)) g as ls :=
  ⟨⟨by rw [upd_ne n1]; exact G.gr.top, G.gr.len, fun i a l h1 h2 => by rw [upd_ne (n2 a (List.mem_of_getElem? h1))]; exact G.gr.row i a l h1 h2, G.gr.nd, G.gr.off⟩, same_over G.sm n3, G.ng, G.nr⟩
end Dt
namespace L2X
open PySem PySem.Spec PyProof.Rows L2
/-- i ** 3 of an int of any decent size -/
def CPow3 (i j : Int) : Prop := j = 3 ∧ i.natAbs < 2 ^ 1000
theorem op_pow3 {X : Cx} : OpR X (binaryOp .Pow) (rI CPow3 fun i j => .int (i ^ j.toNat)) := opI fun i j _ _ _ _ _ hc q => by
  obtain ⟨rfl, h⟩ := hc
  refine pow_int (by decide) ?_ q
  have z := PyProof.Rows.intBits_le h
  omega
end L2X
namespace Dt
open PySem PySem.Spec PyProof.Rows L2 L2X
open SX (S)
/-! ### the drawing list -/
def Du (H : Hp) (d : Addr) (n : Nat) : Prop := ∃ a b t : Int, H d = some (.lst [.int a, .int b, .int t]) ∧ 0 ≤ t ∧ t ≤ (n : Int)
/-- all but d stays -/
def Do (d : Addr) (H H' : Hp) : Prop := ∀ b o, H b = some o → b ≠ d → H' b = some o
theorem Do.refl {d : Addr} {H : Hp} : Do d H H := fun _ _ e _ => e
theorem Do.trans {d : Addr} {H H1 H2 : Hp} (a : Do d H H1) (b : Do d H1 H2) : Do d H H2 := fun x o e h1 => b x o (a x o e h1) h1
theorem Do.same {d : Addr} {H H' : Hp} (a : Same H H') : Do d H H' := fun b o e _ => a b o e
theorem Du.same {H H' : Hp} {d : Addr} {n : Nat} (D : Du H d n) (s : Same H H') : Du H' d n := by
  obtain ⟨a, b, t, h, h0, h1⟩ := D
  exact ⟨a, b, t, s _ _ h, h0, h1⟩
theorem Du.le {H : Hp} {d : Addr} {n m : Nat} (D : Du H d n) (l : n ≤ m) : Du H d m := by
  obtain ⟨a, b, t, h, h0, h1⟩ := D
  exact ⟨a, b, t, h, h0, by omega⟩
theorem Du.new {H : Hp} {d p : Addr} {n : Nat} (D : Du H d n) (h : H p = none) : p ≠ d := by
  obtain ⟨a, b, t, e, _⟩ := D
  exact fun z => by (rw [z, e] at h; cases h)
theorem Du.upd {H : Hp} {d p : Addr} {n : Nat} {o : HO} (D : Du H d n) (h : p ≠ d) : Du (upd H p o) d n := by
  obtain ⟨a, b, t, e, h0⟩ := D
  exact ⟨a, b, t, by rw [upd_ne h.symm]; exact e, h0⟩
theorem Do.nn {d p : Addr} {n : Nat} {H H' : Hp} (a : Do d H H') (D : Du H' d n) (h : H' p = none) : H p = none := by
  cases e : H p with
  | none => rfl
  | some o =>
    rw [a _ _ e (D.new h)] at h
    cases h
/-- what was under no watch ahead may change -/
theorem Do.upd {d p : Addr} {H H' : Hp} {o : HO} (a : Do d H H') (h : H p = none) : Do d H (upd H' p o) := fun b u e n => by
  rw [upd_ne (ne_of_none e h)]
  exact a _ _ e n
def fuel : Nat := 1000000000000
abbrev sNx : Stmt := topS 45
theorem scNx : FnScope ["draw", "below", "found"] ["draw", "below"] (defScope sNx) := ⟨rfl, rfl, rfl, by decide +kernel, rfl, by decide +kernel, by decide +kernel⟩
def spNx : Sp := fun vs H Q _ => ∃ (d : Addr) (b : Int) (n : Nat), vs = [.ref d, .int b] ∧ Du H d n ∧ n ≤ fuel ∧ 0 < b ∧ b < 1073741824 ∧ ∀ (m : Int) (H' : Hp), 0 ≤ m → m < b → Du H' d (n + 1) → Do d H H' → Q (.int m) H'
abbrev sPk : Stmt := topS 46
theorem scPk : FnScope ["draw", "some"] ["draw", "some"] (defScope sPk) := ⟨rfl, rfl, rfl, by decide +kernel, rfl, by decide +kernel, by decide +kernel⟩
/-- of a list, or of a text -/
def spPk (K : PySem.W.Frag) : Sp := fun vs H Q _ => ∃ (d : Addr) (x : V) (n : Nat), vs = [.ref d, x] ∧ Du H d n ∧ n ≤ fuel ∧
  ((∃ (l : Addr) (xs : List V), x = .ref l ∧ l ≠ d ∧ H l = some (.lst xs) ∧ 0 < xs.length ∧ xs.length ≤ 1000 ∧ ∀ (j : Nat) (y : V) (H' : Hp), xs[j]? = some y → Du H' d (n + 1) → Do d H H' → Q y H') ∨
   (∃ (z : Str), x = .str z ∧ 0 < z.length ∧ z.length ≤ 1000 ∧ ∀ (c : Nat) (H' : Hp), c ∈ z.cps.toList → Du H' d (n + 1) → Do d H H' → Q (.str ⟨#[c]⟩) H'))
abbrev sBg : Stmt := topS 44
theorem scBg : FnScope ["cell", "k"] ["cell", "k"] (defScope sBg) := ⟨rfl, rfl, rfl, by decide +kernel, rfl, by decide +kernel, by decide +kernel⟩
def spBg : Sp := fun vs H Q _ => ∃ (c k : Int), vs = [.int c, .int k] ∧ 0 ≤ k ∧ k ≤ 1000 ∧ ∀ (d : Addr) (H' : Hp), H d = none → Same H H' → Du H' d 0 → Q (.ref d) H'
theorem small_bits {a b : Nat} {i : Int} (h0 : 0 ≤ i) (h1 : i < (b : Int)) (hb : b ≤ 2 ^ a) : i.natAbs < 2 ^ a := by omega
section
variable {P : Program} {w : World} {K : PySem.W.Frag} {mg : Str → Option Value} {base : Heap}
theorem ok_nx {f : Addr} {fd : FuncData} {k : Nat} (F : Fun K "_law_next" "_law_next" sNx f fd) : FnOk P w K mg base CX0 (k + 1) f fd ["draw", "below"] spNx := by
  refine F.ok scNx (fun vs H Q E h => ?_) (fun cdv A outer s H vs Q E hr h => ?_)
  · obtain ⟨d, b, n, rfl, _⟩ := h
    rfl
  · obtain ⟨d, b, n, rfl, D, hn, hb0, hb1, q⟩ := h
    have nd := scNx.nd
    refine ⟨_, pss_cons (ps_if (pt_cmpR op_gt (pe_ix ix_list (pv 0) pe_int (fun _ _ => rfl)) pe_int (nomark _))
        (pss_cons (ps_set (i := 2) nd rfl (.inl rfl) (pe_op op_mod (pe_ix ix_list (pv 0) pe_int (fun _ _ => rfl)) (pv 1)))
        (pss_cons (ps_asg (pe_op op_fdiv (pe_ix ix_list (pv 0) pe_int (fun _ _ => rfl)) (pv 1)) (pg_sub (pv 0) pe_int set_list))
        (pss_one (ps_ret (pv 2))))) pss_nil)
      (pss_cons (ps_asg (pe_op op_add (pe_ix ix_list (pv 0) pe_int (fun _ _ => rfl)) pe_int) (pg_sub (pv 0) pe_int set_list))
      (pss_cons (ps_set (i := 2) nd rfl (.inl rfl) (pe_op op_add (pe_op op_mod (pe_ix ix_list (pv 0) pe_int (fun _ _ => rfl)) pe_int) (pe_op op_mul pe_int (pe_ix ix_list (pv 0) pe_int (fun _ _ => rfl)))))
      (pss_cons (ps_set (i := 2) nd rfl (.inl rfl) (pe_op op_mulX (pv 2) (pe_op op_add (pe_op op_add (pe_op op_mod (pe_ix ix_list (pv 0) pe_int (fun _ _ => rfl)) pe_int) (pe_op op_mulX (pe_op op_mul pe_int (pe_ix ix_list (pv 0) pe_int (fun _ _ => rfl))) (pe_ix ix_list (pv 0) pe_int (fun _ _ => rfl)))) pe_int)))
      (pss_one (ps_ret (pe_op op_mod (pe_op op_fdiv (pe_op op_mod (pe_op op_pow3 (pv 2) pe_int) pe_int) pe_int) (pv 1))))))), ?_⟩
    obtain ⟨a, e, t, hd, t0, t1⟩ := id D
    refine ⟨.ref d, rfl, d, _, 0, .int a, rfl, rfl, SqL.of hd, rfl, a, 0, rfl, rfl, _, rfl, ite2 (fun e1 => ?_) (fun e1 => ?_)⟩
    · refine ⟨.ref d, rfl, d, _, 0, .int a, rfl, rfl, SqL.of hd, rfl, .int b, rfl, a, b, rfl, rfl, hb0, ?_⟩
      refine ⟨.ref d, rfl, d, _, 0, .int a, rfl, rfl, SqL.of hd, rfl, .int b, rfl, a, b, rfl, rfl, ⟨hb0, hb1⟩, ?_⟩
      refine ⟨.ref d, rfl, d, _, 0, 0, rfl, rfl, hd, rfl, .int (a % b), rfl, q _ _ (Int.emod_nonneg _ (by omega)) (Int.emod_lt_of_pos _ hb0) ⟨a / b, e, t, upd_same, t0, by omega⟩ ?_⟩
      intro b' o e' n'
      rw [upd_ne n']
      exact e'
    · refine ⟨.ref d, rfl, d, _, 2, .int t, rfl, rfl, SqL.of hd, rfl, t, 1, rfl, rfl, ?_⟩
      refine ⟨.ref d, rfl, d, _, 2, 2, rfl, rfl, hd, rfl, ?_⟩
      have hd2 : (upd H d (.lst [V.int a, V.int e, V.int (t + 1)])) d = some (.lst [V.int a, V.int e, V.int (t + 1)]) := upd_same
      have fu : n ≤ 1000000000000 := hn
      have m0 := Int.emod_nonneg e (show (2147483629 : Int) ≠ 0 by decide)
      have m1 := Int.emod_lt_of_pos e (show (0 : Int) < 2147483629 by decide)
      have l0 := Int.emod_nonneg e (show (2147483587 : Int) ≠ 0 by decide)
      have l1 := Int.emod_lt_of_pos e (show (0 : Int) < 2147483587 by decide)
      refine ⟨.ref d, rfl, d, _, 1, .int e, rfl, rfl, SqL.of hd2, rfl, e, 2147483629, rfl, rfl, (by show (0 : Int) < 2147483629; decide), ?_⟩
      refine ⟨.ref d, rfl, d, _, 2, .int (t + 1), rfl, rfl, SqL.of hd2, rfl, 104729, t + 1, rfl, rfl, .inl ⟨by decide, by decide⟩, _, _, rfl, rfl, ?_⟩
      have f0 : 0 ≤ e % 2147483629 + 104729 * (t + 1) := by omega
      have f1 : e % 2147483629 + 104729 * (t + 1) < 1000000000000000000000 := by omega
      obtain ⟨F, hF⟩ : ∃ F, F = e % 2147483629 + 104729 * (t + 1) := ⟨_, rfl⟩
      rw [← hF] at f0 f1
      refine ⟨.int F, congrArg (fun z => some (some (V.int z))) hF.symm, .ref d, rfl, d, _, 1, .int e, rfl, rfl, SqL.of hd2, rfl, e, 2147483587, rfl, rfl, (by show (0 : Int) < 2147483587; decide), ?_⟩
      refine ⟨.ref d, rfl, d, _, 2, .int (t + 1), rfl, rfl, SqL.of hd2, rfl, 7919, t + 1, rfl, rfl, .inl ⟨by decide, by decide⟩, ?_⟩
      refine ⟨.ref d, rfl, d, _, 2, .int (t + 1), rfl, rfl, SqL.of hd2, rfl, _, _, rfl, rfl, mulx_ok (a := 64) (b := 64) (by omega) (by omega) (by decide), _, _, rfl, rfl, _, _, rfl, rfl, _, _, rfl, rfl, ?_⟩
      have g0 : 0 ≤ 7919 * (t + 1) * (t + 1) := Int.mul_nonneg (by omega) (by omega)
      have g1 : 7919 * (t + 1) * (t + 1) ≤ (7919 * 1000000000001) * 1000000000001 := Int.mul_le_mul (by omega) (by omega) (by omega) (by omega)
      generalize 7919 * (t + 1) * (t + 1) = G at g0 g1 ⊢
      refine ⟨mulx_ok (a := 100) (b := 100) (by omega) (by omega) (by decide), ?_⟩
      have h0 : 0 ≤ F * (e % 2147483587 + G + 11) := Int.mul_nonneg f0 (by omega)
      have h1 : F * (e % 2147483587 + G + 11) ≤ 1000000000000000000000 * 10000000000000000000000000000000 := Int.mul_le_mul (by omega) (by omega) (by omega) (by omega)
      obtain ⟨M, hM⟩ : ∃ M, M = F * (e % 2147483587 + G + 11) := ⟨_, rfl⟩
      rw [← hM] at h0 h1
      have big : M.natAbs < 2 ^ 1000 := by
        have : (1000000000000000000000 * 10000000000000000000000000000000 : Nat) < 2 ^ 1000 := by decide +kernel
        omega
      have mm0 := Int.emod_nonneg (M ^ 3) (show (2147483647 : Int) ≠ 0 by decide)
      have mm1 := Int.emod_lt_of_pos (M ^ 3) (show (0 : Int) < 2147483647 by decide)
      refine ⟨.int M, congrArg (fun z => some (some (V.int z))) hM.symm, M, 3, rfl, rfl, ⟨rfl, big⟩, _, _, rfl, rfl, (by show (0 : Int) < 2147483647; decide), _, _, rfl, rfl, ⟨by decide, by decide⟩, .int b, rfl, _, _, rfl, rfl, hb0, q _ _ (Int.emod_nonneg _ (by omega)) (Int.emod_lt_of_pos _ hb0) ⟨a, e, t + 1, hd2, by omega, by omega⟩ ?_⟩
      intro b' o e' n'
      rw [upd_ne n']
      exact e'
theorem ok_bg {f : Addr} {fd : FuncData} {k : Nat} (F : Fun K "_law_begun" "_law_begun" sBg f fd) (mx : mg "max" = none) : FnOk P w K mg base CX0 (k + 1) f fd ["cell", "k"] spBg := by
  refine F.ok scBg (fun vs H Q E h => ?_) (fun cdv A outer s H vs Q E hr h => ?_)
  · obtain ⟨c, k, rfl, _⟩ := h
    rfl
  · obtain ⟨c, k, rfl, k0, k1, q⟩ := h
    refine ⟨_, pss_one (ps_ret (pe_lst (pa_cons (pe_callB (call_max2 rfl) (by rfl) mx (by decide +kernel) (pa_cons pe_int (pa_cons (pe_op op_sub (pv 0) (pe_op op_pow pe_int pe_int)) pa_nil))) (pa_cons (pe_op op_add (pv 0) (pe_op op_mul pe_int (pv 1))) (pa_cons pe_int pa_nil))))), ?_⟩
    refine ⟨.int c, rfl, 10, 18, rfl, rfl, ⟨by decide, by decide, by decide⟩, c, _, rfl, rfl, 0, _, rfl, .int c, rfl, .int k, rfl, 977, k, rfl, rfl, .inl ⟨by decide, by decide⟩, c, _, rfl, rfl, by show 3 ≤ sizeLine; decide, fun l hl => ?_⟩
    exact q l _ hl (same_upd hl) ⟨_, _, 0, upd_same, Int.le_refl _, Int.le_refl _⟩
theorem ok_pk {f : Addr} {fd : FuncData} {k : Nat} (F : Fun K "_law_pick" "_law_pick" sPk f fd) (T : Tx mg) (fN : Addr) (fdN : FuncData) (GN : FnOk P w K mg base CX0 (k + 1) fN fdN ["draw", "below"] spNx) (mN : mg "_law_next" = some (.ref fN)) (kN : PySem.W.keepIn K (.ref fN) = true) (bN : Binds K fdN ["draw", "below"] []) : FnOk P w K mg base CX0 (k + 2) f fd ["draw", "some"] (spPk K) := by
  refine F.ok scPk (fun vs H Q E h => ?_) (fun cdv A outer s H vs Q E hr h => ?_)
  · obtain ⟨d, x, n, rfl, _⟩ := h
    rfl
  · obtain ⟨d, x, n, rfl, D, hn, h⟩ := h
    have hu := hu_of hr
    rcases h with ⟨l, xs, rfl, nl, hl, x0, x1, q⟩ | ⟨z, rfl, z0, z1, q⟩
    · refine ⟨_, pss_one (ps_ret (pe_ix ix_list (pv 1) (pe_call GN hr (by rfl) mN kN bN .nil pass0 (pa_cons (pv 0) (pa_cons (pe_callB call_len_seq (by rfl) T.len PySem.boot_len (pa_cons (pv 1) pa_nil)) pa_nil))) (fun _ _ => rfl))), ?_⟩
      refine ⟨.ref l, rfl, .ref d, rfl, .ref l, rfl, l, xs, rfl, .inl (SqL.of hl), d, (xs.length : Int), n, rfl, D, hn, by omega, by omega, fun m H1 m0 m1 D1 dn1 => ?_⟩
      obtain ⟨j, rfl⟩ := Int.eq_ofNat_of_zero_le m0
      have hj : j < xs.length := by omega
      have hx : xs[j]? = some xs[j] := List.getElem?_eq_getElem hj
      exact ⟨l, xs, (j : Int), xs[j], rfl, rfl, SqL.of (dn1 _ _ hl nl), atI_nat hx, q j _ H1 hx D1 dn1⟩
    · refine ⟨_, pss_one (ps_ret (pe_ix ix_str (pv 1) (pe_call GN hr (by rfl) mN kN bN .nil pass0 (pa_cons (pv 0) (pa_cons (pe_callB call_len_str (by rfl) T.len PySem.boot_len (pa_cons (pv 1) pa_nil)) pa_nil))) (fun _ _ => rfl))), ?_⟩
      have zs : z.length ≤ sizeLine := Nat.le_of_lt (small1000 z1)
      refine ⟨.str z, rfl, .ref d, rfl, .str z, rfl, z, rfl, zs, d, (z.length : Int), n, rfl, D, hn, by omega, by omega, fun m H1 m0 m1 D1 dn1 => ?_⟩
      obtain ⟨j, rfl⟩ := Int.eq_ofNat_of_zero_le m0
      have hj : j < z.cps.toList.length := by
        have : z.cps.toList.length = z.length := by simp [Str.length]
        omega
      have hx : z.cps.toList[j]? = some z.cps.toList[j] := List.getElem?_eq_getElem hj
      exact ⟨z, (j : Int), _, rfl, rfl, zs, atI_nat hx, q _ H1 (List.getElem_mem hj) D1 dn1⟩
end
end Dt
namespace Dt
open PySem PySem.Spec PyProof.Rows L2 L2X
open SX (S)
theorem map_at2 {α : Type} {f : α → V} {l : List α} {i : Nat} {x : V} (h : (l.map f)[i]? = some x) : ∃ a, l[i]? = some a ∧ x = f a := by
  rw [List.getElem?_map] at h
  cases e : l[i]? with
  | none =>
    rw [e] at h
    cases h
  | some z =>
    rw [e] at h
    exact ⟨z, rfl, (Option.some.inj h).symm⟩
theorem Grid.dn {H H' : Hp} {d g : Addr} {as : List Addr} {ls : List (List Nat)} (G : Grid H g as ls) (s : Do d H H') (ng : g ≠ d) (na : ∀ a ∈ as, a ≠ d) : Grid H' g as ls :=
  ⟨s _ _ G.top ng, G.len, fun i a l h1 h2 => s _ _ (G.row i a l h1 h2) (na a (List.mem_of_getElem? h1)), G.nd, G.off⟩
/-- rows under work, new since H0, the drawing list at d -/
structure GridD (d : Addr) (H0 H : Hp) (g : Addr) (as : List Addr) (ls : List (List Nat)) : Prop where
  gr : Grid H g as ls
  sm : Do d H0 H
  ng : H0 g = none
  nr : ∀ a ∈ as, H0 a = none
  gd : g ≠ d
  ad : ∀ a ∈ as, a ≠ d
theorem GridD.dn {d : Addr} {H0 H H' : Hp} {g : Addr} {as : List Addr} {ls : List (List Nat)} (G : GridD d H0 H g as ls) (s : Do d H H') : GridD d H0 H' g as ls := ⟨G.gr.dn s G.gd G.ad, G.sm.trans s, G.ng, G.nr, G.gd, G.ad⟩
theorem GridD.put {d : Addr} {H0 H : Hp} {g a : Addr} {as : List Addr} {ls : List (List Nat)} {r c x : Nat} {l : List Nat} (G : GridD d H0 H g as ls) (ha : as[r]? = some a) (hl : ls[r]? = some l) : GridD d H0 (upd H a (.lst ((l.map ch).set c (ch x)))) g as (ls.set r (l.set c x)) :=
  ⟨G.gr.put ha hl, G.sm.upd (G.nr a (List.mem_of_getElem? ha)), G.ng, G.nr, G.gd, G.ad⟩
theorem GridD.same' {d : Addr} {H0 H : Hp} {g E : Addr} {as : List Addr} {ls : List (List Nat)} {ys : List V} (G : GridD d H0 H g as ls) (n1 : g ≠ E) (n2 : ∀ a ∈ as, a ≠ E) (n3 : H0 E = none) : GridD d H0 (upd H E (.lst ys)) g as ls :=
  ⟨⟨by rw [upd_ne n1]; exact G.gr.top, G.gr.len, fun i a l h1 h2 => by rw [upd_ne (n2 a (List.mem_of_getElem? h1))]; exact G.gr.row i a l h1 h2, G.gr.nd, G.gr.off⟩, G.sm.upd n3, G.ng, G.nr, G.gd, G.ad⟩
theorem Grid.none {H : Hp} {g E : Addr} {as : List Addr} {ls : List (List Nat)} (G : Grid H g as ls) (hE : H E = none) : g ≠ E ∧ ∀ a ∈ as, a ≠ E := by
  refine ⟨fun e => ?_, fun a ha e => ?_⟩
  · have n1 := G.top
    rw [e, hE] at n1
    cases n1
  · subst e
    obtain ⟨j, hj⟩ := List.mem_iff_getElem?.mp ha
    have hlt : j < ls.length := by
      rw [← G.len]
      exact (List.getElem?_eq_some_iff.mp hj).1
    have n1 := G.row j _ _ hj (List.getElem?_eq_getElem hlt)
    rw [hE] at n1
    cases n1
theorem RowsR.put {high wide r c x : Nat} {ls : List (List Nat)} {l : List Nat} (R : RowsR high wide ls) (hl : ls[r]? = some l) (hx : x = 35 ∨ x = 46) : RowsR high wide (ls.set r (l.set c x)) := by
  refine ⟨by rw [List.length_set, R.len], fun m hm => ?_⟩
  rcases List.mem_or_eq_of_mem_set hm with q | q
  · exact R.row m q
  · subst q
    have rl := R.row l (List.mem_of_getElem? hl)
    refine ⟨by rw [List.length_set, rl.len], fun y hy => ?_⟩
    rcases List.mem_or_eq_of_mem_set hy with q2 | q2
    · exact rl.sg y q2
    · rw [q2]
      exact hx
theorem dot_hash (b : Bool) : ∃ c : Nat, (c = 35 ∨ c = 46) ∧ atI (".#" : Str).cps.toList (if b = true then 1 else 0) = some c := by
  cases b with
  | true => exact ⟨35, .inl rfl, by decide +kernel⟩
  | false => exact ⟨46, .inr rfl, by decide +kernel⟩
section
variable {P : Program} {w : World} {K : PySem.W.Frag} {mg : Str → Option Value} {base : Heap}
end
end Dt
/-! a range by steps, kept under a name and walked later -/
namespace L2X
open PySem PySem.Spec PyProof.Rows L2
def RngO (a : Addr) (i j c : Int) : HO := .ext fun h => ∃ t u v, IsRange h a i j c t u v
/-- i, i + c, .. below j: n of them -/
theorem rgC_pos {i j c : Int} {n : Nat} (hi : -1000000 ≤ i) (hi' : i ≤ 1000000) (hj : -1000000 ≤ j) (hj' : j ≤ 1000000) (hc : 1 ≤ c) (hc' : c ≤ 1000000) (h1 : ∀ k : Nat, k < n → i + k * c < j) (h2 : j ≤ i + n * c) : RgC i j c n := by
  have hs : Builtin.Range.rangeSize i j c = n := by
    unfold Builtin.Range.rangeSize
    rw [if_pos (by omega)]
    by_cases hlt : i < j
    · rw [if_pos hlt]
      have hn : 1 ≤ n := by
        rcases n with _ | n
        · simp at h2
          omega
        · omega
      have ha := h1 (n - 1) (by omega)
      have e1 : ((n - 1 : Nat) : Int) = (n : Int) - 1 := by omega
      rw [e1] at ha
      have hb : (n : Int) * c = ((n : Int) - 1) * c + c := by
        rw [Int.sub_mul, Int.one_mul]
        omega
      have q : (j - i - 1) / c = (n : Int) - 1 := by
        apply Int.le_antisymm
        · exact Int.le_of_lt_add_one (Int.ediv_lt_of_lt_mul (by omega) (by rw [show (n : Int) - 1 + 1 = n by omega]; omega))
        · exact (Int.le_ediv_iff_mul_le (by omega)).mpr (by omega)
      rw [q]
      omega
    · rw [if_neg hlt]
      rcases n with _ | n
      · rfl
      · have := h1 0 (by omega)
        simp at this
        omega
  have hn : (n : Int) ≤ 2000001 := by
    rcases n with _ | n
    · decide
    · have := h1 n (by omega)
      have h3 : (n : Int) * 1 ≤ n * c := Int.mul_le_mul_of_nonneg_left hc (by omega)
      omega
  refine ⟨by omega, by omega, ?_, hs⟩
  unfold Builtin.Range.small
  rw [hs, if_pos (by omega)]
  simp only [Builtin.Range.rangeFitsLong, Bool.and_eq_true, Bool.or_eq_true, decide_eq_true_eq]
  refine ⟨⟨⟨⟨⟨by omega, by omega⟩, by omega, by omega⟩, by omega, by omega⟩, by omega, by omega⟩, .inr ⟨by omega, by omega⟩⟩
section
variable {X : Cx}
theorem cr_range3 : CallR X (.type "range") (fun vs H Q => ∃ i j c, vs = [V.int i, V.int j, V.int c] ∧ c ≠ 0 ∧ c.natAbs < 1073741824 ∧ ∀ p, H p = none → Q (.ref p) (upd H p (RngO p i j c))) := by
  intro pins s σ H vs us Q I r h
  obtain ⟨i, j, c, rfl, c0, c1, q⟩ := h
  cases r with
  | cons r rr =>
    cases rr with
    | cons r' rr =>
      cases rr with
      | cons r'' rr =>
        cases rr
        obtain ⟨t, rfl⟩ := r
        obtain ⟨t', rfl⟩ := r'
        obtain ⟨t'', rfl⟩ := r''
        refine call_range_3 c0 ?_ (.inl (PyProof.noPylong_small c1))
        refine ⟨.ref s.heap.objs.size, upd H s.heap.objs.size (RngO s.heap.objs.size i j c), I.laid (t' := s.toks) (fun b o e => Heap.get?_push_of_some _ e) (Nat.le_refl _) ?_, rfl, q _ (I.hok.fresh (Nat.le_refl _))⟩
        refine ⟨⟨t, t', t'', Heap.get?_push_size _ rfl⟩, ⟨_, Heap.get?_push_size _ rfl⟩, ?_⟩
        rintro h1 h2 ⟨t1, u1, v1, e⟩ k
        exact ⟨t1, u1, v1, k _ e⟩
def iRngO (te : TE) : TI := fun σ H R => te σ H fun x H1 => ∃ (a : Addr) (i j c : Int) (n : Nat), x = .ref a ∧ H1 a = some (RngO a i j c) ∧ RgC i j c n ∧ R (Itc i c n) H1
theorem pi_rngO {tg e : Expr} {te : TE} (he : PE X e te) : PI X tg e (iRngO te) := by
  refine ⟨fun pins s σ H R I h => ?_⟩
  refine thn (he.run pins s σ H _ I h) fun v s1 ⟨x, H1, I1, r1, q1⟩ => ?_
  obtain ⟨a, i, j, k, n, e, hq, ⟨c0, c1, c2, c3⟩, q⟩ := q1
  subst e
  cases r1
  obtain ⟨⟨t, u, v, hr⟩, _, _⟩ := I1.hok _ _ hq
  refine wpAny_pyIter_range hr c2 ?_
  refine pi_one (tk := s1.toks) I1 _ (turn_rangeC _ i k n) ?_ q
  have e1 : i + ((0 : Nat) : Int) * k = i := by simp
  have e2 : (n : Int) - ((0 : Nat) : Int) = Builtin.Range.rangeSize i j k := by rw [c3]; simp
  show IsRangeIter _ _ (i + ((0 : Nat) : Int) * k) ((n : Int) - ((0 : Nat) : Int)) k
  rw [e1, e2]
  exact Heap.get?_push_size _ rfl
theorem lc_rangeC {lo c : Int} {n : Nat} {g : TG} {tt : TT} {te : TE} {vs : List Nat} {σ : L2.St} {H1 : Hp} {D : Addr} {Qd : Hp → Prop} (Pv : Nat → Hp → Prop) (h0 : Pv 0 (upd H1 D (.lst [])))
    (hs : ∀ i H, i < n → Pv i H → g (.int (lo + (i : Nat) * c)) (wipe σ vs) H fun σ2 H2 => wipe σ2 vs = wipe σ vs ∧ tt σ2 H2 fun b H3 =>
      if b = true then te σ2 H3 fun y H4 => ∃ acc, H4 D = some (.lst acc) ∧ acc.length < sizeLine ∧ Pv (i + 1) (upd H4 D (.lst (acc ++ [y]))) else Pv (i + 1) H3) (hd : ∀ H, Pv n H → Qd H) :
    ∃ W : Nat → Nat → Hp → Prop, (∃ m, W 0 m (upd H1 D (.lst []))) ∧ ∀ i m H, W i m H →
      ((Itc lo c n).stop i H ∧ Qd H) ∨ ((Itc lo c n).go i H ∧ ∃ Nx : Hp → Prop, (∀ H', Nx H' → ∃ m', m' < m ∧ W (i + 1) m' H') ∧ ∀ x H', (Itc lo c n).yld i H x H' → g x (wipe σ vs) H' fun σ2 H2 => wipe σ2 vs = wipe σ vs ∧ tt σ2 H2 fun b H3 =>
        if b = true then te σ2 H3 fun y H4 => ∃ acc, H4 D = some (.lst acc) ∧ acc.length < sizeLine ∧ Nx (upd H4 D (.lst (acc ++ [y]))) else Nx H3) := by
  refine ⟨fun i m H => m = n - i ∧ i ≤ n ∧ Pv i H, ⟨n, by simp, Nat.zero_le _, h0⟩, ?_⟩
  rintro i m H ⟨rfl, hi, p⟩
  by_cases hlt : i < n
  · refine .inr ⟨hlt, Pv (i + 1), fun H' p' => ⟨n - (i + 1), by omega, rfl, hlt, p'⟩, fun x H' y => ?_⟩
    obtain ⟨e, y⟩ := y
    subst e y
    exact hs i _ hlt p
  · have e : i = n := by omega
    subst e
    exact .inl ⟨Nat.le_refl _, hd H p⟩
end
end L2X
namespace Dt
open PySem PySem.Spec PyProof.Rows L2 L2X
open SX (S)
/-! ### pages that are drawn -/
abbrev sBk : Stmt := topS 47
theorem scBk : FnScope ["deep", "wide", "turn"] ["deep", "wide"] (defScope sBk) := ⟨rfl, rfl, rfl, by decide +kernel, rfl, by decide +kernel, by decide +kernel⟩
def spBk : Sp := fun vs H Q _ => ∃ deep wide : Nat, vs = [.int deep, .int wide] ∧ 1 ≤ deep ∧ deep ≤ 120 ∧ 1 ≤ wide ∧ wide ≤ 120 ∧
  ∀ (g : Addr) (as : List Addr) H', Same H H' → H g = none → (∀ a ∈ as, H a = none) → Grid H' g as (List.replicate deep (List.replicate wide 46)) → Q (.ref g) H'
abbrev sTd : Stmt := topS 48
theorem scTd : FnScope ["page", "line"] ["page"] (defScope sTd) := ⟨rfl, rfl, rfl, by decide +kernel, rfl, by decide +kernel, by decide +kernel⟩
def spTd : Sp := fun vs H Q _ => ∃ (g : Addr) (as : List Addr) (high wide : Nat) (ls : List (List Nat)), vs = [.ref g] ∧ Grid H g as ls ∧ RowsR high wide ls ∧ high ≤ 120 ∧ wide ≤ 120 ∧
  ∀ (p : Addr) H', Same H H' → H p = none → H' p = some (.tup (ls.map rv)) → Q (.ref p) H'
abbrev sPg : Stmt := topS 49
abbrev nPg : List Str := ["draw", "deep", "wide", "page", "way", "dense", "turn", "column", "top", "left", "down", "across", "at"]
theorem scPg : FnScope nPg ["draw"] (defScope sPg) := ⟨rfl, rfl, rfl, by decide +kernel, rfl, by decide +kernel, by decide +kernel⟩
def spPg : Sp := fun vs H Q _ => ∃ (d : Addr) (n : Nat), vs = [.ref d] ∧ Du H d n ∧ n + 20000 ≤ fuel ∧
  ∀ (p : Addr) (high wide : Nat) (rs : List (List Nat)) (H' : Hp), PicR high wide rs → high ≤ 30 → wide ≤ 50 → H p = none → H' p = some (.tup (rs.map rv)) → Du H' d (n + 20000) → Do d H H' → Q (.ref p) H'
theorem rep_ch (k : Nat) : (List.replicate k [V.str "."]).flatten = (List.replicate k 46).map ch := by
  induction k with
  | zero => rfl
  | succ k ih =>
    rw [List.replicate_succ, List.flatten_cons, ih, List.replicate_succ, List.map_cons, s_dot]
    rfl
theorem rows_white (deep wide : Nat) : RowsR deep wide (List.replicate deep (List.replicate wide 46)) := by
  refine ⟨List.length_replicate, fun l hl => ?_⟩
  rw [(List.mem_replicate.mp hl).2]
  exact ⟨List.length_replicate, fun c hc => .inr (List.mem_replicate.mp hc).2⟩
theorem GridD.add {d : Addr} {H0 H : Hp} {g a : Addr} {as : List Addr} {ls : List (List Nat)} {l : List Nat} {n : Nat} (G : GridD d H0 H g as ls) (D : Du H d n) (hn : H a = none) : GridD d H0 (upd (upd H a (.lst (l.map ch))) g (.lst (as.map V.ref ++ [V.ref a]))) g (as ++ [a]) (ls ++ [l]) := by
  have na := G.sm.nn D hn
  refine ⟨G.gr.add hn, (G.sm.upd na).upd G.ng, G.ng, fun b hb => ?_, G.gd, fun b hb => ?_⟩
  · rcases List.mem_append.mp hb with z | z
    · exact G.nr b z
    · rw [List.mem_singleton.mp z]
      exact na
  · rcases List.mem_append.mp hb with z | z
    · exact G.ad b z
    · rw [List.mem_singleton.mp z]
      exact D.new hn
theorem GridD.push {d : Addr} {H0 H : Hp} {g a : Addr} {as : List Addr} {ls : List (List Nat)} {l : List Nat} (G : GridD d H0 H g as ls) (ha : H a = some (.lst (l.map ch))) (na : H0 a = none) (ng : a ≠ g) (nd : a ≠ d) (nas : ∀ b ∈ as, b ≠ a) : GridD d H0 (upd H g (.lst (as.map V.ref ++ [V.ref a]))) g (as ++ [a]) (ls ++ [l]) := by
  refine ⟨⟨?_, ?_, fun i b m hb hm => ?_, ?_, ?_⟩, G.sm.upd G.ng, G.ng, fun b hb => ?_, G.gd, fun b hb => ?_⟩
  · rw [upd_same, List.map_append]
    rfl
  · rw [List.length_append, List.length_append, G.gr.len]
    rfl
  · have nbg : b ≠ g := by
      rintro rfl
      rcases List.mem_append.mp (List.mem_of_getElem? hb) with z | z
      · exact G.gr.off z
      · exact ng (List.mem_singleton.mp z).symm
    rw [upd_ne nbg]
    by_cases hi : i < as.length
    · rw [List.getElem?_append_left hi] at hb
      rw [List.getElem?_append_left (by rw [← G.gr.len]; exact hi)] at hm
      exact G.gr.row i b m hb hm
    · rw [List.getElem?_append_right (by omega)] at hb
      rw [List.getElem?_append_right (by rw [← G.gr.len]; omega), ← G.gr.len] at hm
      have e0 : i - as.length = 0 := by
        have := (List.getElem?_eq_some_iff.mp hb).1
        rw [List.length_singleton] at this
        omega
      rw [e0] at hb hm
      cases hb
      cases hm
      exact ha
  · refine List.nodup_append.mpr ⟨G.gr.nd, List.nodup_cons.mpr ⟨(fun h => nomatch h), List.nodup_nil⟩, fun x hx y hy => ?_⟩
    rw [List.mem_singleton.mp hy]
    exact nas x hx
  · intro h
    rcases List.mem_append.mp h with z | z
    · exact G.gr.off z
    · exact ng (List.mem_singleton.mp z).symm
  · rcases List.mem_append.mp hb with z | z
    · exact G.nr b z
    · rw [List.mem_singleton.mp z]
      exact na
  · rcases List.mem_append.mp hb with z | z
    · exact G.ad b z
    · rw [List.mem_singleton.mp z]
      exact nd
theorem RowsR.snoc {high wide : Nat} {ls : List (List Nat)} {l : List Nat} (R : RowsR high wide ls) (h : RowR wide l) : RowsR (high + 1) wide (ls ++ [l]) := by
  refine ⟨by rw [List.length_append, R.len]; rfl, fun m hm => ?_⟩
  rcases List.mem_append.mp hm with z | z
  · exact R.row m z
  · rw [List.mem_singleton.mp z]
    exact h
theorem pick3 {a b c j : Nat} {x : V} (h : [V.int (a : Int), V.int (b : Int), V.int (c : Int)][j]? = some x) : ∃ g : Nat, x = .int (g : Int) ∧ (g = a ∨ g = b ∨ g = c) := by
  rcases j with _ | _ | _ | j
  · cases h
    exact ⟨a, rfl, .inl rfl⟩
  · cases h
    exact ⟨b, rfl, .inr (.inl rfl)⟩
  · cases h
    exact ⟨c, rfl, .inr (.inr rfl)⟩
  · cases h
section
variable {P : Program} {w : World} {K : PySem.W.Frag} {mg : Str → Option Value} {base : Heap}
theorem ok_bk {f : Addr} {fd : FuncData} {k : Nat} (F : Fun K "_law_blank" "_law_blank" sBk f fd) (T : Tx mg) : FnOk P w K mg base CX0 (k + 1) f fd ["deep", "wide"] spBk := by
  refine F.ok scBk (fun vs H Q E h => ?_) (fun cdv A outer s H vs Q E hr h => ?_)
  · obtain ⟨deep, wide, rfl, _⟩ := h
    rfl
  · obtain ⟨deep, wide, rfl, d0, d1, w0, w1, q⟩ := h
    have nd := scBk.nd
    refine ⟨_, pss_one (ps_ret (pe_lc (own := [("turn", 2)]) (g := gName 2) (tt := tYes) rfl nd (pi_range1 rfl T.range (pa_cons (pv 0) pa_nil)) (blkOk_by (N := ["deep", "wide", "turn"]) (sc := defScope sBk) (by decide +kernel)) (fun _ _ _ _ _ => pg_name (i := 2) nd rfl (Or.inl rfl)) (fun _ _ _ _ _ => pts_nil)
      (fun _ _ _ _ _ => pe_op op_rep (pe_lst (pa_cons pe_str pa_nil)) (pv 1)))), ?_⟩
    refine ⟨.int deep, rfl, deep, rfl, by omega, by omega, fun D hD => lc_range (lo := 0) (n := deep) (fun i H3 => ∃ as, GridN H H3 D as (List.replicate i (List.replicate wide 46))) ?_ ?_ ?_⟩
    · exact ⟨[], ⟨upd_same, rfl, (fun i a l h => nomatch h), List.nodup_nil, (fun h => nomatch h)⟩, same_upd hD, hD, (fun a h => nomatch h)⟩
    · rintro i H3 hi ⟨as, G⟩
      refine ⟨rfl, by show 1 ≤ sizeLine; decide, fun l hl => ?_⟩
      have sl := same_upd (o := .lst [V.str "."]) hl
      have nl := G.gr.none hl
      have G2 := G.same sl
      refine ⟨.int wide, rfl, l, wide, [V.str "."], rfl, rfl, upd_same, by omega, by omega, ?_, fun r hr' => ?_⟩
      · rw [Int.toNat_natCast]
        show 1 * wide ≤ sizeLine
        have := small1000 (show wide ≤ 1000 by omega)
        omega
      · rw [Int.toNat_natCast, rep_ch]
        refine ⟨as.map V.ref, ?_, ?_, as ++ [r], ?_⟩
        · rw [upd_ne (ne_of_none G2.gr.top hr')]
          exact G2.gr.top
        · rw [List.length_map, G.gr.len, List.length_replicate]
          exact small1000 (by omega)
        · have e : List.replicate (i + 1) (List.replicate wide 46) = List.replicate i (List.replicate wide 46) ++ [List.replicate wide 46] := by
            rw [← List.replicate_append_replicate]
            rfl
          rw [e]
          exact G2.add hr'
    · rintro H3 ⟨as, G⟩
      exact q D as H3 G.sm hD G.nr G.gr
theorem ok_td {f : Addr} {fd : FuncData} {k : Nat} (F : Fun K "_law_told" "_law_told" sTd f fd) (T : Tx mg) : FnOk P w K mg base CX0 (k + 1) f fd ["page"] spTd := by
  refine F.ok scTd (fun vs H Q E h => ?_) (fun cdv A outer s H vs Q E hr h => ?_)
  · obtain ⟨g, as, high, wide, ls, rfl, _⟩ := h
    rfl
  · obtain ⟨g, as, high, wide, ls, rfl, G, R, h1, w1, q⟩ := h
    have nd := scTd.nd
    refine ⟨_, pss_one (ps_ret (pe_callTy call_tuple_of (by rfl) T.tuple (by decide +kernel) (pa_cons (pe_lc (own := [("line", 1)]) (g := gName 1) (tt := tYes) rfl nd (pi_list (pv 0)) (blkOk_by (N := ["page", "line"]) (sc := defScope sTd) (by decide +kernel)) (fun _ _ _ _ _ => pg_name (i := 1) nd rfl (Or.inl rfl)) (fun _ _ _ _ _ => pts_nil)
      (fun _ _ _ _ _ => pe_joinK (K := K) rfl pe_str (pv 1))) pa_nil))), ?_⟩
    have lh : as.length = high := by rw [G.len, R.len]
    refine ⟨.ref g, rfl, g, rfl, ⟨_, SqL.of G.top⟩, fun E hE => lc_list (K := K) (a := g) (xs := as.map V.ref) (fun i H6 => Same H H6 ∧ H6 E = some (.lst ((ls.take i).map rv))) ⟨same_upd hE, upd_same⟩ (fun i H6 _ z => SqL.of (z.1 _ _ G.top)) ?_ ?_⟩
    · rintro i x H6 hi ⟨sm, h6⟩
      obtain ⟨b, hb, rfl⟩ := map_at2 hi
      have hil : i < ls.length := by
        rw [← G.len]
        exact (List.getElem?_eq_some_iff.mp hb).1
      have e1 : ls[i]? = some ls[i] := List.getElem?_eq_getElem hil
      generalize ls[i] = l at e1
      have rl := R.row l (List.mem_of_getElem? e1)
      have h6b := sm _ _ (G.row i b l hb e1)
      refine ⟨rfl, ⟨"", rfl⟩, .ref b, rfl, "", b, l.map fun c => (⟨#[c]⟩ : Str), rfl, rfl, .inl (SqL.of ?_), ?_, ?_⟩
      · rw [h6b, List.map_map]
        rfl
      · rw [lens_rows]
        have := rl.len
        show l.length + _ * 0 ≤ 16777216
        omega
      · rw [join_row]
        refine ⟨_, h6, ?_, same_over sm hE, ?_⟩
        · rw [List.length_map, List.length_take]
          exact small1000 (by have := R.len; omega)
        · rw [upd_same, take_snoc e1, List.map_append]
          rfl
    · rintro H6 ⟨sm, h6⟩
      have e : ls.take (as.map V.ref).length = ls := List.take_of_length_le (by rw [List.length_map, G.len]; exact Nat.le_refl _)
      rw [e] at h6
      refine ⟨E, _, rfl, .inl ⟨SqL.of h6, fun p hp => ?_⟩⟩
      exact q p _ (sm.trans (same_upd hp)) (sm.free hp) upd_same
theorem ok_pg {f : Addr} {fd : FuncData} {k : Nat} (F : Fun K "_law_page" "_law_page" sPg f fd) (T : Tx mg) (mi : mg "min" = none) (GN : Pm P w K mg base CX0 (k + 2) "_law_next" ["draw", "below"] spNx) (GK : Pm P w K mg base CX0 (k + 2) "_law_pick" ["draw", "some"] (spPk K))
    (GB : Pm P w K mg base CX0 (k + 2) "_law_blank" ["deep", "wide"] spBk) (GT : Pm P w K mg base CX0 (k + 2) "_law_told" ["page"] spTd) : FnOk P w K mg base CX0 (k + 3) f fd ["draw"] spPg := by
  obtain ⟨fN, fdN, GN, mN, kN, bN⟩ := GN.ex
  obtain ⟨fK, fdK, GK, mK, kK, bK⟩ := GK.ex
  obtain ⟨fB, fdB, GB, mB, kB, bB⟩ := GB.ex
  obtain ⟨fT, fdT, GT, mT, kT, bT⟩ := GT.ex
  refine F.ok scPg (fun vs H Q E h => ?_) (fun cdv A outer s H vs Q E hr h => ?_)
  · obtain ⟨d, n, rfl, _⟩ := h
    rfl
  · obtain ⟨d, n, rfl, D, hn, q⟩ := h
    have nd := scPg.nd
    refine ⟨_, C8.pss_cut (ps_par (i := 1) (j := 2) (by rfl) nd rfl rfl (by decide) rfl rfl (pa_cons (pe_op op_add pe_int (pe_call GN hr (by rfl) mN kN bN .nil pass0 (pa_cons (pv 0) (pa_cons (pe_call GK hr (by rfl) mK kK bK .nil pass0 (pa_cons (pv 0) (pa_cons (pe_lst (pa_cons pe_int (pa_cons pe_int (pa_cons pe_int pa_nil)))) pa_nil))) pa_nil)))) (pa_cons (pe_op op_add pe_int (pe_call GN hr (by rfl) mN kN bN .nil pass0 (pa_cons (pv 0) (pa_cons (pe_call GK hr (by rfl) mK kK bK .nil pass0 (pa_cons (pv 0) (pa_cons (pe_lst (pa_cons pe_int (pa_cons pe_int (pa_cons pe_int pa_nil)))) pa_nil))) pa_nil)))) pa_nil)) (by rfl))
      (C8.pss_cut (ps_par (i := 3) (j := 4) (by rfl) nd rfl rfl (by decide) rfl rfl (pa_cons (pe_call GB hr (by rfl) mB kB bB .nil pass0 (pa_cons (pv 1) (pa_cons (pv 2) pa_nil))) (pa_cons (pe_call GN hr (by rfl) mN kN bN .nil pass0 (pa_cons (pv 0) (pa_cons pe_int pa_nil))) pa_nil)) (by rfl))
      (C8.pss_cut (ps_if (pt_cmpR op_eq (pv 4) pe_int (nomark _))
          (pss_cons (ps_set (i := 5) nd rfl (.inr rfl) (pe_op op_add pe_int (pe_call GN hr (by rfl) mN kN bN .nil pass0 (pa_cons (pv 0) (pa_cons pe_int pa_nil)))))
          (pss_cons (ps_set (i := 3) nd rfl (.inl rfl) (pe_lst pa_nil))
          (pss_one (ps_for PassesOwn.never rfl (pi_range1 rfl T.range (pa_cons (pv 1) pa_nil)) (pg_name (i := 6) nd rfl (.inl rfl))
            (pss_one (ps_expr (pe_bm PySem.F.plainAttrs_list PySem.F.slot_list_append PySem.F.type_list_append mt_append (pv 3) (pa_cons (pe_lc (own := [("column", 7)]) (g := gName 7) (tt := tYes) rfl nd (pi_range1 rfl T.range (pa_cons (pv 2) pa_nil)) (blkOk_by (N := nPg) (sc := defScope sPg) (by decide +kernel)) (fun _ _ _ _ _ => pg_name (i := 7) nd rfl (Or.inl rfl)) (fun _ _ _ _ _ => pts_nil)
              (fun _ _ _ _ _ => pe_ix ix_str pe_str (pe_callTy call_int1 (by rfl) T.int (by decide +kernel) (pa_cons (pe_cmpR op_lt (pe_call GN hr (by rfl) mN kN bN .nil pass0 (pa_cons (pv 0) (pa_cons pe_int pa_nil))) (pv 5) (nomark _)) pa_nil)) (fun _ _ => rfl))) pa_nil))))))))
          (pss_one (ps_for PassesOwn.never rfl (pi_range1 rfl T.range (pa_cons (pe_call GN hr (by rfl) mN kN bN .nil pass0 (pa_cons (pv 0) (pa_cons pe_int pa_nil))) pa_nil)) (pg_name (i := 6) nd rfl (.inl rfl))
            (pss_cons (ps_par (i := 8) (j := 9) (by rfl) nd rfl rfl (by decide) rfl rfl (pa_cons (pe_call GN hr (by rfl) mN kN bN .nil pass0 (pa_cons (pv 0) (pa_cons (pv 1) pa_nil))) (pa_cons (pe_call GN hr (by rfl) mN kN bN .nil pass0 (pa_cons (pv 0) (pa_cons (pv 2) pa_nil))) pa_nil)) (by rfl))
            (pss_cons (ps_par (i := 10) (j := 11) (by rfl) nd rfl rfl (by decide) rfl rfl (pa_cons (pe_op op_add pe_int (pe_call GN hr (by rfl) mN kN bN .nil pass0 (pa_cons (pv 0) (pa_cons pe_int pa_nil)))) (pa_cons (pe_op op_add pe_int (pe_call GN hr (by rfl) mN kN bN .nil pass0 (pa_cons (pv 0) (pa_cons pe_int pa_nil)))) pa_nil)) (by rfl))
            (pss_one (ps_for PassesOwn.never rfl (pi_range2 rfl T.range (pa_cons (pv 8) (pa_cons (pe_callB (call_min2 rfl) (by rfl) mi (by decide +kernel) (pa_cons (pv 1) (pa_cons (pe_op op_add (pv 8) (pv 10)) pa_nil))) pa_nil))) (pg_name (i := 12) nd rfl (.inl rfl))
              (pss_one (ps_for PassesOwn.never rfl (pi_range2 rfl T.range (pa_cons (pv 9) (pa_cons (pe_callB (call_min2 rfl) (by rfl) mi (by decide +kernel) (pa_cons (pv 2) (pa_cons (pe_op op_add (pv 9) (pv 11)) pa_nil))) pa_nil))) (pg_name (i := 7) nd rfl (.inl rfl))
                (pss_one (ps_asg pe_str (pg_sub (pe_ix ix_list (pv 3) (pv 12) (fun _ _ => rfl)) (pv 7) set_list))))))))))))
      (pss_one (ps_ret (pe_call GT hr (by rfl) mT kT bT .nil pass0 (pa_cons (pv 3) pa_nil)))))), ?_⟩
    have fu : n + 20000 ≤ 1000000000000 := hn
    refine ⟨fun σ' H' => ∃ deep wide : Nat, σ' = [some (.ref d), some (.int deep), some (.int wide), none, none, none, none, none, none, none, none, none, none] ∧ 1 ≤ deep ∧ deep ≤ 30 ∧ 1 ≤ wide ∧ wide ≤ 50 ∧ Du H' d (n + 4) ∧ Do d H H', ?_, ?_⟩
    · refine ⟨.ref d, rfl, .ref d, rfl, by show 3 ≤ sizeLine; decide, fun l1 hl1 => ⟨d, .ref l1, n, rfl, D.same (same_upd hl1), (by show _ ≤ 1000000000000; omega), .inl ⟨l1, _, rfl, D.new hl1, upd_same, by decide, by decide, fun j x H1 hx D1 dn1 => ?_⟩⟩⟩
      obtain ⟨g1, rfl, hg1⟩ := pick3 (a := 4) (b := 16) (c := 30) hx
      have dA := (Do.same (d := d) (same_upd (o := .lst [V.int 4, V.int 16, V.int 30]) hl1)).trans dn1
      refine ⟨d, g1, n + 1, rfl, D1, (by show _ ≤ 1000000000000; omega), by omega, by omega, fun m1 H2 a0 a1 D2 dn2 => ⟨1, m1, rfl, rfl, ?_⟩⟩
      obtain ⟨m1, rfl⟩ := Int.eq_ofNat_of_zero_le a0
      refine ⟨.ref d, rfl, .ref d, rfl, by show 3 ≤ sizeLine; decide, fun l2 hl2 => ⟨d, .ref l2, n + 2, rfl, D2.same (same_upd hl2), (by show _ ≤ 1000000000000; omega), .inl ⟨l2, _, rfl, D2.new hl2, upd_same, by decide, by decide, fun j2 x2 H3 hx2 D3 dn3 => ?_⟩⟩⟩
      obtain ⟨g2, rfl, hg2⟩ := pick3 (a := 4) (b := 24) (c := 50) hx2
      have dB := (Do.same (d := d) (same_upd (o := .lst [V.int 4, V.int 24, V.int 50]) hl2)).trans dn3
      refine ⟨d, g2, n + 3, rfl, D3, (by show _ ≤ 1000000000000; omega), by omega, by omega, fun m2 H4 b0 b1 D4 dn4 => ⟨1, m2, rfl, rfl, ?_⟩⟩
      obtain ⟨m2, rfl⟩ := Int.eq_ofNat_of_zero_le b0
      have e1 : (1 + (m1 : Int)) = ((1 + m1 : Nat) : Int) := by omega
      have e2 : (1 + (m2 : Int)) = ((1 + m2 : Nat) : Int) := by omega
      refine ⟨_, _, rfl, 1 + m1, 1 + m2, ?_, by omega, by omega, by omega, by omega, D4, (dA.trans dn2).trans (dB.trans dn4)⟩
      rw [← e1, ← e2]
      rfl
    rintro _ H1 ⟨deep, wide, rfl, d0, d1, w0, w1, D1, dn1⟩
    refine ⟨fun σ' H' => ∃ (g : Addr) (as : List Addr) (way : Int) (ls : List (List Nat)), σ' = [some (.ref d), some (.int deep), some (.int wide), some (.ref g), some (.int way), none, none, none, none, none, none, none, none] ∧ GridD d H H' g as ls ∧ RowsR deep wide ls ∧ Du H' d (n + 5), ?_, ?_⟩
    · refine ⟨.int deep, rfl, .int wide, rfl, deep, wide, rfl, d0, by omega, w0, by omega, fun g as H2 s2 ng nas G2 => ?_⟩
      have D2 := D1.same s2
      have nn : ∀ p, H1 p = none → H p = none := fun p hp => dn1.nn D1 hp
      have GD : GridD d H H2 g as (List.replicate deep (List.replicate wide 46)) := ⟨G2, dn1.trans (Do.same s2), nn g ng, fun a ha => nn a (nas a ha), D1.new ng, fun a ha => D1.new (nas a ha)⟩
      exact ⟨.ref d, rfl, d, 4, n + 4, rfl, D2, (by show _ ≤ 1000000000000; omega), by decide, by decide, fun way H3 _ _ D3 dn3 => ⟨_, _, rfl, g, as, way, _, rfl, GD.dn dn3, rows_white deep wide, D3⟩⟩
    rintro _ H2 ⟨g, as, way, ls, rfl, G2, R2, D2⟩
    refine ⟨fun σ' H' => ∃ (g : Addr) (as : List Addr) (ls : List (List Nat)) (y5 y6 y7 y8 y9 y10 y11 y12 : Option V), σ' = [some (.ref d), some (.int deep), some (.int wide), some (.ref g), some (.int way), y5, y6, y7, y8, y9, y10, y11, y12] ∧ GridD d H H' g as ls ∧ RowsR deep wide ls ∧ Du H' d (n + 19000), ?_, ?_⟩
    · refine ⟨.int way, rfl, rfl, _, rfl, ?_⟩
      cases decide (V.int way = V.int 0) with
      | true =>
        refine iteT ⟨.ref d, rfl, d, 30, n + 5, rfl, D2, (by show _ ≤ 1000000000000; omega), by decide, by decide, fun dn0 H3 _ _ D3 dn3 => ⟨1, dn0, rfl, rfl, by show 0 ≤ sizeLine; decide, fun p hp => ?_⟩⟩
        have G3 := G2.dn dn3
        have sp := same_upd (o := .lst []) hp
        have np : H p = none := G3.sm.nn D3 hp
        have GE : GridD d H (upd H3 p (.lst [])) p [] [] := ⟨⟨upd_same, rfl, (fun i a l h => nomatch h), List.nodup_nil, (fun h => nomatch h)⟩, G3.sm.trans (Do.same sp), np, (fun a h => nomatch h), D3.new hp, (fun a h => nomatch h)⟩
        refine ⟨.int deep, rfl, deep, rfl, by omega, by omega, for_range (lo := 0) (n := deep) (fun i σ H4 => ∃ (y6 : Option V) (as : List Addr) (ls : List (List Nat)), σ = [some (.ref d), some (.int deep), some (.int wide), some (.ref p), some (.int way), some (.int (1 + dn0)), y6, none, none, none, none, none, none] ∧ GridD d H H4 p as ls ∧ RowsR i wide ls ∧ Du H4 d (n + 6 + 200 * i)) ⟨none, [], [], rfl, GE, ⟨rfl, fun l h => nomatch h⟩, D3.same sp⟩ ?_ ?_⟩
        · rintro i σ H4 hi ⟨y6, as4, ls4, rfl, G4, R4, D4⟩
          refine ⟨.ref p, rfl, .inl ⟨rfl, _, SqL.of G4.gr.top⟩, .int wide, rfl, wide, rfl, by omega, by omega, fun Dd hDd => lc_range (lo := 0) (n := wide) (fun j H5 => ∃ cs : List Nat, cs.length = j ∧ (∀ c ∈ cs, c = 35 ∨ c = 46) ∧ H5 Dd = some (.lst (cs.map ch)) ∧ GridD d H H5 p as4 ls4 ∧ Du H5 d (n + 6 + 200 * i + j) ∧ Do d H4 H5) ?_ ?_ ?_⟩
          · have sD := same_upd (o := .lst []) hDd
            exact ⟨[], rfl, (fun _ h => nomatch h), upd_same, G4.dn (Do.same sD), D4.same sD, Do.same sD⟩
          · rintro j H5 hj ⟨cs, hcl, hcs, h5D, G5, D5, dn5⟩
            have nDd := D4.new hDd
            refine ⟨rfl, .ref d, rfl, d, 60, _, rfl, D5, (by show _ ≤ 1000000000000; omega), by decide, by decide, fun m H6 m0 m1 D6 dn6 => ⟨.int (1 + dn0), rfl, m, 1 + dn0, rfl, rfl, .inr ⟨_, rfl, ?_⟩⟩⟩
            obtain ⟨c, hc, hat⟩ := dot_hash (decide (m < 1 + dn0))
            refine ⟨".#", _, c, rfl, rfl, by decide +kernel, hat, ?_⟩
            have h6D := dn6 _ _ h5D nDd
            have G6 := G5.dn dn6
            have off := G4.gr.none hDd
            refine ⟨_, h6D, ?_, cs ++ [c], ?_, ?_, ?_, ?_, ?_, ?_⟩
            · rw [List.length_map]
              exact small1000 (by omega)
            · rw [List.length_append, hcl]
              rfl
            · intro y hy
              rcases List.mem_append.mp hy with z | z
              · exact hcs y z
              · rw [List.mem_singleton.mp z]
                exact hc
            · rw [upd_same, List.map_append]
              rfl
            · exact G6.same' off.1 off.2 (G4.sm.nn D4 hDd)
            · exact D6.upd nDd
            · exact (dn5.trans dn6).upd hDd
          · rintro H5 ⟨cs, hcl, hcs, h5D, G5, D5, dn5⟩
            have off := G4.gr.none hDd
            refine ⟨p, _, .ref Dd, rfl, rfl, G5.gr.top, ?_, ?_⟩
            · rw [List.length_map, G5.gr.len, R4.len]
              exact small1000 (by omega)
            · have nD : H Dd = none := G4.sm.nn D4 hDd
              exact ⟨_, as4 ++ [Dd], ls4 ++ [cs], rfl, G5.push h5D nD off.1.symm (D4.new hDd) off.2, R4.snoc ⟨hcl, hcs⟩, (D5.upd G5.gd).le (by omega)⟩
        · rintro σ H4 ⟨y6, as4, ls4, rfl, G4, R4, D4⟩
          exact ⟨p, as4, ls4, _, _, _, _, _, _, _, _, rfl, G4, R4, D4.le (by omega)⟩
      | false =>
        refine iteF ⟨.ref d, rfl, d, 12, n + 5, rfl, D2, (by show _ ≤ 1000000000000; omega), by decide, by decide, fun t H3 t0 t1 D3 dn3 => ⟨t, rfl, by omega, by omega, ?_⟩⟩
        refine for_range (lo := 0) (n := t.toNat) (fun i σ H4 => ∃ (y6 y7 y8 y9 y10 y11 y12 : Option V) (ls : List (List Nat)), σ = [some (.ref d), some (.int deep), some (.int wide), some (.ref g), some (.int way), none, y6, y7, y8, y9, y10, y11, y12] ∧ GridD d H H4 g as ls ∧ RowsR deep wide ls ∧ Du H4 d (n + 6 + 4 * i)) ⟨none, none, none, none, none, none, none, ls, rfl, G2.dn dn3, R2, D3⟩ ?_ ?_
        · rintro i σ H4 hi ⟨y6, y7, y8, y9, y10, y11, y12, ls4, rfl, G4, R4, D4⟩
          generalize (V.int (0 + (i : Int))) = tv
          refine ⟨.ref d, rfl, .int deep, rfl, d, deep, _, rfl, D4, (by show _ ≤ 1000000000000; omega), by omega, by omega, fun top H5 tp0 tp1 D5 dn5 => ⟨.ref d, rfl, .int wide, rfl, d, wide, _, rfl, D5, (by show _ ≤ 1000000000000; omega), by omega, by omega, fun left H6 l0 l1 D6 dn6 => ⟨_, _, rfl, ?_⟩⟩⟩
          refine ⟨.ref d, rfl, d, 5, _, rfl, D6, (by show _ ≤ 1000000000000; omega), by decide, by decide, fun dw H7 dw0 dw1 D7 dn7 => ⟨1, dw, rfl, rfl, .ref d, rfl, d, 9, _, rfl, D7, (by show _ ≤ 1000000000000; omega), by decide, by decide, fun ac H8 ac0 ac1 D8 dn8 => ⟨1, ac, rfl, rfl, _, _, rfl, ?_⟩⟩⟩
          have G8 := (((G4.dn dn5).dn dn6).dn dn7).dn dn8
          refine ⟨.int top, rfl, .int deep, rfl, .int top, rfl, .int (1 + dw), rfl, top, 1 + dw, rfl, rfl, deep, top + (1 + dw), rfl, top, _, rfl, ⟨by omega, by omega, by split <;> omega, by split <;> omega⟩, ?_⟩
          have hj : ∀ r : Nat, r < ((if top + (1 + dw) < (deep : Int) then top + (1 + dw) else (deep : Int)) - top).toNat → top + (r : Int) < deep := by
            intro r hr
            split at hr <;> omega
          refine for_range (lo := top) (fun r σ H9 => ∃ (y7 y12 : Option V) (ls : List (List Nat)), σ = [some (.ref d), some (.int deep), some (.int wide), some (.ref g), some (.int way), none, some tv, y7, some (.int top), some (.int left), some (.int (1 + dw)), some (.int (1 + ac)), y12] ∧ GridD d H H9 g as ls ∧ RowsR deep wide ls ∧ Du H9 d (n + 6 + 4 * i + 4)) ⟨y7, y12, ls4, rfl, G8, R4, D8.le (by omega)⟩ ?_ ?_
          · rintro r σ H9 hr ⟨y7, y12, ls9, rfl, G9, R9, D9⟩
            have hr2 := hj r hr
            refine ⟨.int left, rfl, .int wide, rfl, .int left, rfl, .int (1 + ac), rfl, left, 1 + ac, rfl, rfl, wide, left + (1 + ac), rfl, left, _, rfl, ⟨by omega, by omega, by split <;> omega, by split <;> omega⟩, ?_⟩
            have hk : ∀ c : Nat, c < ((if left + (1 + ac) < (wide : Int) then left + (1 + ac) else (wide : Int)) - left).toNat → left + (c : Int) < wide := by
              intro c hc
              split at hc <;> omega
            refine for_range (lo := left) (fun c σ H10 => ∃ (y7 : Option V) (ls : List (List Nat)), σ = [some (.ref d), some (.int deep), some (.int wide), some (.ref g), some (.int way), none, some tv, y7, some (.int top), some (.int left), some (.int (1 + dw)), some (.int (1 + ac)), some (.int (top + r))] ∧ GridD d H H10 g as ls ∧ RowsR deep wide ls ∧ Du H10 d (n + 6 + 4 * i + 4)) ⟨y7, ls9, rfl, G9, R9, D9⟩ ?_ ?_
            · rintro c σ H10 hc ⟨y7, ls10, rfl, G10, R10, D10⟩
              have hc2 := hk c hc
              obtain ⟨rn, er⟩ := Int.eq_ofNat_of_zero_le (show 0 ≤ top + (r : Int) by omega)
              obtain ⟨cn, ec⟩ := Int.eq_ofNat_of_zero_le (show 0 ≤ left + (c : Int) by omega)
              rw [er] at hr2 ⊢
              rw [ec] at hc2 ⊢
              have lh : as.length = deep := by rw [G10.gr.len, R10.len]
              have hr1 : rn < ls10.length := by rw [R10.len]; omega
              have e1 : ls10[rn]? = some ls10[rn] := List.getElem?_eq_getElem hr1
              generalize ls10[rn] = l at e1
              have rl := R10.row l (List.mem_of_getElem? e1)
              have hc1 : cn < l.length := by rw [rl.len]; omega
              have ha1 : rn < as.length := by omega
              have e3 : as[rn]? = some as[rn] := List.getElem?_eq_getElem ha1
              generalize as[rn] = b at e3
              have hb := G10.gr.row _ b l e3 e1
              have i1 : atI (as.map V.ref) (rn : Int) = some (.ref b) := atI_nat (by rw [List.getElem?_map, e3]; rfl)
              refine ⟨.ref g, rfl, .int rn, rfl, g, _, rn, .ref b, rfl, rfl, SqL.of G10.gr.top, i1, .int cn, rfl, b, _, cn, cn, rfl, rfl, hb, ixN_at (by rw [List.length_map]; exact hc1), _, ls10.set rn (l.set cn 35), rfl, ?_, R10.put e1 (.inl rfl), D10.upd (G10.ad b (List.mem_of_getElem? e3))⟩
              have z := G10.put (c := cn) (x := 35) e3 e1
              have e35 : ch 35 = V.str "#" := by rw [s_hash]; rfl
              rw [e35] at z
              exact z
            · rintro σ H10 ⟨y7, ls10, rfl, G10, R10, D10⟩
              exact ⟨_, _, ls10, rfl, G10, R10, D10⟩
          · rintro σ H9 ⟨y7, y12, ls9, rfl, G9, R9, D9⟩
            exact ⟨_, _, _, _, _, _, _, ls9, rfl, G9, R9, D9.le (by omega)⟩
        · rintro σ H4 ⟨y6, y7, y8, y9, y10, y11, y12, ls4, rfl, G4, R4, D4⟩
          exact ⟨g, as, ls4, _, _, _, _, _, _, _, _, rfl, G4, R4, D4.le (by omega)⟩
    rintro _ H3 ⟨g3, as3, ls3, y5, y6, y7, y8, y9, y10, y11, y12, rfl, G3, R3, D3⟩
    refine ⟨.ref g3, rfl, g3, as3, deep, wide, ls3, rfl, G3.gr, R3, by omega, by omega, fun p H4 s4 np hp => ?_⟩
    exact q p deep wide ls3 H4 ⟨R3.len, R3.row, d0, by omega, w0, by omega⟩ d1 w1 (G3.sm.nn D3 np) hp ((D3.same s4).le (by omega)) (G3.sm.trans (Do.same s4))
end
end Dt
namespace Dt
open PySem PySem.Spec PyProof.Rows L2 L2X
open SX (S)
open StX
/-! ### boxes of lines -/
/-- where the k-th line begins -/
def lnB (top lead far : Nat) (k : Nat) : Int := (top : Int) - lead + k * far
def lnF (top lead far : Nat) (k : Nat) : Int := if lnB top lead far k > top then lnB top lead far k else top
def lnE (top down tall lead far : Nat) (k : Nat) : Int := if lnB top lead far k + tall < (top : Int) + down then lnB top lead far k + tall else (top : Int) + down
def lnN (down lead far : Nat) : Nat := (down + lead + far - 1) / far
theorem lnN_lt {down lead far k : Nat} (f1 : 1 ≤ far) (h : k < lnN down lead far) : k * far < down + lead := by
  unfold lnN at h
  have h2 : (k + 1) * far ≤ down + lead + far - 1 := (Nat.le_div_iff_mul_le (by omega)).mp h
  rw [Nat.succ_mul] at h2
  omega
theorem lnN_le {down lead far : Nat} (f1 : 1 ≤ far) : down + lead ≤ lnN down lead far * far := by
  unfold lnN
  have h := Nat.lt_mul_div_succ (down + lead + far - 1) (show 0 < far by omega)
  rw [Nat.mul_add, Nat.mul_one, Nat.mul_comm] at h
  omega
structure LnOk (high wide : Nat) (top left down across tall far lead : Nat) : Prop where
  t : top + down ≤ high
  l : left + across ≤ wide
  d1 : 1 ≤ down
  a1 : 1 ≤ across
  h1 : 1 ≤ tall
  h9 : tall ≤ 9
  f1 : tall ≤ far
  f60 : far ≤ 60
  le : lead < tall
/-- what lies in the picture of the k-th line -/
structure LnK (top down tall lead far : Nat) (k : Nat) (fi n : Nat) : Prop where
  b : lnB top lead far k < (top : Int) + down
  f : lnF top lead far k = fi
  e : lnE top down tall lead far k = (fi : Int) + n
  n1 : 1 ≤ n
  n9 : n ≤ tall
  t0 : top ≤ fi
  t1 : fi + n ≤ top + down
theorem ln_k {high wide top left down across tall far lead k : Nat} (O : LnOk high wide top left down across tall far lead) (hk : k < lnN down lead far) : ∃ fi n, LnK top down tall lead far k fi n := by
  have h := lnN_lt (by have := O.h1; have := O.f1; omega) hk
  have h2 : (k : Int) * far < (down : Int) + lead := by
    have : ((k * far : Nat) : Int) < ((down + lead : Nat) : Int) := Int.ofNat_lt.mpr h
    rw [Int.natCast_mul, Int.natCast_add] at this
    exact this
  have h0 : (0 : Int) ≤ (k : Int) * far := Int.mul_nonneg (by omega) (by omega)
  have := O.le
  have := O.d1
  have := O.h1
  have hf : 0 ≤ lnF top lead far k := by
    unfold lnF lnB
    split <;> omega
  have hn : lnF top lead far k < lnE top down tall lead far k := by
    unfold lnF lnE lnB
    split <;> split <;> omega
  obtain ⟨fi, ef⟩ := Int.eq_ofNat_of_zero_le hf
  obtain ⟨n, en⟩ := Int.eq_ofNat_of_zero_le (show 0 ≤ lnE top down tall lead far k - lnF top lead far k by omega)
  refine ⟨fi, n, ⟨?_, ef, by omega, by omega, ?_, ?_, ?_⟩⟩
  · unfold lnB
    omega
  · have : lnE top down tall lead far k - lnF top lead far k ≤ tall := by
      unfold lnF lnE lnB
      split <;> split <;> omega
    omega
  · have : (top : Int) ≤ lnF top lead far k := by
      unfold lnF
      split <;> omega
    omega
  · have : lnE top down tall lead far k ≤ (top : Int) + down := by
      unfold lnE
      split <;> omega
    omega
/-- a row of signs has a dot -/
def hasD (rs : List (List Nat)) : Bool := rs.any fun l => decide (35 ∈ l)
/-- the k-th line's part, and whether it has a dot -/
def lnP (rs : List (List Nat)) (top left down across tall far lead : Nat) (k : Nat) : Bool :=
  hasD (cutR rs (lnF top lead far k).toNat left (lnE top down tall lead far k - lnF top lead far k).toNat across)
def lnX (top left down across tall far lead : Nat) (k : Nat) : List Int := [lnF top lead far k, left, lnE top down tall lead far k - lnF top lead far k, across]
def lnL (rs : List (List Nat)) (top left down across tall far lead : Nat) (k : Nat) : List (List Int) := ((List.range k).filter (lnP rs top left down across tall far lead)).map (lnX top left down across tall far lead)
theorem lnL_succ (rs : List (List Nat)) (top left down across tall far lead k : Nat) : lnL rs top left down across tall far lead (k + 1) = lnL rs top left down across tall far lead k ++ if lnP rs top left down across tall far lead k = true then [lnX top left down across tall far lead k] else [] := by
  unfold lnL
  rw [List.range_succ, List.filter_append, List.map_append, List.filter_cons, List.filter_nil]
  split <;> rfl
/-- tuples of whole numbers, in a row -/
structure Tin (K : PySem.W.Frag) (H : Hp) (xs : List V) (bs : List (List Int)) : Prop where
  len : xs.length = bs.length
  at_ : ∀ (i : Nat) (x : V) (b : List Int), xs[i]? = some x → bs[i]? = some b → ∃ t, x = .ref t ∧ H t = some (.tup (b.map V.int))
theorem Tin.same {K : PySem.W.Frag} {H H' : Hp} {xs : List V} {bs : List (List Int)} (h : Tin K H xs bs) (s : Same H H') : Tin K H' xs bs :=
  ⟨h.len, fun i x b a e => let ⟨t, e1, e2⟩ := h.at_ i x b a e; ⟨t, e1, s _ _ e2⟩⟩
theorem Tin.updl {K : PySem.W.Frag} {H : Hp} {xs : List V} {bs : List (List Int)} {l : Addr} {ys zs : List V} (h : Tin K H xs bs) (hl : H l = some (.lst ys)) : Tin K (upd H l (.lst zs)) xs bs :=
  ⟨h.len, fun i x b a e => let ⟨t, e1, e2⟩ := h.at_ i x b a e; ⟨t, e1, by rw [upd_ne (ne_of e2 hl (by intro z; cases z))]; exact e2⟩⟩
theorem Tin.nil {K : PySem.W.Frag} {H : Hp} : Tin K H [] [] := ⟨rfl, fun i x b h => nomatch h⟩
theorem Tin.add {K : PySem.W.Frag} {H : Hp} {xs : List V} {bs : List (List Int)} {t : Addr} {b : List Int} (h : Tin K H xs bs) (ht : H t = some (.tup (b.map V.int))) : Tin K H (xs ++ [.ref t]) (bs ++ [b]) := by
  refine ⟨by rw [List.length_append, List.length_append, h.len]; rfl, fun i y s' hy hs => ?_⟩
  by_cases hi : i < xs.length
  · rw [List.getElem?_append_left hi] at hy
    rw [List.getElem?_append_left (by rw [← h.len]; exact hi)] at hs
    exact h.at_ i y s' hy hs
  · rw [List.getElem?_append_right (by omega)] at hy
    rw [List.getElem?_append_right (by rw [← h.len]; omega), ← h.len] at hs
    have e0 : i - xs.length = 0 := by
      have := (List.getElem?_eq_some_iff.mp hy).1
      rw [List.length_singleton] at this
      omega
    rw [e0] at hy hs
    cases hy
    cases hs
    exact ⟨t, rfl, ht⟩
def iD (b : List Int) : PyData := .tuple (b.map .int)
theorem dp_ints {K : PySem.W.Frag} {H : Hp} : ∀ b : List Int, DpAll K H (b.map V.int) (b.map PyData.int)
  | [] => .nil
  | i :: r => .cons (.int i) (dp_ints r)
theorem dp_tin {K : PySem.W.Frag} {H : Hp} : ∀ {xs : List V} {bs : List (List Int)}, Tin K H xs bs → DpAll K H xs (bs.map iD)
  | [], [], _ => .nil
  | [], _ :: _, h => by have := h.len; simp at this
  | _ :: _, [], h => by have := h.len; simp at this
  | x :: xs, b :: bs, h => by
    obtain ⟨t, e, ht⟩ := h.at_ 0 x b rfl rfl
    subst e
    exact .cons (.tup (SqT.of ht) (dp_ints b)) (dp_tin ⟨Nat.succ.inj h.len, fun i y q a b => h.at_ (i + 1) y q a b⟩)
theorem lay_ints : ∀ b : List Int, PyData.canLayAll0 (b.map PyData.int) = true ∧ PyData.depthAll (b.map PyData.int) ≤ 1
  | [] => ⟨by simp [PyData.canLayAll0], by simp [PyData.depthAll]⟩
  | p :: r => by
    obtain ⟨h1, h2⟩ := lay_ints r
    refine ⟨?_, ?_⟩
    · rw [List.map_cons]
      simp [PyData.canLayAll0, PyData.canLay0, h1]
    · rw [List.map_cons]
      simp only [PyData.depthAll, PyData.depth]
      omega
theorem lay_tins : ∀ bs : List (List Int), PyData.canLayAll0 (bs.map iD) = true ∧ PyData.depthAll (bs.map iD) ≤ 3
  | [] => ⟨by simp [PyData.canLayAll0], by simp [PyData.depthAll]⟩
  | p :: r => by
    obtain ⟨h1, h2⟩ := lay_tins r
    obtain ⟨h3, h4⟩ := lay_ints p
    refine ⟨?_, ?_⟩
    · rw [List.map_cons]
      simp [PyData.canLayAll0, PyData.canLay0, iD, h1, h3]
    · rw [List.map_cons]
      simp only [PyData.depthAll, PyData.depth, iD]
      omega
theorem shaped_ints (b : List Int) : SeqAt.shaped (.list (b.map PyData.int)) = true := by
  obtain ⟨h1, h2⟩ := lay_ints b
  unfold SeqAt.shaped
  rw [Bool.and_eq_true, decide_eq_true_iff]
  refine ⟨by simp [PyData.canLay0, h1], ?_⟩
  simp only [PyData.depth]
  omega
theorem shaped_tins (bs : List (List Int)) : SeqAt.shaped (.list (bs.map iD)) = true := by
  obtain ⟨h1, h2⟩ := lay_tins bs
  unfold SeqAt.shaped
  rw [Bool.and_eq_true, decide_eq_true_iff]
  refine ⟨by simp [PyData.canLay0, h1], ?_⟩
  simp only [PyData.depth]
  omega
theorem eqv_ints : ∀ b : List Int, PyData.eqvAll (b.map PyData.int) (b.map PyData.int) = true
  | [] => by simp [PyData.eqvAll]
  | i :: r => by rw [List.map_cons]; simp [PyData.eqvAll, PyData.eqv, eqv_ints r]
theorem eqv_tins : ∀ bs : List (List Int), PyData.eqvAll (bs.map iD) (bs.map iD) = true
  | [] => by simp [PyData.eqvAll]
  | b :: r => by rw [List.map_cons]; simp [PyData.eqvAll, PyData.eqv, iD, eqv_ints b, eqv_tins r]
abbrev sHD : Stmt := topS 40
theorem scHD : FnScope ["rows", "row"] ["rows"] (defScope sHD) := ⟨rfl, rfl, rfl, by decide +kernel, rfl, by decide +kernel, by decide +kernel⟩
def spHD : Sp := fun vs H Q _ => ∃ (a : Addr) (rs : List (List Nat)), vs = [.ref a] ∧ H a = some (.tup (rs.map rv)) ∧ rs.length ≤ 120 ∧ ∀ H', Same H H' → Q (.bl (hasD rs)) H'
abbrev sLB : Stmt := topS 39
abbrev nLB : List Str := ["box", "start", "behind", "top", "left", "high", "wide", "first"]
theorem scLB : FnScope nLB ["box", "start", "behind"] (defScope sLB) := ⟨rfl, rfl, rfl, by decide +kernel, rfl, by decide +kernel, by decide +kernel⟩
def spLB : Sp := fun vs H Q _ => ∃ (t : Addr) (a b c d s e : Int), vs = [.ref t, .int s, .int e] ∧ H t = some (.tup [.int a, .int b, .int c, .int d]) ∧
  ∀ p H', Same H H' → H p = none → H' p = some (.tup [.int (if s > a then s else a), .int b, .int ((if e < a + c then e else a + c) - (if s > a then s else a)), .int d]) → Q (.ref p) H'
abbrev sWB : Stmt := topS 42
theorem scWB : FnScope ["picture", "thing"] ["picture", "thing"] (defScope sWB) := ⟨rfl, rfl, rfl, by decide +kernel, rfl, by decide +kernel, by decide +kernel⟩
def spWB : Sp := fun vs H Q _ => ∃ (a t : Addr) (high wide : Nat) (rs : List (List Nat)) (x y h w : Nat), vs = [.ref a, .ref t] ∧ H a = some (.tup (rs.map rv)) ∧ PicR high wide rs ∧ H t = some (.tup [.int x, .int y, .int h, .int w]) ∧ x + h ≤ high ∧ y + w ≤ wide ∧ 1 ≤ h ∧ 1 ≤ w ∧ ∀ H', Same H H' → Q .non H'
theorem strB_of {t m n : Nat} (h1 : 1 ≤ m) (h2 : t + m ≤ n) : strB (.int t) (.int m) (n : Int) = true := by
  show (decide (1 ≤ (m : Int)) && betw (.int t) 0 ((n : Int) - m)) = true
  rw [betw_int, decide_eq_true (by omega), decide_eq_true (by omega), decide_eq_true (by omega)]
  rfl
theorem passX0 {X : Cx} : Passes (L2.CX X.prog X.w) X E0 := fun _ _ _ _ _ _ _ h => by
  obtain ⟨_, _, _, _, _, _, _, _, _, _, _, _, z⟩ := h
  exact z.elim
section
variable {P : Program} {w : World} {K : PySem.W.Frag} {mg : Str → Option Value} {base : Heap} {C CP : Addr}
theorem ok_hd {f : Addr} {fd : FuncData} {k : Nat} (F : Fun K "_has_dots" "_has_dots" sHD f fd) (an : mg "any" = none) : FnOk P w K mg base CX0 (k + 1) f fd ["rows"] spHD := by
  refine F.ok scHD (fun vs H Q E h => ?_) (fun cdv A outer s H vs Q E hr h => ?_)
  · obtain ⟨a, rs, rfl, _⟩ := h
    rfl
  · obtain ⟨a, rs, rfl, ha, rl, q⟩ := h
    have nd := scHD.nd
    refine ⟨_, pss_one (ps_ret (pe_callB (cr_any rfl) (by rfl) an (by decide +kernel) (pa_cons (pe_lc (own := [("row", 1)]) (g := gName 1) (tt := tYes) rfl nd (pi_tup (pv 0)) (blkOk_by (N := ["rows", "row"]) (sc := defScope sHD) (by decide +kernel)) (fun _ _ _ _ _ => pg_name (i := 1) nd rfl (Or.inl rfl)) (fun _ _ _ _ _ => pts_nil)
        (fun _ _ _ _ _ => pe_cmpR op_in_sign pe_str (pv 1) (by with_unfolding_all rfl))) pa_nil))), ?_⟩
    refine ⟨.ref a, rfl, a, rfl, ⟨_, SqT.of ha⟩, fun D hD => lc_tup (K := K) (a := a) (xs := rs.map rv) (fun j H2 => Same H H2 ∧ H2 D = some (.lst (((rs.take j).map fun l => decide (35 ∈ l)).map V.bl))) ⟨same_upd hD, upd_same⟩ (fun j H2 _ z => SqT.of (z.1 _ _ ha)) ?_ ?_⟩
    · rintro j x H2 hj ⟨sm, h2⟩
      obtain ⟨l, hl, rfl⟩ := map_at2 hj
      have hlt := (List.getElem?_eq_some_iff.mp hl).1
      refine ⟨rfl, rv l, rfl, 35, S l, rfl, rfl, _, h2, ?_, same_over sm hD, ?_⟩
      · rw [List.length_map, List.length_map, List.length_take]
        exact small1000 (by omega)
      · rw [upd_same, take_snoc hl, List.map_append, List.map_append]
        rfl
    · rintro H2 ⟨sm, h2⟩
      rw [List.length_map, List.take_length] at h2
      refine ⟨D, _, rfl, SqL.of h2, ?_⟩
      have e : (rs.map fun l => decide (35 ∈ l)).any id = hasD rs := by
        unfold hasD
        rw [List.any_map]
        rfl
      rw [e]
      exact q H2 sm
theorem ok_lb {f : Addr} {fd : FuncData} {k : Nat} (F : Fun K "_line_box" "_line_box" sLB f fd) (mx : mg "max" = none) (mi : mg "min" = none) : FnOk P w K mg base CX0 (k + 1) f fd ["box", "start", "behind"] spLB := by
  refine F.ok scLB (fun vs H Q E h => ?_) (fun cdv A outer s H vs Q E hr h => ?_)
  · obtain ⟨t, _, _, _, _, _, _, rfl, _⟩ := h
    rfl
  · obtain ⟨t, a, b, c, d, s0, e0, rfl, ht, q⟩ := h
    have nd := scLB.nd
    refine ⟨_, pss_cons (ps_asg (pv 0) (pg_tup rfl (pgs_cons (pg_name (i := 3) nd rfl (Or.inl rfl)) (pgs_cons (pg_name (i := 4) nd rfl (Or.inl rfl)) (pgs_cons (pg_name (i := 5) nd rfl (Or.inl rfl)) (pgs_cons (pg_name (i := 6) nd rfl (Or.inl rfl)) pgs_nil))))))
      (pss_cons (ps_set (i := 7) nd rfl (.inl rfl) (pe_callB (call_max2 rfl) (by rfl) mx (by decide +kernel) (pa_cons (pv 3) (pa_cons (pv 1) pa_nil))))
      (pss_one (ps_ret (pe_tup (pa_cons (pv 7) (pa_cons (pv 4) (pa_cons (pe_op op_sub (pe_callB (call_min2 rfl) (by rfl) mi (by decide +kernel) (pa_cons (pe_op op_add (pv 3) (pv 5)) (pa_cons (pv 2) pa_nil))) (pv 7)) (pa_cons (pv 6) pa_nil)))))))), ?_⟩
    refine ⟨.ref t, rfl, t, _, rfl, SqT.of ht, rfl, _, _, rfl, _, _, rfl, _, _, rfl, _, _, rfl, rfl, ?_⟩
    refine ⟨.int a, rfl, .int s0, rfl, a, s0, rfl, _, rfl, .int b, rfl, .int a, rfl, .int c, rfl, a, c, rfl, rfl, .int e0, rfl, a + c, e0, rfl, _, rfl, _, _, rfl, rfl, .int d, rfl, by show 4 ≤ sizeLine; decide, fun p hp => ?_⟩
    exact q p _ (same_upd hp) hp upd_same
theorem ok_wb {f : Addr} {fd : FuncData} {k : Nat} (F : Fun K "_want_box" "_want_box" sWB f fd) (GW : GW P w K mg base C (k + 1)) (GU : Pm P w K mg base CX0 (k + 1) "is_tuple" ["thing", "many"] (spIsTup K)) (GC : Pm P w K mg base (L2.CX P w) (k + 1) "cut_out" ["picture", "top", "left", "high", "wide"] (spCut K CP)) :
    FnOk P w K mg base CX0 (k + 2) f fd ["picture", "thing"] spWB := by
  obtain ⟨fW, fdW, GW, mW, kW, bW⟩ := GW.ex
  obtain ⟨fU, fdU, GU, mU, kU, bU⟩ := GU.ex
  obtain ⟨fC, fdC, GC, mC, kC, bC⟩ := GC.ex
  refine F.ok scWB (fun vs H Q E h => ?_) (fun cdv A outer s H vs Q E hr h => ?_)
  · obtain ⟨a, t, _, _, _, _, _, _, _, rfl, _⟩ := h
    rfl
  · obtain ⟨a, t, high, wide, rs, x, y, h, w', rfl, ha, pr, ht, xh, yw, h1, w1, q⟩ := h
    have nd := scWB.nd
    refine ⟨_, pss_cons (ps_expr (pe_call GW hr (by rfl) mW kW bW .nil passX0 (pa_cons (pv 0) pa_nil)))
      (pss_cons (ps_if (pt_not (pt_val (pe_call GU hr (by rfl) mU kU bU .nil pass0 (pa_cons (pv 1) (pa_cons pe_int pa_nil))))) pss_never pss_nil)
      (pss_one (ps_expr (pe_callS2 (GC.raw bC .nil) hr kC (by rfl) mC passX0 (pa_cons (pv 0) (pa_star (pv 1) pa_nil)))))), ?_⟩
    refine ⟨.ref a, rfl, .ref a, true, rfl, askPic pr ha, fun _ H1 s1 => ?_, fun e => nomatch e⟩
    refine ⟨.ref t, rfl, .ref t, 4, rfl, .inr ⟨t, _, rfl, SqT.of (s1 _ _ ht), _, rfl, iteF ?_⟩⟩
    have hb : (strB (.int x) (.int h) high && strB (.int y) (.int w') wide) = true := by
      rw [strB_of h1 xh, strB_of w1 yw]
      rfl
    refine ⟨.ref a, rfl, .ref t, rfl, t, _, rfl, .inl (SqT.of (s1 _ _ ht)), a, high, wide, rs, .int x, .int y, .int h, .int w', rfl, s1 _ _ ha, pr, kt_int _, kt_int _, kt_int _, kt_int _, fun _ x' y' h' w'' e1 e2 e3 e4 _ _ _ _ p H2 s2 np hp => q H2 (s1.trans s2), fun e => ?_⟩
    rw [hb] at e
    cases e
end
end Dt
namespace Dt
open PySem PySem.Spec PyProof.Rows L2 L2X
open SX (S)
open StX
theorem pa_starK {X : Cx} {K : PySem.W.Frag} {e : Expr} {es : List Expr} {te : TE} {t : TA} {p : Pos} (hK : X.K = K) (he : PE X e te) (hr : PA X es t) (hs : starEach (.Starred e p :: es) X.env = (true, eval e X.env) :: starEach es X.env := by rfl) : PA X (.Starred e p :: es) (tStar K te t) := by
  subst hK
  exact pa_star he hr hs
/-! ### lines_of -/
abbrev sLO : Stmt := topS 38
abbrev nLO : List Str := ["picture", "box", "high", "pitch", "above", "top", "left", "rows", "wide", "starts", "lines", "start", "line"]
theorem scLO : FnScope nLO ["picture", "box", "high", "pitch", "above"] (defScope sLO) := ⟨rfl, rfl, rfl, by decide +kernel, rfl, by decide +kernel, by decide +kernel⟩
/-- the picture and the box -/
structure PB (H : Hp) (a t : Addr) (high wide : Nat) (rs : List (List Nat)) (top left down across : Nat) : Prop where
  p : H a = some (.tup (rs.map rv))
  pr : PicR high wide rs
  b : H t = some (.tup [.int top, .int left, .int down, .int across])
theorem PB.same {H H' : Hp} {a t : Addr} {high wide : Nat} {rs : List (List Nat)} {top left down across : Nat} (h : PB H a t high wide rs top left down across) (s : Same H H') : PB H' a t high wide rs top left down across := ⟨s _ _ h.p, h.pr, s _ _ h.b⟩
def spLO (K : PySem.W.Frag) : Sp := fun vs H Q _ => ∃ (a t : Addr) (high wide : Nat) (rs : List (List Nat)) (top left down across tall far lead : Nat), vs = [.ref a, .ref t, .int tall, .int far, .int lead] ∧ PB H a t high wide rs top left down across ∧ LnOk high wide top left down across tall far lead ∧
  ∀ (l : Addr) (xs : List V) H', Same H H' → H l = none → H' l = some (.lst xs) → Tin K H' xs (lnL rs top left down across tall far lead (lnN down lead far)) → Q (.ref l) H'
abbrev FnLO (K : PySem.W.Frag) (f : Addr) (fd : FuncData) : Prop := FunD K "lines_of" "lines_of" (defArgs sLO) (defBody sLO) (defScope sLO) [] [("above", .int 0)] f fd
theorem lo_binds3 {K : PySem.W.Frag} {f : Addr} {fd : FuncData} (F : FnLO K f fd) : ∃ mv : List Value, KBn K fd ["picture", "box", "high", "pitch", "above"] 2 ["high", "pitch", "above"] (fun us ws => us ++ ws ++ mv.take 0) (fun vs zs => vs ++ zs ++ ([] : List V)) := by
  obtain ⟨mv, h⟩ := F.kbinds0 (ps := ["picture", "box", "high", "pitch", "above"]) 2 ["high", "pitch", "above"] [] (fun us _ ws => us ++ ws) (by simp) (fun q h => nomatch h) (fun r _ z => r.append z)
    (fun D doc pm an cdv ct us mv ws h1 h2 h3 => match us, ws, mv, h1, h3, h2 with
      | [_, _], [_, _, _], [], _, _, _ => rfl)
  exact ⟨mv, ⟨fun s us ws X l1 l2 => by rw [List.take_zero, List.append_nil]; exact h.to s us ws X l1 l2, fun r z => by rw [List.take_zero, List.append_nil, List.append_nil]; exact h.rel r z⟩⟩
theorem lo_binds2 {K : PySem.W.Frag} {f : Addr} {fd : FuncData} (F : FnLO K f fd) : ∃ mv : List Value, KBn K fd ["picture", "box", "high", "pitch", "above"] 2 ["pitch", "high"] (fun us ws => us ++ ws.reverse ++ mv) (fun vs zs => vs ++ zs.reverse ++ [V.int 0]) := by
  obtain ⟨mv, h⟩ := F.kbinds0 (ps := ["picture", "box", "high", "pitch", "above"]) 2 ["pitch", "high"] [("above", V.int 0)] (fun us mv ws => us ++ ws.reverse ++ mv) (by simp) (fun q h => h) (fun r m z => (r.append z.reverse).append m)
    (fun D doc pm an cdv ct us mv ws h1 h2 h3 => match us, ws, mv, h1, h3, h2 with
      | [_, _], [_, _], [_], _, _, _ => ⟨_, _, _, _, _, _, rfl, rfl, rfl⟩)
  exact ⟨mv, h⟩
section
variable {P : Program} {w : World} {K : PySem.W.Frag} {mg : Str → Option Value} {base : Heap} {C CP : Addr}
theorem ok_lo {f : Addr} {fd : FuncData} {k : Nat} (F : FnLO K f fd) (T : Tx mg) (mh : ∃ t, mg "MOST_HIGH" = some (.int 9 t)) (mb : ∃ t, mg "MOST_BAND" = some (.int 60 t)) (GW : Pm P w K mg base CX0 (k + 1) "_want_box" ["picture", "thing"] spWB) (GB : Pm P w K mg base CX0 (k + 1) "is_between" ["thing", "least", "most"] (spBetw K))
    (GL : Pm P w K mg base CX0 (k + 1) "_line_box" ["box", "start", "behind"] spLB) (GH : Pm P w K mg base CX0 (k + 1) "_has_dots" ["rows"] spHD) (GC : Pm P w K mg base (L2.CX P w) (k + 1) "cut_out" ["picture", "top", "left", "high", "wide"] (spCut K CP)) :
    FnOk P w K mg base CX0 (k + 2) f fd ["picture", "box", "high", "pitch", "above"] (spLO K) := by
  obtain ⟨fW, fdW, GW, mW, kW, bW⟩ := GW.ex
  obtain ⟨fB, fdB, GB, mB, kB, bB⟩ := GB.ex
  obtain ⟨fL, fdL, GL, mL, kL, bL⟩ := GL.ex
  obtain ⟨fH, fdH, GH, mH, kH, bH⟩ := GH.ex
  obtain ⟨fC, fdC, GC, mC, kC, bC⟩ := GC.ex
  obtain ⟨th, hmh⟩ := mh
  obtain ⟨tb, hmb⟩ := mb
  refine F.ok scLO (fun vs H Q E h => ?_) (fun cdv A outer s H vs Q E hr h => ?_)
  · obtain ⟨a, t, _, _, _, _, _, _, _, _, _, _, rfl, _⟩ := h
    rfl
  · obtain ⟨a, t, high, wide, rs, top, left, down, across, tall, far, lead, rfl, pb, O, q⟩ := h
    have nd := scLO.nd
    refine ⟨_, pss_cons (ps_expr (pe_call GW hr (by rfl) mW kW bW .nil pass0 (pa_cons (pv 0) (pa_cons (pv 1) pa_nil))))
      (pss_cons (ps_if (PW.pt (pw_or (pt_not (pt_val (pe_call GB hr (by rfl) mB kB bB .nil pass0 (pa_cons (pv 2) (pa_cons pe_int (pa_cons (pe_glob (v := .int 9) (by rfl) hmh ⟨_, rfl⟩) pa_nil)))))) (pw_or1 (pt_not (pt_val (pe_call GB hr (by rfl) mB kB bB .nil pass0 (pa_cons (pv 3) (pa_cons (pv 2) (pa_cons (pe_glob (v := .int 60) (by rfl) hmb ⟨_, rfl⟩) pa_nil))))))))) pss_never pss_nil)
      (pss_cons (ps_if (pt_not (pt_val (pe_call GB hr (by rfl) mB kB bB .nil pass0 (pa_cons (pv 4) (pa_cons pe_int (pa_cons (pe_op op_sub (pv 2) pe_int) pa_nil)))))) pss_never pss_nil)
      (pss_cons (ps_asg (pv 1) (pg_tup rfl (pgs_cons (pg_name (i := 5) nd rfl (Or.inl rfl)) (pgs_cons (pg_name (i := 6) nd rfl (Or.inl rfl)) (pgs_cons (pg_name (i := 7) nd rfl (Or.inl rfl)) (pgs_cons (pg_name (i := 8) nd rfl (Or.inl rfl)) pgs_nil))))))
      (pss_cons (ps_set (i := 9) nd rfl (.inl rfl) (pe_callTy cr_range3 (by rfl) T.range (by decide +kernel) (pa_cons (pe_op op_sub (pv 5) (pv 4)) (pa_cons (pe_op op_add (pv 5) (pv 7)) (pa_cons (pv 3) pa_nil)))))
      (C8.pss_cut (ps_setLc (i := 10) (own := [("start", 11)]) (g := gName 11) (tt := tYes) (by rfl) nd rfl rfl (sw_true rfl rfl rfl (by decide +kernel)) (pi_rngO (pv 9)) (blkOk_by (N := nLO) (sc := defScope sLO) (by decide +kernel)) (fun _ _ _ _ _ => pg_name (i := 11) nd rfl (Or.inl rfl)) (fun _ _ _ _ _ => pts_nil)
          (fun _ _ _ _ _ => pe_call GL hr (by rfl) mL kL bL .nil pass0 (pa_cons (pv 1) (pa_cons (pv 11) (pa_cons (pe_op op_add (pv 11) (pv 2)) pa_nil)))))
      (pss_one (ps_ret (pe_lc (own := [("line", 12)]) (g := gName 12) rfl nd (pi_list (pv 10)) (blkOk_by (N := nLO) (sc := defScope sLO) (by decide +kernel)) (fun _ _ _ _ _ => pg_name (i := 12) nd rfl (Or.inl rfl))
          (fun _ _ _ _ _ => pts_one (pt_val (pe_call GH hr (by rfl) mH kH bH .nil pass0 (pa_cons (pe_callS2 (GC.raw bC .nil) hr kC (by rfl) mC passX0 (pa_cons (pv 0) (pa_starK (K := K) rfl (pv 12) pa_nil))) pa_nil)))) (fun _ _ _ _ _ => pv 12))))))))), ?_⟩
    have := O.h1
    have := O.h9
    have := O.f1
    have := O.f60
    have := O.le
    have := O.t
    have := O.l
    have := O.d1
    have := O.a1
    have := pb.pr.h1
    have := pb.pr.w1
    refine ⟨.ref a, rfl, .ref t, rfl, a, t, high, wide, rs, top, left, down, across, rfl, pb.p, pb.pr, pb.b, by omega, by omega, by omega, by omega, fun H1 s1 => ?_⟩
    have pb1 := pb.same s1
    have b1 : betw (.int tall) 1 9 = true := by
      rw [betw_int, decide_eq_true (by omega), decide_eq_true (by omega)]
      rfl
    have b2 : betw (.int far) tall 60 = true := by
      rw [betw_int, decide_eq_true (by omega), decide_eq_true (by omega)]
      rfl
    have b3 : betw (.int lead) 0 ((tall : Int) - 1) = true := by
      rw [betw_int, decide_eq_true (by omega), decide_eq_true (by omega)]
      rfl
    refine ⟨.int tall, rfl, .int tall, 1, 9, rfl, kt_int _, _, rfl, ?_⟩
    rw [b1]
    refine iteF ⟨.int far, rfl, .int tall, rfl, .int far, tall, 60, rfl, kt_int _, _, rfl, ?_⟩
    rw [b2]
    refine iteF ⟨.int lead, rfl, .int tall, rfl, tall, 1, rfl, rfl, .int lead, 0, _, rfl, kt_int _, _, rfl, ?_⟩
    rw [b3]
    refine iteF ⟨.ref t, rfl, t, _, rfl, SqT.of pb1.b, rfl, _, _, rfl, _, _, rfl, _, _, rfl, _, _, rfl, rfl, ?_⟩
    refine ⟨.int top, rfl, .int lead, rfl, top, lead, rfl, rfl, .int top, rfl, .int down, rfl, top, down, rfl, rfl, .int far, rfl, _, _, far, rfl, by omega, by omega, fun p hp => ?_⟩
    have sp := same_upd (o := RngO p ((top : Int) - lead) ((top : Int) + down) far) hp
    have pb2 := pb1.same sp
    have hp2 : (upd H1 p (RngO p ((top : Int) - lead) ((top : Int) + down) far)) p = some (RngO p ((top : Int) - lead) ((top : Int) + down) far) := upd_same
    have s12 := s1.trans sp
    generalize upd H1 p (RngO p ((top : Int) - lead) ((top : Int) + down) far) = H2 at sp pb2 hp2 s12 ⊢
    refine ⟨fun σ' H' => ∃ (l : Addr) (xs : List V), σ' = [some (.ref a), some (.ref t), some (.int tall), some (.int far), some (.int lead), some (.int top), some (.int left), some (.int down), some (.int across), some (.ref p), some (.ref l), none, none] ∧ Same H2 H' ∧ H' l = some (.lst xs) ∧ Tin K H' xs ((List.range (lnN down lead far)).map (lnX top left down across tall far lead)), ?_, ?_⟩
    · refine ⟨.ref p, rfl, p, _, _, far, lnN down lead far, rfl, hp2, rgC_pos (by omega) (by omega) (by omega) (by omega) (by omega) (by omega) (fun k hk => ?_) ?_, fun D hD => lc_rangeC (fun i H3 => ∃ xs, Same H2 H3 ∧ H3 D = some (.lst xs) ∧ Tin K H3 xs ((List.range i).map (lnX top left down across tall far lead))) ⟨[], same_upd hD, upd_same, Tin.nil⟩ ?_ ?_⟩
      · have h := lnN_lt (lead := lead) (down := down) (by omega) hk
        have h2 : (k : Int) * far < (down : Int) + lead := by
          have : ((k * far : Nat) : Int) < ((down + lead : Nat) : Int) := Int.ofNat_lt.mpr h
          rw [Int.natCast_mul, Int.natCast_add] at this
          exact this
        omega
      · have h := lnN_le (lead := lead) (down := down) (show 1 ≤ far by omega)
        have h2 : (down : Int) + lead ≤ (lnN down lead far : Int) * far := by
          have : ((down + lead : Nat) : Int) ≤ ((lnN down lead far * far : Nat) : Int) := Int.ofNat_le.mpr h
          rw [Int.natCast_mul, Int.natCast_add] at this
          exact this
        omega
      · rintro i H3 hi ⟨xs, sm, h3, tn⟩
        refine ⟨rfl, .ref t, rfl, .int ((top : Int) - lead + i * far), rfl, .int ((top : Int) - lead + i * far), rfl, .int tall, rfl, _, _, rfl, rfl, t, _, _, _, _, _, _, rfl, sm _ _ pb2.b, fun z H4 s4 nz hz => ⟨xs, s4 _ _ h3, ?_, xs ++ [.ref z], ?_, upd_same, ?_⟩⟩
        · rw [tn.len, List.length_map, List.length_range]
          have h := lnN_lt (lead := lead) (down := down) (show 1 ≤ far by omega) hi
          have h0 : i * 1 ≤ i * far := Nat.mul_le_mul_left _ (by omega)
          exact small1000 (by omega)
        · exact same_over (sm.trans s4) hD
        · have nzD : z ≠ D := (ne_of_none h3 nz).symm
          rw [List.range_succ, List.map_append]
          refine Tin.add ((tn.same s4).updl (s4 _ _ h3)) ?_
          rw [upd_ne nzD]
          exact hz
      · rintro H3 ⟨xs, sm, h3, tn⟩
        exact ⟨D, xs, rfl, sm, h3, tn⟩
    rintro _ H3 ⟨l, xs, rfl, s3, hl, tn⟩
    have pb3 := pb2.same s3
    have lx : xs.length = lnN down lead far := by rw [tn.len, List.length_map, List.length_range]
    refine ⟨.ref l, rfl, l, rfl, ⟨_, SqL.of hl⟩, fun D hD => lc_list (K := K) (a := l) (xs := xs) (fun i H4 => ∃ ys, Same H3 H4 ∧ H4 D = some (.lst ys) ∧ ys.length ≤ i ∧ Tin K H4 ys (lnL rs top left down across tall far lead i)) ⟨[], same_upd hD, upd_same, Nat.le_refl _, Tin.nil⟩ (fun i H4 _ z => by
      obtain ⟨_, sm, _⟩ := z
      exact SqL.of (sm _ _ hl)) ?_ ?_⟩
    · rintro i x H4 hx ⟨ys, sm, h4, ly, ty⟩
      have hi : i < lnN down lead far := by
        rw [← lx]
        exact (List.getElem?_eq_some_iff.mp hx).1
      obtain ⟨z, rfl, hz⟩ := tn.at_ i x (lnX top left down across tall far lead i) hx (by rw [List.getElem?_map, List.getElem?_range hi]; rfl)
      obtain ⟨fi, n, L⟩ := ln_k O hi
      have ef := L.f
      have ee := L.e
      have := L.n1
      have := L.t0
      have := L.t1
      have ex : lnX top left down across tall far lead i = [(fi : Int), (left : Int), (n : Int), (across : Int)] := by
        unfold lnX
        rw [ef, ee, show (fi : Int) + n - fi = n by omega]
      rw [ex] at hz
      have ep : lnP rs top left down across tall far lead i = hasD (cutR rs fi left n across) := by
        unfold lnP
        rw [ef, ee, show ((fi : Int) + n - fi).toNat = n by omega, Int.toNat_natCast]
      have hb : (strB (.int fi) (.int n) high && strB (.int left) (.int across) wide) = true := by
        rw [strB_of (by omega) (by omega), strB_of (by omega) (by omega)]
        rfl
      have hz4 := sm _ _ hz
      refine ⟨rfl, .ref a, rfl, .ref z, rfl, z, _, rfl, .inl (SqT.of hz4), a, high, wide, rs, .int fi, .int left, .int n, .int across, rfl, sm _ _ pb3.p, pb3.pr, kt_int _, kt_int _, kt_int _, kt_int _, fun _ x1 x2 x3 x4 e1 e2 e3 e4 _ _ _ _ p5 H5 s5 np5 hp5 => ?_, fun e => ?_⟩
      · cases e1
        cases e2
        cases e3
        cases e4
        refine ⟨p5, _, rfl, hp5, ?_, fun H6 s6 => ⟨_, rfl, ?_⟩⟩
        · unfold cutR
          rw [List.length_map, List.length_take]
          omega
        have s56 := s5.trans s6
        rw [← ep]
        have es := lnL_succ rs top left down across tall far lead i
        cases ec : lnP rs top left down across tall far lead i with
        | true =>
          rw [ec, if_pos rfl] at es
          refine iteT ⟨.ref z, rfl, ys, s56 _ _ h4, small1000 (by have h := lnN_lt (lead := lead) (down := down) (show 1 ≤ far by omega) hi; have h0 : i * 1 ≤ i * far := Nat.mul_le_mul_left _ (by omega); omega), ys ++ [.ref z], same_over (sm.trans s56) hD, upd_same, by rw [List.length_append]; exact Nat.add_le_add_right ly 1, ?_⟩
          rw [es]
          refine Tin.add ((ty.same s56).updl (s56 _ _ h4)) ?_
          rw [upd_ne (ne_of (s56 _ _ hz4) (s56 _ _ h4) (by intro z; cases z)), ex]
          exact s56 _ _ hz4
        | false =>
          rw [ec, if_neg (by decide), List.append_nil] at es
          refine iteF ⟨ys, sm.trans s56, s56 _ _ h4, Nat.le_succ_of_le ly, ?_⟩
          rw [es]
          exact ty.same s56
      · rw [hb] at e
        cases e
    · rintro H4 ⟨ys, sm, h4, ly, ty⟩
      rw [lx] at ty
      exact q D ys H4 ((s12.trans s3).trans sm) ((s12.trans s3).free hD) h4 ty
end
end Dt
/-! zip over any number of iterators: one turn -/
namespace L2X
open PySem PySem.Spec PyProof.Rows L2
abbrev tupO (xs : List Value) : Obj := { cls := .type "tuple", data := .seq xs.toArray }
section
variable {x0 b0 : Value} {prog : Program} {w : World} {A : Around} {E : Value → Shared → Prop} {s : Shared} {z TI TO : Addr} {m i : Nat} {it : Nat → Addr} {fp : Nat → List Addr} {n : Nat → Nat} {Pv : Nat → Nat → Value → Prop} {St : Nat → Nat → Heap → Prop}
abbrev IsZ5 (h : Heap) (z TI TO : Addr) (x b : Value) : Prop := h.get? z = some { cls := .type "zip", dict := none, data := .fields #[x, b, .bool false, .ref TI, .ref TO], slots := #[] }
/-- the tuple given out before is free -/
def FreeT (prog : Program) (w : World) (A : Around) (z : Addr) (s : Shared) : Prop := ∀ (E : Value → Shared → Prop) (Q : Bool → Shared → Prop), Q true s → wpAny (model prog w) A (Builtin.SmallTypes.ownedTupleIsFree (.ref z)) Q E s
theorem free_none {b : Value} (hz : IsZ5 s.heap z TI TO .none b) : FreeT prog w A z s := fun E Q h => by
  unfold Builtin.SmallTypes.ownedTupleIsFree
  exact wpAny_bind (wpAny_field hz rfl (x := .none) rfl (wpAny_pure h))
theorem not_alive {a : Addr} {Q : Option Obj → Shared → Prop} (ho : s.heap.get? a = none) (h : Q none s) : wpAny (model prog w) A (loadIfAlive a) Q E s := by
  have h' : Q (s.heap.get? a) s := by rw [ho]; exact h
  exact fun _ _ _ => h'
theorem free_gone {T : Addr} {b : Value} (hz : IsZ5 s.heap z TI TO (rawInt T) b) (hT : s.heap.get? T = none) : FreeT prog w A z s := fun E Q h => by
  unfold Builtin.SmallTypes.ownedTupleIsFree
  refine wpAny_bind (wpAny_field hz rfl (x := rawInt T) rfl ?_)
  show wpAny _ _ (loadIfAlive ((T : Int).toNat) >>= _) _ _ _
  rw [Int.toNat_natCast]
  refine wpAny_bind (not_alive hT ?_)
  simp only [Option.isNone_none, if_true]
  exact wpAny_pure h
def itRefs (m : Nat) (it : Nat → Addr) : List Value := (List.range m).map fun k => Value.ref (it k)
structure SepN (m : Nat) (it : Nat → Addr) (fp : Nat → List Addr) (z TI TO : Addr) : Prop where
  TIz : TI ≠ z
  TOz : TO ≠ z
  TITO : TI ≠ TO
  TIi : ∀ k, k < m → TI ≠ it k
  mem : ∀ k, k < m → it k ∈ fp k
  zf : ∀ k, k < m → z ∉ fp k
  Tf : ∀ k, k < m → TO ∉ fp k
  sep : ∀ j k, j < m → k < m → j ≠ k → it j ∉ fp k
theorem SepN.zi (S : SepN m it fp z TI TO) {k : Nat} (h : k < m) : z ≠ it k := fun e => S.zf k h (by rw [e]; exact S.mem k h)
theorem SepN.Ti (S : SepN m it fp z TI TO) {k : Nat} (h : k < m) : TO ≠ it k := fun e => S.Tf k h (by rw [e]; exact S.mem k h)
/-- k of them have been drawn -/
structure Zst (b0 : Value) (m : Nat) (it : Nat → Addr) (Pv : Nat → Nat → Value → Prop) (St : Nat → Nat → Heap → Prop) (z TI TO : Addr) (i k : Nat) (xs : List Value) (h0 h : Heap) : Prop where
  zz : IsZ5 h z TI TO .ellipsis b0
  tt : h.get? TO = some (tupO xs)
  ln : xs.length = m
  lo : ∀ j v, j < k → xs[j]? = some v → Pv j i v
  s1 : ∀ j, j < k → j < m → St j (i + 1) h
  s2 : ∀ j, k ≤ j → j < m → St j i h
  sz : h.objs.size = h0.objs.size
  kp : ∀ c o, c ≠ z → c ≠ TO → (∀ j, j < m → c ≠ it j) → h0.get? c = some o → h.get? c = some o
theorem zipIdx_refs (m : Nat) (it : Nat → Addr) : (itRefs m it).toArray.toList.zipIdx = (List.range m).map fun k => (Value.ref (it k), k) := by
  apply List.ext_getElem
  · simp [itRefs]
  · intro k h1 h2
    simp [itRefs]
theorem zipN_next_item {xs0 : List Value} {Q : Value → Shared → Prop} (hm : 0 < m) (hm2 : m ≤ 1000) (S : SepN m it fp z TI TO) (D : ∀ k, k < m → Draws prog w A (it k) (fp k) (n k) (Pv k) (St k))
    (hz : IsZ5 s.heap z TI TO x0 b0) (hfr : FreeT prog w A z s) (hTI : s.heap.get? TI = some (tupO (itRefs m it))) (hTO : s.heap.get? TO = some (tupO xs0)) (hl : xs0.length = m) (st : ∀ k, k < m → St k i s.heap) (hlt : ∀ k, k < m → i < n k)
    (hQ : ∀ (xs : List Value) h' tk, xs.length = m → (∀ j v, xs[j]? = some v → Pv j i v) → IsZip h' z TI TO (rawInt s.heap.objs.size) → h'.get? TO = some (tupO xs) → (∀ k, k < m → St k (i + 1) h') → h'.get? s.heap.objs.size = some (tupO xs) → h'.objs.size = s.heap.objs.size + 1 →
      (∀ c o, c ≠ z → c ≠ TO → (∀ j, j < m → c ≠ it j) → s.heap.get? c = some o → h'.get? c = some o) → Q (.ref s.heap.objs.size) { s with heap := h', toks := tk }) :
    wpAny (model prog w) A (Builtin.«zip.__next__» ⟨[.ref z], []⟩) (fun fin s' => ∃ v, fin = .done (.ret v) ∧ Q v s') E s := by
  obtain ⟨hp, g, d, tk0, os⟩ := s
  have ne : (itRefs m it).toArray.isEmpty = false := by
    simp [itRefs]
    omega
  show wpAny _ _ (field (.ref z) 2 >>= _) _ _ _
  refine wpAny_bind (wpAny_field hz rfl (x := .bool false) rfl ?_)
  show wpAny _ _ (field (.ref z) 3 >>= _) _ _ _
  refine wpAny_bind (wpAny_field hz rfl (x := .ref TI) rfl ?_)
  refine wpAny_bind (wpAny_seqItems hTI rfl ?_)
  simp only [ne, Bool.false_eq_true, if_false]
  refine wpAny_bind ?_
  refine hfr _ _ ?_
  simp only [if_true]
  refine wpAny_bind (wpAny_rule ?_)
  refine wpAny_bind (wpAny_field hz rfl (x := .ref TO) rfl ?_)
  refine wpAny_bind (wpAny_setField_rec hz (by simp) fun g0 hz0 hs0 => ?_)
  refine wpAny_bind ?_
  rw [zipIdx_refs]
  refine wpAny_forIn_list _ (fun rest b s' => b.1 = none ∧ ∃ (k : Nat) (xs : List Value) (h' : Heap) (tk : Nat), s' = ⟨h', g, d, tk, os⟩ ∧ k ≤ m ∧ rest = ((List.range m).map fun k => (Value.ref (it k), k)).drop k ∧ Zst b0 m it Pv St z TI TO i k xs hp h') _ ?_ ?_ _ _ ⟨rfl, 0, xs0, g0, tk0, rfl, Nat.zero_le _, rfl, ?_⟩
  · rintro ⟨v, j⟩ rest ⟨b1, b2⟩ s' ⟨hb, k, xs, h', tk, rfl, hk, hr, Z⟩
    have hb' : b1 = none := hb
    subst hb'
    have hkm : k < m := by
      rcases Nat.lt_or_ge k m with q | q
      · exact q
      · rw [List.drop_eq_nil_of_le (by simp; exact q)] at hr
        cases hr
    have hd : ((List.range m).map fun k => (Value.ref (it k), k)).drop k = (Value.ref (it k), k) :: ((List.range m).map fun k => (Value.ref (it k), k)).drop (k + 1) := by
      rw [List.drop_eq_getElem_cons (by simp; exact hkm)]
      simp
    rw [hd] at hr
    have e1 := (List.cons.inj hr).1
    have e2 := (List.cons.inj hr).2
    have ev : v = Value.ref (it k) := congrArg Prod.fst e1
    have ej : j = k := congrArg Prod.snd e1
    subst ev
    subst ej
    refine wpAny_bind (wpAny_onRaise ?_)
    show wpAny _ _ (Builtin.SmallTypes.nextOf (.ref (it j)) >>= _) _ _ ⟨h', g, d, tk, os⟩
    refine wpAny_bind ((D j hkm).item i _ _ _ (hlt j hkm) (Z.s2 j (Nat.le_refl _) hkm) fun x p tk' hx sn hp' => wpAny_pure ?_)
    replace hp' : Heap.SameBut (it j) h' p := hp'
    have hU : p.get? TO = some (tupO xs) := hp'.extBut _ _ (S.Ti hkm) Z.tt
    refine wpAny_bind (wpAny_seqItems (s := ⟨p, g, d, tk', os⟩) hU rfl ?_)
    have zl : xs.length ≤ sizeLine := by
      rw [Z.ln]
      exact Nat.le_of_lt (small1000 hm2)
    have z1 : xs.toArray.size ≤ sizeLine := by
      rw [List.size_toArray]
      exact zl
    have z2 : (xs.toArray.setIfInBounds j x).size ≤ sizeLine + 1 := by
      rw [Array.size_setIfInBounds]
      omega
    refine wpAny_bind (wpAny_updateSeq (s := ⟨p, g, d, tk', os⟩) hU rfl ?_ z1 z2)
    have hs1 : Heap.SameBut TO p (p.update TO (Obj.mapSeq (·.setIfInBounds j x))) := Heap.SameBut.update ..
    have hT1 : (p.update TO (Obj.mapSeq (·.setIfInBounds j x))).get? TO = some (tupO (xs.set j x)) := by
      rw [Heap.get?_update_self _ hU rfl]
      simp [Obj.mapSeq]
    generalize p.update TO (Obj.mapSeq (·.setIfInBounds j x)) = g1 at hs1 hT1
    refine wpAny_bind (wpAny_letGo (wpAny_pure ?_))
    refine ⟨rfl, j + 1, xs.set j x, g1, tk', rfl, hkm, e2, ?_⟩
    have keep : ∀ c o, c ≠ TO → c ≠ it j → h'.get? c = some o → g1.get? c = some o := fun c o c1 c2 e => hs1.extBut _ _ c1 (hp'.extBut _ _ c2 e)
    refine ⟨?_, hT1, ?_, fun q v hq hv => ?_, fun q hq hqm => ?_, fun q hq hqm => ?_, ?_, fun c o c1 c2 c3 e => ?_⟩
    · exact keep _ _ S.TOz.symm (S.zi hkm) Z.zz
    · rw [List.length_set, Z.ln]
    · by_cases eq : q = j
      · subst eq
        rw [List.getElem?_set_self (by rw [Z.ln]; exact hkm)] at hv
        cases hv
        exact hx
      · rw [List.getElem?_set_ne (Ne.symm eq)] at hv
        exact Z.lo q v (by omega) hv
    · by_cases eq : q = j
      · subst eq
        exact (D q hqm).frame _ _ _ sn fun b hb o e => hs1.extBut _ _ (fun z => S.Tf q hqm (z ▸ hb)) e
      · exact (D q hqm).frame _ _ _ (Z.s1 q (by omega) hqm) fun b hb o e => keep b o (fun z => S.Tf q hqm (z ▸ hb)) (fun z => S.sep j q hkm hqm (fun y => eq y.symm) (z ▸ hb)) e
    · exact (D q hqm).frame _ _ _ (Z.s2 q (by omega) hqm) fun b hb o e => keep b o (fun z => S.Tf q hqm (z ▸ hb)) (fun z => S.sep j q hkm hqm (by omega) (z ▸ hb)) e
    · rw [hs1.1, hp'.1, Z.sz]
    · exact keep c o c2 (c3 j hkm) (Z.kp c o c1 c2 c3 e)
  · rintro ⟨b1, b2⟩ s' ⟨hb, k, xs, h', tk, rfl, hk, hr, Z⟩
    have hb' : b1 = none := hb
    subst hb'
    have hkm : k = m := by
      rcases Nat.lt_or_ge k m with q | q
      · rw [List.drop_eq_getElem_cons (by simp; exact q)] at hr
        cases hr
      · omega
    subst hkm
    have zl : xs.length ≤ sizeLine := by
      rw [Z.ln]
      exact Nat.le_of_lt (small1000 hm2)
    refine wpAny_bind (wpAny_seqItems (s := ⟨h', g, d, tk, os⟩) Z.tt rfl ?_)
    refine wpAny_bind (wpAny_newTuple ?_ (by simpa using zl))
    have hzlt : z < h'.objs.size := Heap.lt_size Z.zz
    show wpAny _ _ (Builtin.SmallTypes.ownedTupleHandOut (.ref z) (.ref h'.objs.size) >>= _) _ _ ⟨h'.push (tupO xs), g, d, tk, os⟩
    refine wpAny_bind ?_
    unfold Builtin.SmallTypes.ownedTupleHandOut
    have hz6 : IsZ5 (h'.push (tupO xs)) z TI TO .ellipsis b0 := Heap.get?_push_of_some _ Z.zz
    refine wpAny_bind (wpAny_setField_rec hz6 (by simp) fun h7 hz7 hs7 => ?_)
    replace hz7 : IsZ5 h7 z TI TO (rawInt h'.objs.size) b0 := hz7
    refine wpAny_setField_rec hz7 (by simp) fun h8 hz8 hs8 => ?_
    replace hz8 : IsZip h8 z TI TO (rawInt h'.objs.size) := hz8
    replace hs7 : Heap.SameBut z (h'.push (tupO xs)) h7 := hs7
    replace hs8 : Heap.SameBut z h7 h8 := hs8
    have up : ∀ c o, c ≠ z → h'.get? c = some o → h8.get? c = some o := fun c o c1 e => hs8.extBut _ _ c1 (hs7.extBut _ _ c1 (Heap.get?_push_of_some _ e))
    have hT8 : h8.get? h'.objs.size = some (tupO xs) := hs8.extBut _ _ (Nat.ne_of_gt hzlt) (hs7.extBut _ _ (Nat.ne_of_gt hzlt) (Heap.get?_push_size _ rfl))
    have hz8s : h8.objs.size = h'.objs.size + 1 := by rw [hs8.1, hs7.1, Heap.size_push]
    rw [Z.sz] at hz8 hT8 hz8s
    refine wpAny_pure ⟨_, rfl, ?_⟩
    show Q (.ref h'.objs.size) ⟨h8, g, d, tk, os⟩
    rw [Z.sz]
    exact hQ xs h8 tk Z.ln (fun j v hv => Z.lo j v (by rw [← Z.ln]; exact (List.getElem?_eq_some_iff.mp hv).1) hv) hz8 (up _ _ S.TOz Z.tt) (fun q hq => (D q hq).frame _ _ _ (Z.s1 q hq hq) fun b hb o e => up b o (fun y => S.zf q hq (y ▸ hb)) e) hT8 hz8s fun c o c1 c2 c3 e => up c o c1 (Z.kp c o c1 c2 c3 e)
  · refine ⟨hz0, hs0.extBut _ _ S.TOz hTO, hl, fun j v h => absurd h (Nat.not_lt_zero _), fun j h => absurd h (Nat.not_lt_zero _), fun j _ hj => (D j hj).over (st j hj) hs0 (S.zf j hj), hs0.1, fun c o c1 c2 c3 e => hs0.extBut _ _ c1 e⟩
/-- the first of them is at its end -/
theorem zipN_next_end {xs0 : List Value} {Q : PySem.Fin → Shared → Prop} (hm : 0 < m) (S : SepN m it fp z TI TO) (D : ∀ k, k < m → Draws prog w A (it k) (fp k) (n k) (Pv k) (St k))
    (hz : IsZ5 s.heap z TI TO x0 b0) (hfr : FreeT prog w A z s) (hTI : s.heap.get? TI = some (tupO (itRefs m it))) (hTO : s.heap.get? TO = some (tupO xs0)) (st : ∀ k, k < m → St k i s.heap) (hend : i = n 0)
    (hE : ∀ h' tk e, (∀ c o, c ≠ z → c ≠ TO → (∀ j, j < m → c ≠ it j) → s.heap.get? c = some o → h'.get? c = some o) → (∃ o, h'.get? e = some o ∧ o.cls = .type "StopIteration") → E (.ref e) { s with heap := h', toks := tk }) :
    wpAny (model prog w) A (Builtin.«zip.__next__» ⟨[.ref z], []⟩) Q E s := by
  obtain ⟨hp, g, d, tk0, os⟩ := s
  have ne : (itRefs m it).toArray.isEmpty = false := by
    simp [itRefs]
    omega
  show wpAny _ _ (field (.ref z) 2 >>= _) _ _ _
  refine wpAny_bind (wpAny_field hz rfl (x := .bool false) rfl ?_)
  show wpAny _ _ (field (.ref z) 3 >>= _) _ _ _
  refine wpAny_bind (wpAny_field hz rfl (x := .ref TI) rfl ?_)
  refine wpAny_bind (wpAny_seqItems hTI rfl ?_)
  simp only [ne, Bool.false_eq_true, if_false]
  refine wpAny_bind ?_
  refine hfr _ _ ?_
  simp only [if_true]
  refine wpAny_bind (wpAny_rule ?_)
  refine wpAny_bind (wpAny_field hz rfl (x := .ref TO) rfl ?_)
  refine wpAny_bind (wpAny_setField_rec hz (by simp) fun g0 hz0 hs0 => ?_)
  replace hz0 : IsZ5 g0 z TI TO .ellipsis b0 := hz0
  replace hs0 : Heap.SameBut z hp g0 := hs0
  refine wpAny_bind ?_
  rw [zipIdx_refs]
  have hd : (List.range m).map (fun k => (Value.ref (it k), k)) = (Value.ref (it 0), 0) :: ((List.range m).map fun k => (Value.ref (it k), k)).drop 1 := by
    have := List.drop_eq_getElem_cons (l := (List.range m).map fun k => (Value.ref (it k), k)) (i := 0) (by simp; exact hm)
    rw [List.drop_zero] at this
    rw [this]
    simp
  rw [hd, List.forIn_cons]
  refine wpAny_bind (wpAny_bind (wpAny_onRaise ?_))
  show wpAny _ _ (Builtin.SmallTypes.nextOf (.ref (it 0)) >>= _) _ _ ⟨g0, g, d, tk0, os⟩
  refine wpAny_bind ((D 0 hm).done ⟨g0, g, d, tk0, os⟩ _ _ (by rw [← hend]; exact (D 0 hm).over (st 0 hm) hs0 (S.zf 0 hm)) fun q e hq he => ?_)
  replace hq : Heap.ExtBut (it 0) g0 q := hq
  obtain ⟨oe, hoe, hce⟩ := he
  replace hoe : q.get? e = some oe := hoe
  have hzq : IsZ5 q z TI TO .ellipsis b0 := hq _ _ (S.zi hm) hz0
  have hez : e ≠ z := fun x => by
    subst x
    rw [hzq] at hoe
    cases hoe
    simp at hce
  refine wpAny_setField_rec (s := ⟨q, g, d, tk0, os⟩) hzq (by simp) fun q' _ hq' => ?_
  replace hq' : Heap.SameBut z q q' := hq'
  exact hE q' tk0 e (fun c o cz cT c1 x => hq'.extBut _ _ cz (hq _ _ (c1 0 hm) (hs0.extBut _ _ cz x))) ⟨oe, hq'.extBut _ _ hez hoe, hce⟩
theorem pyNext_zipN_item {xs0 : List Value} {Q : Option Value → Shared → Prop} (hm : 0 < m) (hm2 : m ≤ 1000) (S : SepN m it fp z TI TO) (D : ∀ k, k < m → Draws prog w A.in1 (it k) (fp k) (n k) (Pv k) (St k))
    (hz : IsZ5 s.heap z TI TO x0 b0) (hfr : FreeT prog w A.in1 z s) (hTI : s.heap.get? TI = some (tupO (itRefs m it))) (hTO : s.heap.get? TO = some (tupO xs0)) (hl : xs0.length = m) (st : ∀ k, k < m → St k i s.heap) (hlt : ∀ k, k < m → i < n k)
    (hQ : ∀ (xs : List Value) h' tk, xs.length = m → (∀ j v, xs[j]? = some v → Pv j i v) → IsZip h' z TI TO (rawInt s.heap.objs.size) → h'.get? TO = some (tupO xs) → (∀ k, k < m → St k (i + 1) h') → h'.get? s.heap.objs.size = some (tupO xs) → h'.objs.size = s.heap.objs.size + 1 →
      (∀ c o, c ≠ z → c ≠ TO → (∀ j, j < m → c ≠ it j) → s.heap.get? c = some o → h'.get? c = some o) → Q (some (.ref s.heap.objs.size)) { s with heap := h', toks := tk }) :
    wpAny (model prog w) A (pyNext (.ref z)) Q E s := by
  have hT : s.TypeIs (.ref z) "zip" := ⟨_, hz, rfl⟩
  unfold pyNext
  exact wpAny_bind (wpAny_attempt (wpAny_callSpecial?_slot (name := Str.ofString "__next__") hT PySem.F.slot_zip_next
    (wpAny_call_entry PySem.F.slot_zip_next hT PySem.F.entry_zip_next
      (zipN_next_item hm hm2 S D hz hfr hTI hTO hl st hlt fun xs h' tk y1 y2 b1 b2 d1 b5 b6 b7 => wpAny_pure (hQ xs h' tk y1 y2 b1 b2 d1 b5 b6 b7)) (PySem.F.args_zip_next_1 _))))
theorem pyNext_zipN_end {xs0 : List Value} {Q : Option Value → Shared → Prop} (hm : 0 < m) (S : SepN m it fp z TI TO) (D : ∀ k, k < m → Draws prog w A.in1 (it k) (fp k) (n k) (Pv k) (St k))
    (hz : IsZ5 s.heap z TI TO x0 b0) (hfr : FreeT prog w A.in1 z s) (hTI : s.heap.get? TI = some (tupO (itRefs m it))) (hTO : s.heap.get? TO = some (tupO xs0)) (st : ∀ k, k < m → St k i s.heap) (hend : i = n 0)
    (hQ : ∀ h' tk, (∀ c o, c ≠ z → c ≠ TO → (∀ j, j < m → c ≠ it j) → s.heap.get? c = some o → h'.get? c = some o) → Q none { s with heap := h', toks := tk }) : wpAny (model prog w) A (pyNext (.ref z)) Q E s := by
  have hT : s.TypeIs (.ref z) "zip" := ⟨_, hz, rfl⟩
  unfold pyNext
  refine wpAny_bind (wpAny_attempt (wpAny_callSpecial?_slot (name := Str.ofString "__next__") hT PySem.F.slot_zip_next
    (wpAny_call_entry PySem.F.slot_zip_next hT PySem.F.entry_zip_next (zipN_next_end hm S D hz hfr hTI hTO st hend fun h' tk e hk he => ?_) (PySem.F.args_zip_next_1 _))))
  obtain ⟨o, ho, hc⟩ := he
  refine wpAny_bind (wpAny_isInstance (T := "StopIteration") (b := true) ⟨o, ho, hc⟩ isSubtype_stop ?_)
  exact wpAny_pure (hQ _ _ hk)
end
end L2X
/-! zip of any number of things: it begins -/
namespace L2X
open PySem PySem.Spec PyProof.Rows L2
def pushAll (h : Heap) (os : List Obj) : Heap := os.foldl (fun h o => h.push o) h
theorem pushAll_size : ∀ (os : List Obj) (h : Heap), (pushAll h os).objs.size = h.objs.size + os.length
  | [], h => rfl
  | o :: os, h => by
    have e : pushAll h (o :: os) = pushAll (h.push o) os := rfl
    rw [e, pushAll_size os, Heap.size_push, List.length_cons]
    omega
theorem pushAll_snoc (h : Heap) (os : List Obj) (o : Obj) : pushAll h (os ++ [o]) = (pushAll h os).push o := by
  unfold pushAll
  rw [List.foldl_append]
  rfl
theorem pushAll_keep : ∀ (os : List Obj) {h : Heap} {b : Addr} {o : Obj}, h.get? b = some o → (pushAll h os).get? b = some o
  | [], _, _, _, e => e
  | _ :: os, _, _, _, e => pushAll_keep os (Heap.get?_push_of_some _ e)
theorem pushAll_get : ∀ (os : List Obj) (h : Heap) (k : Nat) (o : Obj), os[k]? = some o → o.isFreed = false → (pushAll h os).get? (h.objs.size + k) = some o
  | [], _, _, _, e, _ => nomatch e
  | p :: os, h, 0, o, e, f => by
    cases e
    exact pushAll_keep os (Heap.get?_push_size _ f)
  | p :: os, h, k + 1, o, e, f => by
    have q := pushAll_get os (h.push p) k o e f
    rw [Heap.size_push] at q
    have e2 : h.objs.size + (k + 1) = h.objs.size + 1 + k := by omega
    rw [e2]
    exact q
def newRefs (N k : Nat) : List Value := (List.range k).map fun j => Value.ref (N + j)
section
variable {prog : Program} {w : World} {A : Around} {E : Value → Shared → Prop} {s : Shared}
theorem iterAll_begins {l : List (Value × Obj)} (B : ∀ p ∈ l, Begins p.1 p.2 fun _ => True) {Q : List Value → Shared → Prop} (h : Q (newRefs s.heap.objs.size l.length) { s with heap := pushAll s.heap (l.map (·.2)) }) :
    wpAny (model prog w) A (Builtin.SmallTypes.iterAll (l.map (·.1))) Q E s := by
  unfold Builtin.SmallTypes.iterAll
  refine wpAny_bind (wpAny_forIn_list _ (fun rest (b : Array Value) s' => ∃ k, k ≤ l.length ∧ rest = (l.map (·.1)).drop k ∧ b = (newRefs s.heap.objs.size k).toArray ∧ s' = { s with heap := pushAll s.heap ((l.map (·.2)).take k) }) _ ?_ ?_ _ _ ⟨0, Nat.zero_le _, rfl, rfl, rfl⟩)
  · rintro x rest b s' ⟨k, hk, hr, rfl, rfl⟩
    have hkl : k < l.length := by
      rcases Nat.lt_or_ge k l.length with q | q
      · exact q
      · rw [List.drop_eq_nil_of_le (by simpa using q)] at hr
        cases hr
    have hd : (l.map (·.1)).drop k = l[k].1 :: (l.map (·.1)).drop (k + 1) := by
      rw [List.drop_eq_getElem_cons (by simpa using hkl)]
      simp
    rw [hd] at hr
    have e1 := (List.cons.inj hr).1
    have e2 := (List.cons.inj hr).2
    subst e1
    refine wpAny_bind (wpAny_holding ?_)
    refine (B l[k] (List.getElem_mem hkl)).iter _ _ _ _ _ _ trivial ?_
    refine wpAny_pure ⟨k + 1, hkl, e2, ?_, ?_⟩
    · show (newRefs s.heap.objs.size k).toArray.push (.ref (pushAll s.heap ((l.map (·.2)).take k)).objs.size) = _
      rw [pushAll_size, List.length_take, List.length_map, Nat.min_eq_left hk]
      unfold newRefs
      rw [List.range_succ, List.map_append]
      simp
    · have ek : (l.map (·.2))[k]? = some l[k].2 := by simp [hkl]
      have : (l.map (·.2)).take (k + 1) = (l.map (·.2)).take k ++ [l[k].2] := by
        rw [List.take_add_one, ek]
        rfl
      rw [this, pushAll_snoc]
  · rintro b s' ⟨k, hk, hr, rfl, rfl⟩
    have hkl : k = l.length := by
      rcases Nat.lt_or_ge k l.length with q | q
      · rw [List.drop_eq_getElem_cons (by simpa using q)] at hr
        cases hr
      · omega
    subst hkl
    refine wpAny_pure ?_
    have : (l.map (·.2)).take l.length = l.map (·.2) := List.take_of_length_le (by simp)
    rw [this]
    simpa using h
end
/-- where zip(v1, .., vm) begins -/
abbrev gzTN (h : Heap) (os : List Obj) : Heap := (pushAll h os).push (tupO (newRefs h.objs.size os.length))
abbrev gzON (h : Heap) (os : List Obj) : Heap := (gzTN h os).push (tupO (List.replicate os.length .none))
abbrev gzZN (h : Heap) (os : List Obj) : Heap := (gzON h os).push { cls := .type "zip", data := .fields #[.none, .bool false, .bool false, .ref (pushAll h os).objs.size, .ref (gzTN h os).objs.size] }
theorem meets_zip_newN {l : List (Value × Obj)} (hl : l.length ≤ 1000) (B : ∀ p ∈ l, Begins p.1 p.2 fun _ => True) :
    Meets (Builtin.«zip.__new__» ⟨.type "zip" :: l.map (·.1), []⟩) (fun _ R s =>
      R (.ok (.ret (.ref (gzON s.heap (l.map (·.2))).objs.size))) { s with heap := gzZN s.heap (l.map (·.2)) }) :=
  .of_wp fun prog w A R s h => by
    obtain ⟨hp, g, d, tk, os⟩ := s
    have hsub := sub_zip
    have q1 : ∀ {A' : Around} {E : Value → Shared → Prop} {Q : List Value → Shared → Prop}, Q (newRefs hp.objs.size l.length) ⟨pushAll hp (l.map (·.2)), g, d, tk, os⟩ → wpAny (model prog w) A' (Builtin.SmallTypes.iterAll (l.map (·.1))) Q E ⟨hp, g, d, tk, os⟩ :=
      fun q => iterAll_begins (s := ⟨hp, g, d, tk, os⟩) B q
    have len : (newRefs hp.objs.size l.length).length = l.length := by simp [newRefs]
    have z1 : (newRefs hp.objs.size l.length).length ≤ sizeLine := by
      rw [len]
      exact Nat.le_of_lt (small1000 hl)
    have q2 : ∀ {A' : Around} {E : Value → Shared → Prop} {Q : Value → Shared → Prop} {s : Shared}, Q (.ref s.heap.objs.size) { s with heap := s.heap.push (tupO (newRefs hp.objs.size l.length)) } → wpAny (model prog w) A' (newTuple (newRefs hp.objs.size l.length)) Q E s :=
      fun q => wpAny_newTuple q (by simpa using z1)
    have en : (newRefs hp.objs.size l.length).map (fun _ => Value.none) = List.replicate l.length .none := by
      rw [List.map_const', len]
    have q3 : ∀ {A' : Around} {E : Value → Shared → Prop} {Q : Value → Shared → Prop} {s : Shared}, Q (.ref s.heap.objs.size) { s with heap := s.heap.push (tupO (List.replicate l.length .none)) } → wpAny (model prog w) A' (newTuple ((newRefs hp.objs.size l.length).map (fun _ => Value.none))) Q E s :=
      fun q => by
        rw [en]
        exact wpAny_newTuple q (by simp; exact Nat.le_of_lt (small1000 hl))
    wp_walk using q1, q2, q3
    refine ⟨_, rfl, ?_⟩
    have e : (l.map (·.2)).length = l.length := List.length_map _
    unfold gzZN gzON gzTN at h
    rw [e] at h
    exact h
theorem zt1 (r : List Value) : checkTypeCall "zip" ⟨r, []⟩ = pure () := by kernel_rfl
theorem zt2 (a : Value) (r : List Value) : checkBuiltinCall "zip.__new__" ⟨.type "zip" :: a :: r, []⟩ = pure () := by kernel_rfl
theorem zt3 (obj : Value) (r : List Value) : argsOk "object.__init__" ⟨obj :: r, []⟩ := by
  unfold argsOk
  kernel_rfl
section
variable {prog : Program} {w : World} {A : Around} {E : Value → Shared → Prop} {s : Shared}
/-- zip of many: its new cells -/
theorem zip_beginsN {l : List (Value × Obj)} {Q : Value → Shared → Prop} (hl0 : 0 < l.length) (hl : l.length ≤ 1000) (B : ∀ p ∈ l, Begins p.1 p.2 fun _ => True)
    (h : ∀ h', IsZip h' (s.heap.objs.size + l.length + 2) (s.heap.objs.size + l.length) (s.heap.objs.size + l.length + 1) .none → h'.get? (s.heap.objs.size + l.length) = some (tupO (newRefs s.heap.objs.size l.length)) →
      h'.get? (s.heap.objs.size + l.length + 1) = some (tupO (List.replicate l.length .none)) → (∀ k p, l[k]? = some p → h'.get? (s.heap.objs.size + k) = some p.2) → h'.objs.size = s.heap.objs.size + l.length + 3 →
      (∀ c o, s.heap.get? c = some o → h'.get? c = some o) → Q (.ref (s.heap.objs.size + l.length + 2)) { s with heap := h' }) :
    wpAny (model prog w) A (call (.type "zip") (l.map (·.1))) Q E s := by
  have hn : checkBuiltinCall "zip.__new__" ⟨.type "zip" :: l.map (·.1), []⟩ = pure () := by
    cases l with
    | nil => exact absurd hl0 (Nat.lt_irrefl _)
    | cons p r => exact zt2 _ _
  refine callType_new PySem.F.called_zip (by decide) (zt1 _) hn (fun obj => zt3 obj _) PySem.F.entry_zip_new (meets_zip_newN hl B) ?_
  have e : (l.map (·.2)).length = l.length := List.length_map _
  have z0 : (pushAll s.heap (l.map (·.2))).objs.size = s.heap.objs.size + l.length := by rw [pushAll_size, e]
  have zT : (gzTN s.heap (l.map (·.2))).objs.size = s.heap.objs.size + l.length + 1 := by rw [Heap.size_push, z0]
  have zO : (gzON s.heap (l.map (·.2))).objs.size = s.heap.objs.size + l.length + 2 := by rw [Heap.size_push, zT]
  have zZ : (gzZN s.heap (l.map (·.2))).objs.size = s.heap.objs.size + l.length + 3 := by rw [Heap.size_push, zO]
  have gZ : (gzZN s.heap (l.map (·.2))).get? (gzON s.heap (l.map (·.2))).objs.size = some { cls := .type "zip", data := .fields #[.none, .bool false, .bool false, .ref (pushAll s.heap (l.map (·.2))).objs.size, .ref (gzTN s.heap (l.map (·.2))).objs.size] } := Heap.get?_push_size _ rfl
  have gO : (gzZN s.heap (l.map (·.2))).get? (gzTN s.heap (l.map (·.2))).objs.size = some (tupO (List.replicate (l.map (·.2)).length .none)) := Heap.get?_push_of_some _ (Heap.get?_push_size _ rfl)
  have gT : (gzZN s.heap (l.map (·.2))).get? (pushAll s.heap (l.map (·.2))).objs.size = some (tupO (newRefs s.heap.objs.size (l.map (·.2)).length)) := Heap.get?_push_of_some _ (Heap.get?_push_of_some _ (Heap.get?_push_size _ rfl))
  have gk : ∀ k p, l[k]? = some p → (gzZN s.heap (l.map (·.2))).get? (s.heap.objs.size + k) = some p.2 := fun k p hp =>
    Heap.get?_push_of_some _ (Heap.get?_push_of_some _ (Heap.get?_push_of_some _ (pushAll_get _ _ k p.2 (by rw [List.getElem?_map, hp]; rfl) (B p (List.mem_of_getElem? hp)).free)))
  rw [zO, zT, z0] at gZ
  rw [zT, e] at gO
  rw [z0, e] at gT
  show _ ∧ _
  rw [zO]
  exact ⟨⟨_, gZ, rfl⟩, h _ gZ gT gO gk zZ fun c o q => Heap.get?_push_of_some _ (Heap.get?_push_of_some _ (Heap.get?_push_of_some _ (pushAll_keep _ q)))⟩
end
end L2X
/-! zip over any number of iterators: a turn while the tuple given out before is held -/
namespace L2X
open PySem PySem.Spec PyProof.Rows L2
section
variable {prog : Program} {w : World} {A : Around} {E : Value → Shared → Prop} {s : Shared} {z TI TO T : Addr} {m i : Nat} {it : Nat → Addr} {fp : Nat → List Addr} {n : Nat → Nat} {Pv : Nat → Nat → Value → Prop} {St : Nat → Nat → Heap → Prop} {oT : Obj} {f : Bool}
structure Hst (m : Nat) (it : Nat → Addr) (Pv : Nat → Nat → Value → Prop) (St : Nat → Nat → Heap → Prop) (z TI TO T : Addr) (i k : Nat) (xs : List Value) (h0 h : Heap) : Prop where
  zz : IsZipHeld h z TI TO T true
  ln : xs.length = k
  lo : ∀ j v, xs[j]? = some v → Pv j i v
  s1 : ∀ j, j < k → j < m → St j (i + 1) h
  s2 : ∀ j, k ≤ j → j < m → St j i h
  sz : h.objs.size = h0.objs.size
  kp : ∀ c o, c ≠ z → (∀ j, j < m → c ≠ it j) → h0.get? c = some o → h.get? c = some o
theorem zipN_next_held {Q : Value → Shared → Prop} (hm : 0 < m) (hm2 : m ≤ 1000) (S : SepN m it fp z TI TO) (D : ∀ k, k < m → Draws prog w A (it k) (fp k) (n k) (Pv k) (St k))
    (hz : IsZipHeld s.heap z TI TO T f) (hT : s.heap.get? T = some oT) (hTI : s.heap.get? TI = some (tupO (itRefs m it))) (st : ∀ k, k < m → St k i s.heap) (hlt : ∀ k, k < m → i < n k)
    (hQ : ∀ (xs : List Value) h' tk, xs.length = m → (∀ j v, xs[j]? = some v → Pv j i v) → IsZipHeld h' z TI TO T true → (∀ k, k < m → St k (i + 1) h') → h'.get? s.heap.objs.size = some (tupO xs) → h'.objs.size = s.heap.objs.size + 1 →
      (∀ c o, c ≠ z → (∀ j, j < m → c ≠ it j) → s.heap.get? c = some o → h'.get? c = some o) → Q (.ref s.heap.objs.size) { s with heap := h', toks := tk }) :
    wpAny (model prog w) A (Builtin.«zip.__next__» ⟨[.ref z], []⟩) (fun fin s' => ∃ v, fin = .done (.ret v) ∧ Q v s') E s := by
  obtain ⟨hp, g, d, tk0, os⟩ := s
  have ne : (itRefs m it).toArray.isEmpty = false := by
    simp [itRefs]
    omega
  show wpAny _ _ (field (.ref z) 2 >>= _) _ _ _
  refine wpAny_bind (wpAny_field hz rfl (x := .bool false) rfl ?_)
  show wpAny _ _ (field (.ref z) 3 >>= _) _ _ _
  refine wpAny_bind (wpAny_field hz rfl (x := .ref TI) rfl ?_)
  refine wpAny_bind (wpAny_seqItems hTI rfl ?_)
  simp only [ne, Bool.false_eq_true, if_false]
  refine wpAny_bind (wpAny_tupleHeld_zip hz hT fun g0 hz0 hs0 => ?_)
  simp only [Bool.false_eq_true, if_false]
  refine wpAny_bind ?_
  rw [← Array.forIn_toList]
  refine wpAny_forIn_list _ (fun rest b s' => b.1 = none ∧ ∃ (k : Nat) (xs : List Value) (h' : Heap) (tk : Nat), s' = ⟨h', g, d, tk, os⟩ ∧ k ≤ m ∧ rest = (itRefs m it).drop k ∧ b.2 = xs.toArray ∧ Hst m it Pv St z TI TO T i k xs hp h') _ ?_ ?_ _ _ ⟨rfl, 0, [], g0, tk0, rfl, Nat.zero_le _, by simp, rfl, ?_⟩
  · rintro v rest ⟨b1, b2⟩ s' ⟨hb, k, xs, h', tk, rfl, hk, hr, hx2, Z⟩
    have hb' : b1 = none := hb
    have hx2' : b2 = xs.toArray := hx2
    subst hb'
    subst hx2'
    have hlen : (itRefs m it).length = m := by simp [itRefs]
    have hkm : k < m := by
      rcases Nat.lt_or_ge k m with q | q
      · exact q
      · rw [List.drop_eq_nil_of_le (by rw [hlen]; exact q)] at hr
        cases hr
    have hd : (itRefs m it).drop k = Value.ref (it k) :: (itRefs m it).drop (k + 1) := by
      rw [List.drop_eq_getElem_cons (by rw [hlen]; exact hkm)]
      simp [itRefs]
    rw [hd] at hr
    have e1 := (List.cons.inj hr).1
    have e2 := (List.cons.inj hr).2
    subst e1
    refine wpAny_bind (wpAny_holding ?_)
    show wpAny _ _ (Builtin.SmallTypes.nextOf (.ref (it k)) >>= _) _ _ ⟨h', g, d, tk, os⟩
    refine wpAny_bind ((D k hkm).item i _ _ _ (hlt k hkm) (Z.s2 k (Nat.le_refl _) hkm) fun x p tk' hx sn hp' => wpAny_pure ?_)
    replace hp' : Heap.SameBut (it k) h' p := hp'
    refine wpAny_pure ?_
    refine ⟨rfl, k + 1, xs ++ [x], p, tk', rfl, hkm, e2, by simp, ?_⟩
    refine ⟨hp'.extBut _ _ (S.zi hkm) Z.zz, by rw [List.length_append, Z.ln]; rfl, fun q v hv => ?_, fun q hq hqm => ?_, fun q hq hqm => ?_, by rw [hp'.1, Z.sz], fun c o c1 c3 e => hp'.extBut _ _ (c3 k hkm) (Z.kp c o c1 c3 e)⟩
    · by_cases hqk : q < xs.length
      · rw [List.getElem?_append_left hqk] at hv
        exact Z.lo q v hv
      · have hq2 : q = xs.length := by
          have := (List.getElem?_eq_some_iff.mp hv).1
          rw [List.length_append, List.length_singleton] at this
          omega
        subst hq2
        rw [List.getElem?_concat_length] at hv
        cases hv
        rw [Z.ln]
        exact hx
    · by_cases eq : q = k
      · subst eq
        exact sn
      · exact (D q hqm).frame _ _ _ (Z.s1 q (by omega) hqm) fun b hb o e => hp'.extBut _ _ (fun y => S.sep k q hkm hqm (fun r => eq r.symm) (y ▸ hb)) e
    · exact (D q hqm).frame _ _ _ (Z.s2 q (by omega) hqm) fun b hb o e => hp'.extBut _ _ (fun y => S.sep k q hkm hqm (by omega) (y ▸ hb)) e
  · rintro ⟨b1, b2⟩ s' ⟨hb, k, xs, h', tk, rfl, hk, hr, hx2, Z⟩
    have hb' : b1 = none := hb
    have hx2' : b2 = xs.toArray := hx2
    subst hb'
    subst hx2'
    have hlen : (itRefs m it).length = m := by simp [itRefs]
    have hkm : k = m := by
      rcases Nat.lt_or_ge k m with q | q
      · rw [List.drop_eq_getElem_cons (by rw [hlen]; exact q)] at hr
        cases hr
      · omega
    subst hkm
    have zl : xs.length ≤ sizeLine := by
      rw [Z.ln]
      exact Nat.le_of_lt (small1000 hm2)
    refine wpAny_bind (wpAny_newTuple ?_ (by simpa using zl))
    refine wpAny_pure ⟨_, rfl, ?_⟩
    show Q (.ref h'.objs.size) ⟨h'.push (tupO xs), g, d, tk, os⟩
    have hz4 : (h'.push (tupO xs)).objs.size = h'.objs.size + 1 := Heap.size_push ..
    have hp4 : (h'.push (tupO xs)).get? h'.objs.size = some (tupO xs) := Heap.get?_push_size _ rfl
    rw [Z.sz] at hz4 hp4 ⊢
    exact hQ xs _ tk Z.ln Z.lo (Heap.get?_push_of_some _ Z.zz) (fun q hq => (D q hq).frame _ _ _ (Z.s1 q hq hq) fun b hb o e => Heap.get?_push_of_some _ e) hp4 hz4 fun c o c1 c3 e => Heap.get?_push_of_some _ (Z.kp c o c1 c3 e)
  · exact ⟨hz0, rfl, (fun j v h => nomatch h), fun j h => absurd h (Nat.not_lt_zero _), fun j _ hj => (D j hj).over (st j hj) hs0 (S.zf j hj), hs0.1, fun c o c1 c3 e => hs0.extBut _ _ c1 e⟩
theorem zipN_end_held {Q : PySem.Fin → Shared → Prop} (hm : 0 < m) (S : SepN m it fp z TI TO) (D : ∀ k, k < m → Draws prog w A (it k) (fp k) (n k) (Pv k) (St k))
    (hz : IsZipHeld s.heap z TI TO T f) (hT : s.heap.get? T = some oT) (hTI : s.heap.get? TI = some (tupO (itRefs m it))) (st : ∀ k, k < m → St k i s.heap) (hend : i = n 0)
    (hE : ∀ h' tk e, (∀ c o, c ≠ z → c ≠ TO → (∀ j, j < m → c ≠ it j) → s.heap.get? c = some o → h'.get? c = some o) → (∃ o, h'.get? e = some o ∧ o.cls = .type "StopIteration") → E (.ref e) { s with heap := h', toks := tk }) :
    wpAny (model prog w) A (Builtin.«zip.__next__» ⟨[.ref z], []⟩) Q E s := by
  obtain ⟨hp, g, d, tk0, os⟩ := s
  have ne : (itRefs m it).toArray.isEmpty = false := by
    simp [itRefs]
    omega
  show wpAny _ _ (field (.ref z) 2 >>= _) _ _ _
  refine wpAny_bind (wpAny_field hz rfl (x := .bool false) rfl ?_)
  show wpAny _ _ (field (.ref z) 3 >>= _) _ _ _
  refine wpAny_bind (wpAny_field hz rfl (x := .ref TI) rfl ?_)
  refine wpAny_bind (wpAny_seqItems hTI rfl ?_)
  simp only [ne, Bool.false_eq_true, if_false]
  refine wpAny_bind (wpAny_tupleHeld_zip hz hT fun g0 hz0 hs0 => ?_)
  simp only [Bool.false_eq_true, if_false]
  refine wpAny_bind ?_
  rw [← Array.forIn_toList]
  replace hs0 : Heap.SameBut z hp g0 := hs0
  have hd : (itRefs m it).toArray.toList = Value.ref (it 0) :: (itRefs m it).drop 1 := by
    have hlen : (itRefs m it).length = m := by simp [itRefs]
    have := List.drop_eq_getElem_cons (l := itRefs m it) (i := 0) (by rw [hlen]; exact hm)
    rw [List.drop_zero] at this
    simp only
    rw [this]
    simp [itRefs]
  rw [hd, List.forIn_cons]
  refine wpAny_bind (wpAny_bind (wpAny_holding ?_))
  show wpAny _ _ (Builtin.SmallTypes.nextOf (.ref (it 0)) >>= _) _ _ ⟨g0, g, d, tk0, os⟩
  refine wpAny_bind ((D 0 hm).done ⟨g0, g, d, tk0, os⟩ _ _ (by rw [← hend]; exact (D 0 hm).over (st 0 hm) hs0 (S.zf 0 hm)) fun q e hq he => ?_)
  replace hq : Heap.ExtBut (it 0) g0 q := hq
  exact hE q tk0 e (fun c o cz cT c1 x => hq _ _ (c1 0 hm) (hs0.extBut _ _ cz x)) he
theorem pyNext_zipN_item_held {Q : Option Value → Shared → Prop} (hm : 0 < m) (hm2 : m ≤ 1000) (S : SepN m it fp z TI TO) (D : ∀ k, k < m → Draws prog w A.in1 (it k) (fp k) (n k) (Pv k) (St k))
    (hz : IsZipHeld s.heap z TI TO T f) (hT : s.heap.get? T = some oT) (hTI : s.heap.get? TI = some (tupO (itRefs m it))) (st : ∀ k, k < m → St k i s.heap) (hlt : ∀ k, k < m → i < n k)
    (hQ : ∀ (xs : List Value) h' tk, xs.length = m → (∀ j v, xs[j]? = some v → Pv j i v) → IsZipHeld h' z TI TO T true → (∀ k, k < m → St k (i + 1) h') → h'.get? s.heap.objs.size = some (tupO xs) → h'.objs.size = s.heap.objs.size + 1 →
      (∀ c o, c ≠ z → (∀ j, j < m → c ≠ it j) → s.heap.get? c = some o → h'.get? c = some o) → Q (some (.ref s.heap.objs.size)) { s with heap := h', toks := tk }) :
    wpAny (model prog w) A (pyNext (.ref z)) Q E s := by
  have hTy : s.TypeIs (.ref z) "zip" := ⟨_, hz, rfl⟩
  unfold pyNext
  exact wpAny_bind (wpAny_attempt (wpAny_callSpecial?_slot (name := Str.ofString "__next__") hTy PySem.F.slot_zip_next
    (wpAny_call_entry PySem.F.slot_zip_next hTy PySem.F.entry_zip_next
      (zipN_next_held hm hm2 S D hz hT hTI st hlt fun xs h' tk y1 y2 b1 b2 b5 b6 b7 => wpAny_pure (hQ xs h' tk y1 y2 b1 b2 b5 b6 b7)) (PySem.F.args_zip_next_1 _))))
theorem pyNext_zipN_end_held {Q : Option Value → Shared → Prop} (hm : 0 < m) (S : SepN m it fp z TI TO) (D : ∀ k, k < m → Draws prog w A.in1 (it k) (fp k) (n k) (Pv k) (St k))
    (hz : IsZipHeld s.heap z TI TO T f) (hT : s.heap.get? T = some oT) (hTI : s.heap.get? TI = some (tupO (itRefs m it))) (st : ∀ k, k < m → St k i s.heap) (hend : i = n 0)
    (hQ : ∀ h' tk, (∀ c o, c ≠ z → c ≠ TO → (∀ j, j < m → c ≠ it j) → s.heap.get? c = some o → h'.get? c = some o) → Q none { s with heap := h', toks := tk }) : wpAny (model prog w) A (pyNext (.ref z)) Q E s := by
  have hTy : s.TypeIs (.ref z) "zip" := ⟨_, hz, rfl⟩
  unfold pyNext
  refine wpAny_bind (wpAny_attempt (wpAny_callSpecial?_slot (name := Str.ofString "__next__") hTy PySem.F.slot_zip_next
    (wpAny_call_entry PySem.F.slot_zip_next hTy PySem.F.entry_zip_next (zipN_end_held hm S D hz hT hTI st hend fun h' tk e hk he => ?_) (PySem.F.args_zip_next_1 _))))
  obtain ⟨o, ho, hc⟩ := he
  refine wpAny_bind (wpAny_isInstance (T := "StopIteration") (b := true) ⟨o, ho, hc⟩ isSubtype_stop ?_)
  exact wpAny_pure (hQ _ _ hk)
end
end L2X
/-! zip(*texts) -/
namespace L2X
open PySem PySem.Spec PyProof.Rows L2
def sgn (z : Str) (i : Nat) : V := .str ⟨#[(z.cps[i]?).getD 0]⟩
/-- what zip(*zs) tells, at each turn a new tuple -/
def ItzN (zs : List Str) : It :=
  ⟨fun i H => ∀ z ∈ zs, i < z.cps.size, fun i H v H' => ∃ T, v = .ref T ∧ H T = none ∧ H' = upd H T (.tup (zs.map fun z => sgn z i)), fun i H => ∃ z r, zs = z :: r ∧ z.cps.size = i⟩
theorem vals_at : ∀ {l : List V} {us : List Value}, l.length = us.length → (∀ (j : Nat) (x : V) (u : Value), l[j]? = some x → us[j]? = some u → RelV x u) → Vals l us
  | [], [], _, _ => .nil
  | [], _ :: _, h, _ => by cases h
  | _ :: _, [], h, _ => by cases h
  | x :: l, u :: us, h, g => .cons (g 0 x u rfl rfl) (vals_at (Nat.succ.inj h) fun j y v a b => g (j + 1) y v a b)
def fpN (z TI TO : Addr) (m N : Nat) : List Addr := z :: TI :: TO :: (List.range m).map fun k => N + k
theorem fpN_mem {z TI TO c : Addr} {m N : Nat} : c ∈ fpN z TI TO m N ↔ c = z ∨ c = TI ∨ c = TO ∨ ∃ k, k < m ∧ c = N + k := by
  unfold fpN
  rw [List.mem_cons, List.mem_cons, List.mem_cons, List.mem_map]
  constructor
  · rintro (h | h | h | ⟨k, hk, h⟩)
    · exact .inl h
    · exact .inr (.inl h)
    · exact .inr (.inr (.inl h))
    · exact .inr (.inr (.inr ⟨k, List.mem_range.mp hk, h.symm⟩))
  · rintro (h | h | h | ⟨k, hk, h⟩)
    · exact .inl h
    · exact .inr (.inl h)
    · exact .inr (.inr (.inl h))
    · exact .inr (.inr (.inr ⟨k, List.mem_range.mpr hk, h.symm⟩))
def tnN (zs : List Str) (z TI TO N : Addr) : Nat → Heap → Prop := fun i h => (IsZ5 h z TI TO .none (.bool false) ∨ ∃ T f, IsZipHeld h z TI TO T f) ∧ h.get? TI = some (tupO (itRefs zs.length fun k => N + k)) ∧ (∃ xs0 : List Value, xs0.length = zs.length ∧ h.get? TO = some (tupO xs0)) ∧
  ∀ k, k < zs.length → ∃ t, h.IsStrIter (N + k) (strIterType (zs.getD k "")) (zs.getD k "") t i
theorem strIter_at {h h' : Heap} {it : Addr} {T : String} {z : Str} {t : Tok} {i : Nat} (e : h.IsStrIter it T z t i) (k : ∀ o, h.get? it = some o → h'.get? it = some o) : h'.IsStrIter it T z t i := by
  obtain ⟨o, e1, e2, d⟩ := e
  exact ⟨o, k _ e1, e2, d⟩
theorem sepN_new {m N : Nat} : SepN m (fun k => (N + k : Nat)) (fun k => [(N + k : Nat)]) (N + m + 2 : Nat) (N + m : Nat) (N + m + 1 : Nat) where
  TIz := (show ¬ ((N + m : Nat) = N + m + 2) by omega)
  TOz := (show ¬ ((N + m + 1 : Nat) = N + m + 2) by omega)
  TITO := (show ¬ ((N + m : Nat) = N + m + 1) by omega)
  TIi := fun k hk => (show ¬ ((N + m : Nat) = N + k) by omega)
  mem := fun k hk => List.mem_singleton.mpr rfl
  zf := fun k hk h => (show ¬ ((N + m + 2 : Nat) = N + k) by omega) (List.mem_singleton.mp h)
  Tf := fun k hk h => (show ¬ ((N + m + 1 : Nat) = N + k) by omega) (List.mem_singleton.mp h)
  sep := fun j k hj hk hne h => (show ¬ ((N + j : Nat) = N + k) by omega) (List.mem_singleton.mp h)
theorem turn_zipN {P : Program} {w : World} {K : PySem.W.Frag} {nm : Str} {npos : Pos} {zs : List Str} {N z TI TO : Addr} (h0 : 0 < zs.length) (h1 : zs.length ≤ 1000) (S : SepN zs.length (fun k => N + k) (fun k => [N + k]) z TI TO) :
    Turn P w K (.Name nm npos) (ItzN zs) (fpN z TI TO zs.length N) z (tnN zs z TI TO N) where
  mem := by simp [fpN]
  obj := fun i h st c hc => by
    obtain ⟨hz, hTI, ⟨xs0, _, hTO⟩, hk⟩ := st
    rcases fpN_mem.mp hc with q | q | q | ⟨k, hkm, q⟩
    · rcases hz with hz | ⟨T, f, hz⟩
      · rw [q]; exact ⟨_, hz, fun v q => nomatch q⟩
      · rw [q]; exact ⟨_, hz, fun v q => nomatch q⟩
    · rw [q]; exact ⟨_, hTI, fun v q => nomatch q⟩
    · rw [q]; exact ⟨_, hTO, fun v q => nomatch q⟩
    · obtain ⟨t, o, e1, _, d⟩ := hk k hkm
      rw [q]
      exact ⟨o, e1, fun v q => by rw [d] at q; cases q⟩
  keep := fun i h h' st kp => by
    obtain ⟨hz, hTI, ⟨xs0, hl, hTO⟩, hk⟩ := st
    have kz := kp z (fpN_mem.mpr (.inl rfl))
    refine ⟨?_, kp TI (fpN_mem.mpr (.inr (.inl rfl))) _ hTI, ⟨xs0, hl, kp TO (fpN_mem.mpr (.inr (.inr (.inl rfl)))) _ hTO⟩, fun k hkm => ?_⟩
    · rcases hz with hz | ⟨T, f, hz⟩
      · exact .inl (kz _ hz)
      · exact .inr ⟨T, f, kz _ hz⟩
    · obtain ⟨t, e⟩ := hk k hkm
      exact ⟨t, strIter_at e fun o q => kp _ (fpN_mem.mpr (.inr (.inr (.inr ⟨k, hkm, rfl⟩)))) o q⟩
  item := by
    intro X hP hw hK hc i pins s σ H E I hf st hg
    subst hP hw hK
    obtain ⟨hz, hTI, ⟨xs0, hl, hTO⟩, hk⟩ := st
    obtain ⟨tf, htf⟩ : ∃ tf : Nat → Tok, ∀ k, k < zs.length → s.heap.IsStrIter (N + k) (strIterType (zs.getD k "")) (zs.getD k "") (tf k) i := by
      refine ⟨fun k => if h : k < zs.length then (hk k h).choose else 0, fun k hkm => ?_⟩
      simp only [hkm, dif_pos]
      exact (hk k hkm).choose_spec
    have hh := I.ok.hd hc
    have D : ∀ k, k < zs.length → Draws X.prog X.w X.A.in1 (N + k) [N + k] (zs.getD k "").cps.size (fun i v => SignAt (zs.getD k "") i v) (fun i h => h.IsStrIter (N + k) (strIterType (zs.getD k "")) (zs.getD k "") (tf k) i) := fun k _ => Draws.text (A := X.A.in1) hh (N + k) (zs.getD k "") (tf k)
    have hlt : ∀ k, k < zs.length → i < (zs.getD k "").cps.size := fun k hkm => by
      rw [List.getD_eq_getElem?_getD, List.getElem?_eq_getElem hkm]
      exact hg _ (List.getElem_mem hkm)
    have hzl : z < s.heap.objs.size := by
      rcases hz with hz | ⟨T, f, hz⟩
      · exact Heap.lt_size hz
      · exact Heap.lt_size hz
    have fin : ∀ (xs : List Value) h' tk, xs.length = zs.length → (∀ j v, xs[j]? = some v → SignAt (zs.getD j "") i v) → (∃ T f, IsZipHeld h' z TI TO T f) → (∃ xs1 : List Value, xs1.length = zs.length ∧ h'.get? TO = some (tupO xs1)) →
        (∀ k, k < zs.length → h'.IsStrIter (N + k) (strIterType (zs.getD k "")) (zs.getD k "") (tf k) (i + 1)) → h'.get? s.heap.objs.size = some (tupO xs) → h'.objs.size = s.heap.objs.size + 1 →
        (∀ c o, c ≠ z → c ≠ TO → (∀ j, j < zs.length → c ≠ N + j) → s.heap.get? c = some o → h'.get? c = some o) →
        ∃ u, (some (Value.ref s.heap.objs.size)) = some u ∧ wpAny (model X.prog X.w) X.A (letOwnedTupleGo (.Name nm npos) (.ref z) u) (fun _ s2 => ∃ x H', Inv X pins σ H' s2 ∧ RelV x u ∧ (ItzN zs).yld i H x H' ∧ tnN zs z TI TO N (i + 1) s2.heap ∧ ∀ b ∈ fpN z TI TO zs.length N, H' b = none) E { s with heap := h', toks := tk } := by
      intro xs h' tk q1 q2 q3 q4 q5 q6 q7 q8
      refine ⟨_, rfl, ?_⟩
      show wpAny _ _ (pure ()) _ _ _
      refine wpAny_pure ?_
      have rvs : Vals (zs.map fun z => sgn z i) xs := vals_at (by rw [List.length_map, q1]) fun j x u hx hu => by
        rw [List.getElem?_map] at hx
        obtain ⟨zj, hzj, rfl⟩ : ∃ zj, zs[j]? = some zj ∧ x = sgn zj i := by
          cases e : zs[j]? with
          | none =>
            rw [e] at hx
            cases hx
          | some y =>
            rw [e] at hx
            exact ⟨y, rfl, (Option.some.inj hx).symm⟩
        obtain ⟨c, u', e1, e2⟩ := q2 j u hu
        rw [List.getD_eq_getElem?_getD, hzj] at e1
        have e1' : zj.cps[i]? = some c := e1
        refine ⟨u', ?_⟩
        rw [e2, e1']
        rfl
      have new : ObjOk X.prog X.w (upd H s.heap.objs.size (.tup (zs.map fun z => sgn z i))) h' s.heap.objs.size (.tup (zs.map fun z => sgn z i)) :=
        ⟨by rw [List.length_map]; exact Nat.le_of_lt (small1000 h1), xs, rvs, ⟨_, q6, rfl, _, rfl⟩⟩
      have I1 : Inv X pins σ (upd H s.heap.objs.size (.tup (zs.map fun z => sgn z i))) { s with heap := h', toks := tk } :=
        I.turnedNew (t' := tk) (ch := fpN z TI TO zs.length N) (fun c o hb q => q8 c o (fun e => hb (fpN_mem.mpr (.inl e))) (fun e => hb (fpN_mem.mpr (.inr (.inr (.inl e))))) (fun j hj e => hb (fpN_mem.mpr (.inr (.inr (.inr ⟨j, hj, e⟩))))) q) hf (Nat.le_refl _) new
      refine ⟨.ref s.heap.objs.size, _, I1, rfl, ⟨_, rfl, I.hok.fresh (Nat.le_refl _), rfl⟩, ⟨.inr q3, q8 _ _ S.TIz S.TITO (fun j hj => S.TIi j hj) hTI, q4, fun k hkm => ⟨tf k, q5 k hkm⟩⟩, fun c hcm => ?_⟩
      have hlt : c < s.heap.objs.size := by
        rcases fpN_mem.mp hcm with q | q | q | ⟨k, hkm, q⟩
        · rw [q]; exact hzl
        · rw [q]; exact Heap.lt_size hTI
        · rw [q]; exact Heap.lt_size hTO
        · obtain ⟨_, e1, _⟩ := htf k hkm
          rw [q]
          exact Heap.lt_size e1
      rw [upd_ne (Nat.ne_of_lt hlt)]
      exact (hf c hcm).1
    rcases hz with hz | ⟨T, f, hz⟩
    · exact pyNext_zipN_item (n := fun k => (zs.getD k "").cps.size) h0 h1 S D hz (free_none hz) hTI hTO hl htf hlt fun xs h' tk y1 y2 b1 b2 d1 b5 b6 b7 => fin xs h' tk y1 y2 ⟨_, _, b1⟩ ⟨xs, y1, b2⟩ d1 b5 b6 b7
    · cases hT : s.heap.get? T with
      | none => exact pyNext_zipN_item (n := fun k => (zs.getD k "").cps.size) h0 h1 S D hz (free_gone hz hT) hTI hTO hl htf hlt fun xs h' tk y1 y2 b1 b2 d1 b5 b6 b7 => fin xs h' tk y1 y2 ⟨_, _, b1⟩ ⟨xs, y1, b2⟩ d1 b5 b6 b7
      | some oT => exact pyNext_zipN_item_held (n := fun k => (zs.getD k "").cps.size) h0 h1 S D hz hT hTI htf hlt fun xs h' tk y1 y2 b1 d1 b5 b6 b7 => fin xs h' tk y1 y2 ⟨_, _, b1⟩ ⟨xs0, hl, b7 _ _ S.TOz (fun j hj => S.Ti hj) hTO⟩ d1 b5 b6 fun c o c1 _ c3 e => b7 c o c1 c3 e
  done := by
    intro X hP hw hK hc i pins s σ H E I hf st hg
    subst hP hw hK
    obtain ⟨hz, hTI, ⟨xs0, hl, hTO⟩, hk⟩ := st
    obtain ⟨tf, htf⟩ : ∃ tf : Nat → Tok, ∀ k, k < zs.length → s.heap.IsStrIter (N + k) (strIterType (zs.getD k "")) (zs.getD k "") (tf k) i := by
      refine ⟨fun k => if h : k < zs.length then (hk k h).choose else 0, fun k hkm => ?_⟩
      simp only [hkm, dif_pos]
      exact (hk k hkm).choose_spec
    have hh := I.ok.hd hc
    have D : ∀ k, k < zs.length → Draws X.prog X.w X.A.in1 (N + k) [N + k] (zs.getD k "").cps.size (fun i v => SignAt (zs.getD k "") i v) (fun i h => h.IsStrIter (N + k) (strIterType (zs.getD k "")) (zs.getD k "") (tf k) i) := fun k _ => Draws.text (A := X.A.in1) hh (N + k) (zs.getD k "") (tf k)
    have hend : i = (zs.getD 0 "").cps.size := by
      obtain ⟨y, r, e, ez⟩ := hg
      rw [e]
      exact ez.symm
    have fin : ∀ (h' : Heap) (tk : Nat), (∀ c o, c ≠ z → c ≠ TO → (∀ j, j < zs.length → c ≠ N + j) → s.heap.get? c = some o → h'.get? c = some o) → (none : Option Value) = none ∧ Inv X pins σ H { s with heap := h', toks := tk } := fun h' tk hk' =>
      ⟨rfl, I.turnedL (t' := tk) (ch := fpN z TI TO zs.length N) (fun c o hb q => hk' c o (fun e => hb (fpN_mem.mpr (.inl e))) (fun e => hb (fpN_mem.mpr (.inr (.inr (.inl e))))) (fun j hj e => hb (fpN_mem.mpr (.inr (.inr (.inr ⟨j, hj, e⟩))))) q) hf⟩
    rcases hz with hz | ⟨T, f, hz⟩
    · exact pyNext_zipN_end (n := fun k => (zs.getD k "").cps.size) h0 S D hz (free_none hz) hTI hTO htf hend fin
    · cases hT : s.heap.get? T with
      | none => exact pyNext_zipN_end (n := fun k => (zs.getD k "").cps.size) h0 S D hz (free_gone hz hT) hTI hTO htf hend fin
      | some oT => exact pyNext_zipN_end_held (n := fun k => (zs.getD k "").cps.size) h0 S D hz hT hTI htf hend fin
  self := fun A i s Q E st h => by
    rcases st.1 with hz | ⟨T, f, hz⟩
    · exact wpAny_pyIter_zip hz h
    · have hTy : s.TypeIs (.ref z) "zip" := ⟨_, hz, rfl⟩
      refine wpAny_pyIter_slot hTy PySem.F.slot_zip_iter (wpAny_call_entry PySem.F.slot_zip_iter hTy PySem.F.entry_zip_iter ?_ (PySem.F.args_zip_iter_1 _))
      show wpAny _ _ (ret (.ref z)) _ _ s
      exact wpAny_pure ⟨_, rfl, "zip", _, hTy, PySem.F.slot_zip_next.lookup, h⟩
/-- zip(*e), e a tuple or a list of texts -/
def iZipS (K : PySem.W.Frag) (te : TE) : TI := fun σ H R => te σ H fun y H1 => ∃ a zs, y = V.ref a ∧ (SqT K H1 a (zs.map V.str) ∨ SqL K H1 a (zs.map V.str)) ∧ 0 < zs.length ∧ zs.length ≤ 1000 ∧ R (ItzN zs) H1
theorem begin_all : ∀ {zs : List Str} {us : List Value}, Vals (zs.map V.str) us → ∃ l : List (Value × Obj), l.map (·.1) = us ∧ l.length = zs.length ∧ (∀ p ∈ l, Begins p.1 p.2 fun _ => True) ∧
    ∀ (k : Nat) (z : Str), zs[k]? = some z → ∃ p : Value × Obj, l[k]? = some p ∧ ∀ (h' : Heap) (it : Addr), h'.get? it = some p.2 → ∃ t, h'.IsStrIter it (strIterType z) z t 0
  | [], [], _ => ⟨[], rfl, rfl, (fun _ h => nomatch h), fun k z h => nomatch h⟩
  | [], _ :: _, h => nomatch h.length
  | _ :: _, [], h => nomatch h.length
  | z :: zs, u :: us, rv => by
    obtain ⟨r, rr⟩ : RelV (.str z) u ∧ Vals (zs.map V.str) us := by cases rv with | cons r rr => exact ⟨r, rr⟩
    obtain ⟨l, e1, e2, e3, e4⟩ := begin_all rr
    obtain ⟨t, rfl⟩ := r
    obtain ⟨o, B, hit⟩ : ∃ o, Begins (Value.str z t) o (fun _ => True) ∧ ∀ (h' : Heap) (it : Addr), h'.get? it = some o → ∃ t', h'.IsStrIter it (strIterType z) z t' 0 := ⟨_, begins_text z t, fun h' it e => ⟨t, _, e, rfl, rfl⟩⟩
    refine ⟨(Value.str z t, o) :: l, by rw [List.map_cons, e1], by rw [List.length_cons, e2]; rfl, fun p hp => ?_, fun k y hy => ?_⟩
    · rcases List.mem_cons.mp hp with q | q
      · rw [q]
        exact B
      · exact e3 p q
    · cases k with
      | zero =>
        cases hy
        exact ⟨_, rfl, hit⟩
      | succ k => exact e4 k y hy
theorem callWith_typeS {M : Model} {A : Around} {E : Value → Shared → Prop} {s : Shared} {env : Env} {pos p : Pos} {T : String} {e : Expr} {Q : Value → Shared → Prop}
    (h : wpAny M A (eval e env) (fun v s₁ => PySem.W.StarOf M A E v (fun vs s₂ => wpAny M A (call (.type T) vs) Q E s₂) s₁) E s) (he : starEach [.Starred e p] env = [(true, eval e env)]) :
    wpAny M A (callWith pos (.type T) [] (backTo pos (starEach [.Starred e p] env)) []) Q E s := by
  rw [he]
  have h2 := PySem.W.ks_lone (f := .type T) (pos := pos) (Q := fun a s₁ => wpAny M A (call (.type T) ([] ++ a.pos) a.kw) Q E s₁) h
  unfold callWith
  refine wpAny_bind (wpAny_holding (wpAny_mono h2 (fun a s₁ h₁ => wpAny_bind (wpAny_standAt ?_)) fun _ _ x => x))
  refine wpAny_bind (wpAny_pure ?_)
  exact wpAny_bind (wpAny_mono (wpAny_operating h₁) (fun r s₂ hr => wpAny_bind (wpAny_holding (wpAny_point (wpAny_pure hr)))) fun _ _ x => x)
theorem pi_zipS {X : Cx} {e : Expr} {te : TE} {p sp pos npos : Pos} {nm : Str} (hg : Gl X "zip") (hm : X.mg "zip" = none) (he : PE X e te) (hst : starEach [.Starred e sp] X.env = [(true, eval e X.env)] := by rfl) :
    PI X (.Name nm npos) (.Call (.Name "zip" p) [.Starred e sp] [] pos) (iZipS X.K te) := by
  refine ⟨fun pins s σ H R I h => ?_⟩
  refine Call_ (ld_blt I hg hm PyProof.Rows.boot_zip (callWith_typeS (thn (he.run pins s σ H _ I h) fun v s1 ⟨y, H1, I1, ry, a, zs, ey, hx, z0, z1, q⟩ => ?_) hst))
  subst ey
  obtain rfl : v = Value.ref a := ry
  refine StX.star_any I1 hx fun us s2 I2 rv => ?_
  obtain ⟨l, e1, e2, e3, e4⟩ := begin_all rv
  rw [← e1]
  refine zip_beginsN (by omega) (by omega) e3 fun h' hz hTI hTO hk hsz kp => wpAny_pyIter_zip hz ?_
  have I3 : Inv X pins σ H1 { s2 with heap := h' } := I2.kept (t' := s2.toks) kp
  rw [e2] at hz hTI hTO
  refine ⟨_, fpN (s2.heap.objs.size + zs.length + 2) (s2.heap.objs.size + zs.length) (s2.heap.objs.size + zs.length + 1) zs.length s2.heap.objs.size, tnN zs (s2.heap.objs.size + zs.length + 2) (s2.heap.objs.size + zs.length) (s2.heap.objs.size + zs.length + 1) s2.heap.objs.size, _, H1, by rw [e2], I3, turn_zipN z0 z1 sepN_new, ⟨.inl hz, hTI, ⟨_, by rw [List.length_replicate], hTO⟩, fun k hkm => ?_⟩, fun c hcm => ?_, q⟩
  · obtain ⟨p, hp, hit⟩ := e4 k zs[k] (List.getElem?_eq_getElem hkm)
    have z := hit h' _ (hk k p hp)
    rw [List.getD_eq_getElem?_getD, List.getElem?_eq_getElem hkm]
    exact z
  · have hle : s2.heap.objs.size ≤ c := by
      have h3 : ∀ a : Nat, @Eq Nat c (s2.heap.objs.size + a) → s2.heap.objs.size ≤ c := fun a e => by
        have e' : (c : Nat) = s2.heap.objs.size + a := e
        exact e' ▸ Nat.le_add_right _ _
      rcases fpN_mem.mp hcm with z | z | z | ⟨k, _, z⟩
      · exact h3 (zs.length + 2) z
      · exact h3 zs.length z
      · exact h3 (zs.length + 1) z
      · exact h3 k z
    exact I2.fpOk hle (I2.hok.fresh hle)
/-- a comprehension over it -/
theorem lc_zipN {zs : List Str} {n : Nat} {g : TG} {tt : TT} {te : TE} {vs : List Nat} {σ : L2.St} {H1 : Hp} {D : Addr} {Qd : Hp → Prop} (h0 : 0 < zs.length) (hn : ∀ z ∈ zs, z.cps.size = n) (Pv : Nat → Hp → Prop) (hP : Pv 0 (upd H1 D (.lst [])))
    (hs : ∀ i H T, i < n → Pv i H → H T = none → g (.ref T) (wipe σ vs) (upd H T (.tup (zs.map fun z => sgn z i))) fun σ2 H2 => wipe σ2 vs = wipe σ vs ∧ tt σ2 H2 fun b H3 =>
      if b = true then te σ2 H3 fun z H4 => ∃ acc, H4 D = some (.lst acc) ∧ acc.length < sizeLine ∧ Pv (i + 1) (upd H4 D (.lst (acc ++ [z]))) else Pv (i + 1) H3) (hd : ∀ H, Pv n H → Qd H) :
    ∃ W : Nat → Nat → Hp → Prop, (∃ m, W 0 m (upd H1 D (.lst []))) ∧ ∀ i m H, W i m H →
      ((ItzN zs).stop i H ∧ Qd H) ∨ ((ItzN zs).go i H ∧ ∃ Nx : Hp → Prop, (∀ H', Nx H' → ∃ m', m' < m ∧ W (i + 1) m' H') ∧ ∀ x H', (ItzN zs).yld i H x H' → g x (wipe σ vs) H' fun σ2 H2 => wipe σ2 vs = wipe σ vs ∧ tt σ2 H2 fun b H3 =>
        if b = true then te σ2 H3 fun y H4 => ∃ acc, H4 D = some (.lst acc) ∧ acc.length < sizeLine ∧ Nx (upd H4 D (.lst (acc ++ [y]))) else Nx H3) := by
  refine ⟨fun i m H => m = n - i ∧ i ≤ n ∧ Pv i H, ⟨n, by simp, Nat.zero_le _, hP⟩, ?_⟩
  rintro i m H ⟨rfl, hi, p⟩
  by_cases hlt : i < n
  · refine .inr ⟨fun z hz => by rw [hn z hz]; exact hlt, Pv (i + 1), fun H' p' => ⟨n - (i + 1), by omega, rfl, hlt, p'⟩, fun x H' y => ?_⟩
    obtain ⟨T, rfl, nT, rfl⟩ := y
    exact hs i H T hlt p nT
  · have e : i = n := by omega
    subst e
    refine .inl ⟨?_, hd H p⟩
    cases zs with
    | nil => exact absurd h0 (Nat.lt_irrefl _)
    | cons z r => exact ⟨z, r, rfl, hn z List.mem_cons_self⟩
end L2X
/-! fields as a function of the dots, and what holds of them -/
namespace Fl
/-- a box -/
structure Bx where
  t : Nat
  l : Nat
  h : Nat
  w : Nat
deriving DecidableEq
def Bx.flip (b : Bx) : Bx := ⟨b.l, b.t, b.w, b.h⟩
theorem Bx.flip_flip (b : Bx) : b.flip.flip = b := rfl
theorem Bx.flip_inj {a b : Bx} (h : a.flip = b.flip) : a = b := by
  have := congrArg Bx.flip h
  exact this
def Bx.In (b : Bx) (r c : Nat) : Prop := b.t ≤ r ∧ r < b.t + b.h ∧ b.l ≤ c ∧ c < b.l + b.w
def Bx.area (b : Bx) : Nat := b.h * b.w
abbrev Dots := Nat → Nat → Bool
def tr (D : Dots) : Dots := fun c r => D r c
def rowHas (D : Dots) (l w r : Nat) : Bool := (List.range w).any fun j => D r (l + j)
theorem rowHas_iff {D : Dots} {l w r : Nat} : rowHas D l w r = true ↔ ∃ c, l ≤ c ∧ c < l + w ∧ D r c = true := by
  unfold rowHas
  rw [List.any_eq_true]
  constructor
  · rintro ⟨j, hj, h⟩
    have := List.mem_range.mp hj
    exact ⟨l + j, by omega, by omega, h⟩
  · rintro ⟨c, h1, h2, h⟩
    refine ⟨c - l, List.mem_range.mpr (by omega), ?_⟩
    rw [show l + (c - l) = c by omega]
    exact h
/-- the rows that have a dot, from the first one of the box on -/
def dr (D : Dots) (t l h w : Nat) : List Nat := (List.range h).filter fun i => rowHas D l w (t + i)
theorem mem_dr {D : Dots} {t l h w i : Nat} : i ∈ dr D t l h w ↔ i < h ∧ ∃ c, l ≤ c ∧ c < l + w ∧ D (t + i) c = true := by
  unfold dr
  rw [List.mem_filter, List.mem_range, rowHas_iff]
theorem dr_sorted (D : Dots) (t l h w : Nat) : (dr D t l h w).Pairwise (· < ·) := List.pairwise_lt_range.filter _
/-- the numbers that stand together -/
def strR (least : Nat) : Nat → Nat → List Nat → List (Nat × Nat)
  | s, p, [] => [(s, p + 1)]
  | s, p, n :: ns => if n - p > least then (s, p + 1) :: strR least n n ns else strR least s n ns
def stretch (least : Nat) : List Nat → List (Nat × Nat)
  | [] => []
  | n :: ns => strR least n n ns
/-- what is asked of stretches -/
structure StrOk (least : Nat) (ns : List Nat) (ps : List (Nat × Nat)) : Prop where
  ends : ∀ p ∈ ps, p.1 < p.2 ∧ p.1 ∈ ns ∧ p.2 - 1 ∈ ns
  cov : ∀ n ∈ ns, ∃ p ∈ ps, p.1 ≤ n ∧ n < p.2
  gap : ps.Pairwise fun p q => p.2 + least ≤ q.1
  solid : ∀ p ∈ ps, ∀ i ∈ ns, ∀ k ∈ ns, p.1 ≤ i → k < p.2 → i + least < k → ∃ j ∈ ns, i < j ∧ j < k
theorem strR_ok (least : Nat) : ∀ (ns : List Nat) (s p : Nat), s ≤ p → (p :: ns).Pairwise (· < ·) →
    (∀ q ∈ strR least s p ns, s ≤ q.1 ∧ q.1 < q.2 ∧ (q.1 = s ∨ q.1 ∈ ns) ∧ (q.2 - 1 ∈ p :: ns)) ∧
    (∀ n, (s ≤ n ∧ n ≤ p) ∨ n ∈ ns → ∃ q ∈ strR least s p ns, q.1 ≤ n ∧ n < q.2) ∧
    (strR least s p ns).Pairwise (fun a b => a.2 + least ≤ b.1) ∧
    (∀ q ∈ strR least s p ns, ∀ i ∈ p :: ns, ∀ k ∈ p :: ns, q.1 ≤ i → k < q.2 → i + least < k → ∃ j ∈ p :: ns, i < j ∧ j < k)
  | [], s, p, hs, _ => by
    refine ⟨fun q hq => ?_, fun n hn => ?_, List.pairwise_singleton _ _, fun q hq i hi k hk _ _ h => ?_⟩
    · rw [strR, List.mem_singleton] at hq
      subst hq
      exact ⟨Nat.le_refl _, by show s < p + 1; omega, .inl rfl, by show p + 1 - 1 ∈ [p]; simp⟩
    · rcases hn with hn | hn
      · exact ⟨(s, p + 1), by simp [strR], hn.1, by show n < p + 1; omega⟩
      · cases hn
    · rw [List.mem_singleton] at hi hk
      omega
  | n :: ns, s, p, hs, hp => by
    have hpn := (List.pairwise_cons.mp hp).1 n List.mem_cons_self
    have hn := (List.pairwise_cons.mp hp).2
    have hnn := (List.pairwise_cons.mp hn).1
    rw [strR]
    by_cases hg : n - p > least
    · rw [if_pos hg]
      obtain ⟨a1, a2, a3, a4⟩ := strR_ok least ns n n (Nat.le_refl _) hn
      refine ⟨fun q hq => ?_, fun m hm => ?_, List.pairwise_cons.mpr ⟨fun q hq => ?_, a3⟩, fun q hq i hi k hk h1 h2 h3 => ?_⟩
      · rcases List.mem_cons.mp hq with rfl | hq
        · exact ⟨Nat.le_refl _, by show s < p + 1; omega, .inl rfl, by show p + 1 - 1 ∈ _; simp⟩
        · obtain ⟨b1, b2, b3, b4⟩ := a1 q hq
          refine ⟨by omega, b2, .inr ?_, List.mem_cons_of_mem _ b4⟩
          rcases b3 with b3 | b3
          · rw [b3]
            exact List.mem_cons_self
          · exact List.mem_cons_of_mem _ b3
      · rcases hm with hm | hm
        · exact ⟨(s, p + 1), List.mem_cons_self, hm.1, by show m < p + 1; omega⟩
        · obtain ⟨q, hq, h⟩ := a2 m (by
            rcases List.mem_cons.mp hm with rfl | hm
            · exact .inl ⟨Nat.le_refl _, Nat.le_refl _⟩
            · exact .inr hm)
          exact ⟨q, List.mem_cons_of_mem _ hq, h⟩
      · have := (a1 q hq).1
        show p + 1 + least ≤ q.1
        omega
      · rcases List.mem_cons.mp hq with rfl | hq
        · have h1' : s ≤ i := h1
          have h2' : k < p + 1 := h2
          have ek : k = p := by
            rcases List.mem_cons.mp hk with e | hk
            · exact e
            · rcases List.mem_cons.mp hk with rfl | hk
              · omega
              · have := hnn k hk
                omega
          have : p ≤ i := by
            rcases List.mem_cons.mp hi with e | hi
            · omega
            · rcases List.mem_cons.mp hi with rfl | hi
              · omega
              · have := hnn i hi
                omega
          omega
        · have hq1 := (a1 q hq).1
          have hi' : i ∈ n :: ns := by
            rcases List.mem_cons.mp hi with e | hi
            · omega
            · exact hi
          have hk' : k ∈ n :: ns := by
            rcases List.mem_cons.mp hk with e | hk
            · have : n ≤ i := by
                rcases List.mem_cons.mp hi' with e | hi'
                · omega
                · have := hnn i hi'
                  omega
              omega
            · exact hk
          obtain ⟨j, hj, hh⟩ := a4 q hq i hi' k hk' h1 h2 h3
          exact ⟨j, List.mem_cons_of_mem _ hj, hh⟩
    · rw [if_neg hg]
      obtain ⟨a1, a2, a3, a4⟩ := strR_ok least ns s n (by omega) hn
      refine ⟨fun q hq => ?_, fun m hm => ?_, a3, fun q hq i hi k hk h1 h2 h3 => ?_⟩
      · obtain ⟨b1, b2, b3, b4⟩ := a1 q hq
        exact ⟨b1, b2, b3.imp id (List.mem_cons_of_mem _), List.mem_cons_of_mem _ b4⟩
      · refine a2 m ?_
        rcases hm with hm | hm
        · exact .inl ⟨hm.1, by omega⟩
        · rcases List.mem_cons.mp hm with rfl | hm
          · exact .inl ⟨by omega, Nat.le_refl _⟩
          · exact .inr hm
      · by_cases e : i = p
        · subst e
          by_cases ek : k = n
          · omega
          · refine ⟨n, List.mem_cons_of_mem _ List.mem_cons_self, hpn, ?_⟩
            rcases List.mem_cons.mp hk with e2 | hk
            · omega
            · rcases List.mem_cons.mp hk with e2 | hk
              · exact absurd e2 ek
              · exact hnn k hk
        · have hi' : i ∈ n :: ns := by
            rcases List.mem_cons.mp hi with e2 | hi
            · exact absurd e2 e
            · exact hi
          have hk' : k ∈ n :: ns := by
            rcases List.mem_cons.mp hk with e2 | hk
            · have : n ≤ i := by
                rcases List.mem_cons.mp hi' with e | hi'
                · omega
                · have := hnn i hi'
                  omega
              omega
            · exact hk
          obtain ⟨j, hj, hh⟩ := a4 q hq i hi' k hk' h1 h2 h3
          exact ⟨j, List.mem_cons_of_mem _ hj, hh⟩
theorem stretch_ok (least : Nat) {ns : List Nat} (h : ns.Pairwise (· < ·)) : StrOk least ns (stretch least ns) := by
  cases ns with
  | nil => exact ⟨(fun p hp => nomatch hp), (fun n hn => nomatch hn), List.Pairwise.nil, (fun p hp => nomatch hp)⟩
  | cons n ns =>
    obtain ⟨a1, a2, a3, a4⟩ := strR_ok least ns n n (Nat.le_refl _) h
    refine ⟨fun p hp => ?_, fun m hm => ?_, a3, a4⟩
    · obtain ⟨b1, b2, b3, b4⟩ := a1 p hp
      refine ⟨b2, ?_, b4⟩
      rcases b3 with b3 | b3
      · rw [b3]
        exact List.mem_cons_self
      · exact List.mem_cons_of_mem _ b3
    · refine a2 m ?_
      rcases List.mem_cons.mp hm with rfl | hm
      · exact .inl ⟨Nat.le_refl _, Nat.le_refl _⟩
      · exact .inr hm
/-- the part of a stretch of rows, trimmed to its dots -/
def part1 (D : Dots) (t l w : Nat) (p : Nat × Nat) : Bx :=
  ⟨t + p.1, l + (dr (tr D) l (t + p.1) w (p.2 - p.1)).headD 0, p.2 - p.1, (dr (tr D) l (t + p.1) w (p.2 - p.1)).getLastD 0 + 1 - (dr (tr D) l (t + p.1) w (p.2 - p.1)).headD 0⟩
def parted (D : Dots) (least : Nat) (b : Bx) : List Bx := (stretch least (dr D b.t b.l b.h b.w)).map (part1 D b.t b.l b.w)
def stepF (D : Dots) (d a : Nat) (bs : List Bx) : List Bx := (bs.flatMap (parted D d)).flatMap fun p => (parted (tr D) a p.flip).map Bx.flip
/-- the ends of a rising list -/
theorem head_le : ∀ {ns : List Nat}, ns.Pairwise (· < ·) → ∀ n ∈ ns, ns.headD 0 ≤ n
  | [], _, _, h => nomatch h
  | m :: ms, hp, n, h => by
    rcases List.mem_cons.mp h with rfl | h
    · exact Nat.le_refl _
    · exact Nat.le_of_lt ((List.pairwise_cons.mp hp).1 n h)
theorem le_last : ∀ {ns : List Nat}, ns.Pairwise (· < ·) → ∀ n ∈ ns, n ≤ ns.getLastD 0
  | [], _, _, h => nomatch h
  | [m], _, n, h => by
    rw [List.mem_singleton.mp h]
    exact Nat.le_refl _
  | m :: k :: ms, hp, n, h => by
    have hp2 := (List.pairwise_cons.mp hp).2
    show n ≤ (k :: ms).getLastD 0
    rcases List.mem_cons.mp h with rfl | h
    · exact Nat.le_trans (Nat.le_of_lt ((List.pairwise_cons.mp hp).1 k List.mem_cons_self)) (le_last hp2 k List.mem_cons_self)
    · exact le_last hp2 n h
theorem head_mem {ns : List Nat} (h : ns ≠ []) : ns.headD 0 ∈ ns := by
  cases ns with
  | nil => exact absurd rfl h
  | cons n ns => exact List.mem_cons_self
theorem last_mem : ∀ {ns : List Nat}, ns ≠ [] → ns.getLastD 0 ∈ ns
  | [], h => absurd rfl h
  | [m], _ => List.mem_cons_self
  | m :: k :: ms, _ => by
    show (k :: ms).getLastD 0 ∈ _
    exact List.mem_cons_of_mem _ (last_mem (by simp))
/-- all that holds of the parts -/
structure PartOk (D : Dots) (b : Bx) (s e : Nat) (p : Bx) : Prop where
  t : p.t = b.t + s
  h : p.h = e - s
  l : b.l ≤ p.l
  w : 1 ≤ p.w
  r : p.l + p.w ≤ b.l + b.w
  ins : ∀ r c, D r c = true → b.t + s ≤ r → r < b.t + e → b.l ≤ c → c < b.l + b.w → p.l ≤ c ∧ c < p.l + p.w
  le : ∃ r, b.t + s ≤ r ∧ r < b.t + e ∧ D r p.l = true
  re : ∃ r, b.t + s ≤ r ∧ r < b.t + e ∧ D r (p.l + p.w - 1) = true
theorem part1_ok {D : Dots} {b : Bx} {s e : Nat} (hse : s < e) (hs : s ∈ dr D b.t b.l b.h b.w) : PartOk D b s e (part1 D b.t b.l b.w (s, e)) := by
  obtain ⟨_, c, c1, c2, hd⟩ := mem_dr.mp hs
  have hne : dr (tr D) b.l (b.t + s) b.w (e - s) ≠ [] := by
    intro z
    have hm : c - b.l ∈ dr (tr D) b.l (b.t + s) b.w (e - s) := mem_dr.mpr ⟨by omega, b.t + s, by omega, by omega, by
      show D _ _ = true
      rw [show b.l + (c - b.l) = c by omega]
      exact hd⟩
    rw [z] at hm
    cases hm
  have srt := dr_sorted (tr D) b.l (b.t + s) b.w (e - s)
  have hm := head_mem hne
  have lm := last_mem hne
  have hl := le_last srt _ hm
  obtain ⟨h1, r1, h2, h3, h4⟩ := mem_dr.mp hm
  obtain ⟨l1, r2, l2, l3, l4⟩ := mem_dr.mp lm
  have e0 : part1 D b.t b.l b.w (s, e) = ⟨b.t + s, b.l + (dr (tr D) b.l (b.t + s) b.w (e - s)).headD 0, e - s, (dr (tr D) b.l (b.t + s) b.w (e - s)).getLastD 0 + 1 - (dr (tr D) b.l (b.t + s) b.w (e - s)).headD 0⟩ := rfl
  rw [e0]
  refine ⟨rfl, rfl, ?_, ?_, ?_, fun r c hd r1 r2 c1 c2 => ?_, ⟨r1, h2, by omega, h4⟩, ⟨r2, l2, by omega, ?_⟩⟩
  · show b.l ≤ b.l + (dr (tr D) b.l (b.t + s) b.w (e - s)).headD 0
    omega
  · show 1 ≤ (dr (tr D) b.l (b.t + s) b.w (e - s)).getLastD 0 + 1 - (dr (tr D) b.l (b.t + s) b.w (e - s)).headD 0
    omega
  · show b.l + (dr (tr D) b.l (b.t + s) b.w (e - s)).headD 0 + ((dr (tr D) b.l (b.t + s) b.w (e - s)).getLastD 0 + 1 - (dr (tr D) b.l (b.t + s) b.w (e - s)).headD 0) ≤ b.l + b.w
    omega
  · have mm : c - b.l ∈ dr (tr D) b.l (b.t + s) b.w (e - s) := mem_dr.mpr ⟨by omega, r, by omega, by omega, by
      show D _ _ = true
      rw [show b.l + (c - b.l) = c by omega]
      exact hd⟩
    have a := head_le srt _ mm
    have z := le_last srt _ mm
    show b.l + (dr (tr D) b.l (b.t + s) b.w (e - s)).headD 0 ≤ c ∧ c < b.l + (dr (tr D) b.l (b.t + s) b.w (e - s)).headD 0 + ((dr (tr D) b.l (b.t + s) b.w (e - s)).getLastD 0 + 1 - (dr (tr D) b.l (b.t + s) b.w (e - s)).headD 0)
    omega
  · show D r2 (b.l + (dr (tr D) b.l (b.t + s) b.w (e - s)).headD 0 + ((dr (tr D) b.l (b.t + s) b.w (e - s)).getLastD 0 + 1 - (dr (tr D) b.l (b.t + s) b.w (e - s)).headD 0) - 1) = true
    rw [show b.l + (dr (tr D) b.l (b.t + s) b.w (e - s)).headD 0 + ((dr (tr D) b.l (b.t + s) b.w (e - s)).getLastD 0 + 1 - (dr (tr D) b.l (b.t + s) b.w (e - s)).headD 0) - 1 = b.l + (dr (tr D) b.l (b.t + s) b.w (e - s)).getLastD 0 by omega]
    exact l4
/-- the parts of a box -/
structure PtsOk (D : Dots) (least : Nat) (b : Bx) (ps : List Bx) : Prop where
  each : ∀ p ∈ ps, ∃ s e, s < e ∧ e ≤ b.h ∧ s ∈ dr D b.t b.l b.h b.w ∧ e - 1 ∈ dr D b.t b.l b.h b.w ∧ PartOk D b s e p
  cov : ∀ r c, D r c = true → b.In r c → ∃ p ∈ ps, p.In r c
  gap : ps.Pairwise fun p q => p.t + p.h + least ≤ q.t
theorem parted_ok (D : Dots) (least : Nat) (b : Bx) : PtsOk D least b (parted D least b) := by
  have S := stretch_ok least (dr_sorted D b.t b.l b.h b.w)
  refine ⟨fun p hp => ?_, fun r c hd hi => ?_, ?_⟩
  · obtain ⟨⟨s, e⟩, hq, rfl⟩ := List.mem_map.mp hp
    obtain ⟨h1, h2, h3⟩ := S.ends _ hq
    have := (mem_dr.mp h3).1
    exact ⟨s, e, h1, by have h1' : s < e := h1; have t2 : e - 1 < b.h := this; omega, h2, h3, part1_ok h1 h2⟩
  · obtain ⟨i1, i2, i3, i4⟩ := hi
    have hm : r - b.t ∈ dr D b.t b.l b.h b.w := mem_dr.mpr ⟨by omega, c, i3, i4, by
      rw [show b.t + (r - b.t) = r by omega]
      exact hd⟩
    obtain ⟨⟨s, e⟩, hq, q1, q2⟩ := S.cov _ hm
    obtain ⟨h1, h2, h3⟩ := S.ends _ hq
    have q1' : s ≤ r - b.t := q1
    have q2' : r - b.t < e := q2
    have h1' : s < e := h1
    have P : PartOk D b s e (part1 D b.t b.l b.w (s, e)) := part1_ok h1 h2
    refine ⟨part1 D b.t b.l b.w (s, e), List.mem_map.mpr ⟨(s, e), hq, rfl⟩, ?_⟩
    generalize part1 D b.t b.l b.w (s, e) = p at P ⊢
    obtain ⟨w1, w2⟩ := P.ins r c hd (by omega) (by omega) i3 i4
    have ht := P.t
    have hh := P.h
    exact ⟨by omega, by omega, w1, w2⟩
  · unfold parted
    rw [List.pairwise_map]
    refine S.gap.imp_of_mem fun {p q} hp hq h => ?_
    have := (S.ends p hp).1
    show b.t + p.1 + (p.2 - p.1) + least ≤ b.t + q.1
    omega
/-! ### how great they are -/
def areas (bs : List Bx) : Nat := (bs.map Bx.area).sum
theorem areas_app (a b : List Bx) : areas (a ++ b) = areas a + areas b := by
  unfold areas
  rw [List.map_append, List.sum_append]
theorem flip_area (b : Bx) : b.flip.area = b.area := Nat.mul_comm _ _
theorem areas_flip (bs : List Bx) : areas (bs.map Bx.flip) = areas bs := by
  unfold areas
  rw [List.map_map]
  congr 1
  exact List.map_congr_left fun b _ => flip_area b
/-- row ranges one behind another, within so many rows: their heights together, and what it is where nothing lacks -/
theorem heights_le : ∀ (ps : List Bx) (t h w : Nat), (∀ p ∈ ps, t ≤ p.t ∧ p.t + p.h ≤ t + h ∧ p.w ≤ w ∧ 1 ≤ p.h) → ps.Pairwise (fun p q => p.t + p.h + 1 ≤ q.t) → areas ps ≤ h * w
  | [], _, _, _, _, _ => Nat.zero_le _
  | p :: ps, t, h, w, hin, hp => by
    obtain ⟨h1, h2, h3, h4⟩ := hin p List.mem_cons_self
    have hpp := (List.pairwise_cons.mp hp).1
    have ih := heights_le ps (p.t + p.h) (t + h - (p.t + p.h)) w (fun q hq => by
      have a := hpp q hq
      obtain ⟨b1, b2, b3, b4⟩ := hin q (List.mem_cons_of_mem _ hq)
      exact ⟨by omega, by omega, b3, b4⟩) (List.pairwise_cons.mp hp).2
    have e : areas (p :: ps) = p.h * p.w + areas ps := rfl
    rw [e]
    have m1 : p.h * p.w ≤ p.h * w := Nat.mul_le_mul_left _ h3
    have m2 : p.h * w + (t + h - (p.t + p.h)) * w ≤ h * w := by
      rw [← Nat.add_mul]
      exact Nat.mul_le_mul_right _ (by omega)
    omega
theorem parted_area {D : Dots} {least : Nat} {b : Bx} (l1 : 1 ≤ least) : areas (parted D least b) ≤ b.area := by
  have P := parted_ok D least b
  refine heights_le _ b.t b.h b.w (fun p hp => ?_) (P.gap.imp fun h => by omega)
  obtain ⟨s, e, h1, h2, _, _, Q⟩ := P.each p hp
  have := Q.t
  have := Q.h
  have := Q.r
  have := Q.l
  exact ⟨by omega, by omega, by omega, by omega⟩
/-- a box that is parted to as much is parted to itself -/
theorem parted_same {D : Dots} {least : Nat} {b : Bx} (l1 : 1 ≤ least) (h1 : 1 ≤ b.h) (w1 : 1 ≤ b.w) (h : b.area ≤ areas (parted D least b)) : parted D least b = [b] := by
  have P := parted_ok D least b
  have inn : ∀ p ∈ parted D least b, b.t ≤ p.t ∧ p.t + p.h ≤ b.t + b.h ∧ p.w ≤ b.w ∧ 1 ≤ p.h ∧ b.l ≤ p.l ∧ p.l + p.w ≤ b.l + b.w := fun p hp => by
    obtain ⟨s, e, h1, h2, _, _, Q⟩ := P.each p hp
    have := Q.t
    have := Q.h
    have := Q.r
    have := Q.l
    exact ⟨by omega, by omega, by omega, by omega, by omega, by omega⟩
  have gap := P.gap
  generalize parted D least b = ps at h inn gap
  cases ps with
  | nil =>
    have : b.area ≤ 0 := h
    have h2 : 1 * 1 ≤ b.h * b.w := Nat.mul_le_mul h1 w1
    have : b.h * b.w ≤ 0 := this
    omega
  | cons p ps =>
    obtain ⟨i1, i2, i3, i4, i5, i6⟩ := inn p List.mem_cons_self
    have hpp := (List.pairwise_cons.mp gap).1
    have ea : areas (p :: ps) = p.h * p.w + areas ps := rfl
    rw [ea] at h
    have hA : b.area = b.h * b.w := rfl
    rw [hA] at h
    have m1 : p.h * p.w ≤ p.h * b.w := Nat.mul_le_mul_left _ i3
    cases ps with
    | nil =>
      have e0 : areas [] = 0 := rfl
      rw [e0] at h
      have e1 : p.h = b.h := by
        rcases Nat.lt_or_ge p.h b.h with z | z
        · exfalso
          have : (p.h + 1) * b.w ≤ b.h * b.w := Nat.mul_le_mul_right _ z
          rw [Nat.succ_mul] at this
          omega
        · omega
      have e2 : p.w = b.w := by
        rcases Nat.lt_or_ge p.w b.w with z | z
        · exfalso
          have : p.h * (p.w + 1) ≤ p.h * b.w := Nat.mul_le_mul_left _ z
          rw [Nat.mul_succ] at this
          rw [e1] at this h
          omega
        · omega
      have : p = b := by
        cases p
        cases b
        simp only [Bx.mk.injEq] at *
        omega
      rw [this]
    | cons q qs =>
      exfalso
      have hq := hpp q List.mem_cons_self
      obtain ⟨j1, j2, j3, j4, j5, j6⟩ := inn q (List.mem_cons_of_mem _ List.mem_cons_self)
      have rest := heights_le (q :: qs) q.t (b.t + b.h - q.t) b.w (fun x hx => by
        obtain ⟨k1, k2, k3, k4, _, _⟩ := inn x (List.mem_cons_of_mem _ hx)
        refine ⟨?_, by omega, k3, k4⟩
        rcases List.mem_cons.mp hx with rfl | hx
        · exact Nat.le_refl _
        · have := (List.pairwise_cons.mp (List.pairwise_cons.mp gap).2).1 x hx
          omega) ((List.pairwise_cons.mp gap).2.imp fun h => by omega)
      have m2 : p.h * b.w + (b.t + b.h - q.t) * b.w + 1 * b.w ≤ b.h * b.w := by
        rw [← Nat.add_mul, ← Nat.add_mul]
        exact Nat.mul_le_mul_right _ (by omega)
      omega
end Fl
namespace Fl
/-! ### going on till nothing changes -/
def whole (H W : Nat) : Bx := ⟨0, 0, H, W⟩
def it (D : Dots) (d a : Nat) : Nat → List Bx → List Bx
  | 0, bs => bs
  | n + 1, bs => it D d a n (stepF D d a bs)
theorem it_fix {D : Dots} {d a : Nat} {bs : List Bx} (h : stepF D d a bs = bs) : ∀ n, it D d a n bs = bs
  | 0 => rfl
  | n + 1 => by rw [it, h, it_fix h n]
theorem it_add (D : Dots) (d a : Nat) : ∀ (n m : Nat) (bs : List Bx), it D d a (n + m) bs = it D d a m (it D d a n bs)
  | 0, m, bs => by rw [Nat.zero_add]; rfl
  | n + 1, m, bs => by rw [show n + 1 + m = (n + m) + 1 by omega, it, it, it_add D d a n m]
theorem it_succ (D : Dots) (d a n : Nat) (bs : List Bx) : it D d a (n + 1) bs = stepF D d a (it D d a n bs) := by
  rw [it_add D d a n 1 bs]
  rfl
/-- the fields -/
def Flds (D : Dots) (d a H W : Nat) (bs : List Bx) : Prop := stepF D d a bs = bs ∧ ∃ n, bs = it D d a n [whole H W]
theorem Flds.uniq {D : Dots} {d a H W : Nat} {bs cs : List Bx} (h : Flds D d a H W bs) (g : Flds D d a H W cs) : bs = cs := by
  obtain ⟨h1, n, h2⟩ := h
  obtain ⟨g1, m, g2⟩ := g
  rcases Nat.le_total n m with l | l
  · have : it D d a m [whole H W] = bs := by
      rw [show m = n + (m - n) by omega, it_add, ← h2]
      exact it_fix h1 _
    rw [g2, this]
  · have : it D d a n [whole H W] = cs := by
      rw [show n = m + (n - m) by omega, it_add, ← g2]
      exact it_fix g1 _
    rw [h2, this]
theorem flat_area {f : Bx → List Bx} : ∀ (bs : List Bx), (∀ b ∈ bs, areas (f b) ≤ b.area ∧ (b.area ≤ areas (f b) → f b = [b])) → areas (bs.flatMap f) ≤ areas bs ∧ (areas bs ≤ areas (bs.flatMap f) → ∀ b ∈ bs, f b = [b])
  | [], _ => ⟨Nat.le_refl _, fun _ b h => nomatch h⟩
  | b :: bs, h => by
    obtain ⟨h1, h2⟩ := h b List.mem_cons_self
    obtain ⟨i1, i2⟩ := flat_area bs fun c hc => h c (List.mem_cons_of_mem _ hc)
    have e : areas ((b :: bs).flatMap f) = areas (f b) + areas (bs.flatMap f) := by rw [List.flatMap_cons, areas_app]
    have e2 : areas (b :: bs) = b.area + areas bs := rfl
    rw [e, e2]
    refine ⟨by omega, fun hh c hc => ?_⟩
    rcases List.mem_cons.mp hc with rfl | hc
    · exact h2 (by omega)
    · exact i2 (by omega) c hc
theorem flat_same {f : Bx → List Bx} : ∀ (bs : List Bx), (∀ b ∈ bs, f b = [b]) → bs.flatMap f = bs
  | [], _ => rfl
  | b :: bs, h => by
    rw [List.flatMap_cons, h b List.mem_cons_self, flat_same bs fun c hc => h c (List.mem_cons_of_mem _ hc)]
    rfl
/-- of a row and a column at least -/
def Dim (bs : List Bx) : Prop := ∀ b ∈ bs, 1 ≤ b.h ∧ 1 ≤ b.w
theorem parted_dim (D : Dots) (least : Nat) (b : Bx) : Dim (parted D least b) := fun p hp => by
  obtain ⟨s, e, h1, h2, _, _, Q⟩ := (parted_ok D least b).each p hp
  have := Q.h
  exact ⟨by omega, Q.w⟩
theorem flat_dim {f : Bx → List Bx} {bs : List Bx} (h : ∀ b, Dim (f b)) : Dim (bs.flatMap f) := fun p hp => by
  obtain ⟨b, _, hp⟩ := List.mem_flatMap.mp hp
  exact h b p hp
abbrev cols (D : Dots) (a : Nat) : Bx → List Bx := fun p => (parted (tr D) a p.flip).map Bx.flip
theorem cols_dim (D : Dots) (a : Nat) (b : Bx) : Dim (cols D a b) := fun p hp => by
  obtain ⟨q, hq, rfl⟩ := List.mem_map.mp hp
  have := parted_dim (tr D) a b.flip q hq
  exact ⟨this.2, this.1⟩
theorem step_dim (D : Dots) (d a : Nat) (bs : List Bx) : Dim (stepF D d a bs) := flat_dim fun b => cols_dim D a b
theorem row_area {D : Dots} {d : Nat} (d1 : 1 ≤ d) {b : Bx} (h : 1 ≤ b.h ∧ 1 ≤ b.w) : areas (parted D d b) ≤ b.area ∧ (b.area ≤ areas (parted D d b) → parted D d b = [b]) :=
  ⟨parted_area d1, parted_same d1 h.1 h.2⟩
theorem col_area {D : Dots} {a : Nat} (a1 : 1 ≤ a) {b : Bx} (h : 1 ≤ b.h ∧ 1 ≤ b.w) : areas (cols D a b) ≤ b.area ∧ (b.area ≤ areas (cols D a b) → cols D a b = [b]) := by
  obtain ⟨h1, h2⟩ := row_area (D := tr D) a1 (b := b.flip) ⟨h.2, h.1⟩
  refine ⟨by rw [areas_flip, ← flip_area b]; exact h1, fun hh => ?_⟩
  rw [areas_flip, ← flip_area b] at hh
  show (parted (tr D) a b.flip).map Bx.flip = [b]
  rw [h2 hh]
  rfl
theorem step_area {D : Dots} {d a : Nat} (d1 : 1 ≤ d) (a1 : 1 ≤ a) {bs : List Bx} (h : Dim bs) : areas (stepF D d a bs) ≤ areas bs ∧ (areas bs ≤ areas (stepF D d a bs) → ∀ b ∈ bs, parted D d b = [b] ∧ cols D a b = [b]) := by
  have h1 := flat_area (f := parted D d) bs fun b hb => row_area (D := D) d1 (h b hb)
  have dm : Dim (bs.flatMap (parted D d)) := flat_dim fun b => parted_dim D d b
  have h2 := flat_area (f := cols D a) (bs.flatMap (parted D d)) fun b hb => col_area (D := D) a1 (dm b hb)
  have e : stepF D d a bs = (bs.flatMap (parted D d)).flatMap (cols D a) := rfl
  rw [e]
  refine ⟨by omega, fun hh => ?_⟩
  have g1 := h1.2 (by omega)
  have s1 := flat_same bs g1
  have g2 := h2.2 (by omega)
  rw [s1] at g2
  exact fun b hb => ⟨g1 b hb, g2 b hb⟩
theorem step_same {D : Dots} {d a : Nat} {bs : List Bx} (h : ∀ b ∈ bs, parted D d b = [b] ∧ cols D a b = [b]) : stepF D d a bs = bs := by
  have e : stepF D d a bs = (bs.flatMap (parted D d)).flatMap (cols D a) := rfl
  rw [e, flat_same bs fun b hb => (h b hb).1, flat_same bs fun b hb => (h b hb).2]
theorem fix_each {D : Dots} {d a : Nat} (d1 : 1 ≤ d) (a1 : 1 ≤ a) {bs : List Bx} (h : stepF D d a bs = bs) : ∀ b ∈ bs, parted D d b = [b] ∧ cols D a b = [b] := by
  have dm : Dim bs := h ▸ step_dim D d a bs
  exact (step_area d1 a1 dm).2 (by rw [h]; exact Nat.le_refl _)
/-! ### each dot in just one -/
def Apart (b q : Bx) : Prop := b.t + b.h ≤ q.t ∨ q.t + q.h ≤ b.t ∨ b.l + b.w ≤ q.l ∨ q.l + q.w ≤ b.l
def Sub (p b : Bx) : Prop := b.t ≤ p.t ∧ p.t + p.h ≤ b.t + b.h ∧ b.l ≤ p.l ∧ p.l + p.w ≤ b.l + b.w
theorem Sub.refl (b : Bx) : Sub b b := ⟨Nat.le_refl _, Nat.le_refl _, Nat.le_refl _, Nat.le_refl _⟩
theorem Sub.trans {a b c : Bx} (h : Sub a b) (g : Sub b c) : Sub a c := by
  obtain ⟨h1, h2, h3, h4⟩ := h
  obtain ⟨g1, g2, g3, g4⟩ := g
  exact ⟨by omega, by omega, by omega, by omega⟩
theorem Apart.sub {a b p q : Bx} (h : Apart a b) (hp : Sub p a) (hq : Sub q b) : Apart p q := by
  obtain ⟨p1, p2, p3, p4⟩ := hp
  obtain ⟨q1, q2, q3, q4⟩ := hq
  unfold Apart at *
  omega
structure Cut (D : Dots) (f : Bx → List Bx) : Prop where
  sub : ∀ b, ∀ p ∈ f b, Sub p b
  apart : ∀ b, (f b).Pairwise Apart
  cov : ∀ b r c, D r c = true → b.In r c → ∃ p ∈ f b, p.In r c
theorem cut_rows (D : Dots) (d : Nat) : Cut D (parted D d) := by
  refine ⟨fun b p hp => ?_, fun b => (parted_ok D d b).gap.imp fun h => .inl (by omega), fun b => (parted_ok D d b).cov⟩
  obtain ⟨s, e, h1, h2, _, _, Q⟩ := (parted_ok D d b).each p hp
  have := Q.t
  have := Q.h
  have := Q.r
  have := Q.l
  exact ⟨by omega, by omega, by omega, by omega⟩
theorem cut_cols (D : Dots) (a : Nat) : Cut D (cols D a) := by
  have C := cut_rows (tr D) a
  refine ⟨fun b p hp => ?_, fun b => ?_, fun b r c hd hi => ?_⟩
  · obtain ⟨q, hq, rfl⟩ := List.mem_map.mp hp
    obtain ⟨h1, h2, h3, h4⟩ := C.sub b.flip q hq
    exact ⟨h3, h4, h1, h2⟩
  · unfold cols
    rw [List.pairwise_map]
    refine (C.apart b.flip).imp fun {p q} h => ?_
    rcases h with h | h | h | h
    · exact .inr (.inr (.inl h))
    · exact .inr (.inr (.inr h))
    · exact .inl h
    · exact .inr (.inl h)
  · obtain ⟨i1, i2, i3, i4⟩ := hi
    obtain ⟨p, hp, j1, j2, j3, j4⟩ := C.cov b.flip c r hd ⟨i3, i4, i1, i2⟩
    exact ⟨p.flip, List.mem_map.mpr ⟨p, hp, rfl⟩, j3, j4, j1, j2⟩
/-- boxes within one box, apart, all its dots in them -/
structure Lay (D : Dots) (B : Bx) (bs : List Bx) : Prop where
  sub : ∀ b ∈ bs, Sub b B
  apart : bs.Pairwise Apart
  cov : ∀ r c, D r c = true → B.In r c → ∃ b ∈ bs, b.In r c
theorem flat_apart {f : Bx → List Bx} (hs : ∀ b, ∀ p ∈ f b, Sub p b) (ha : ∀ b, (f b).Pairwise Apart) : ∀ {bs : List Bx}, bs.Pairwise Apart → (bs.flatMap f).Pairwise Apart
  | [], _ => List.Pairwise.nil
  | b :: bs, h => by
    obtain ⟨h1, h2⟩ := List.pairwise_cons.mp h
    rw [List.flatMap_cons, List.pairwise_append]
    refine ⟨ha b, flat_apart hs ha h2, fun p hp q hq => ?_⟩
    obtain ⟨c, hc, hq⟩ := List.mem_flatMap.mp hq
    exact (h1 c hc).sub (hs b p hp) (hs c q hq)
theorem Lay.cut {D : Dots} {B : Bx} {bs : List Bx} {f : Bx → List Bx} (L : Lay D B bs) (C : Cut D f) : Lay D B (bs.flatMap f) := by
  refine ⟨fun p hp => ?_, flat_apart C.sub C.apart L.apart, fun r c hd hi => ?_⟩
  · obtain ⟨b, hb, hp⟩ := List.mem_flatMap.mp hp
    exact (C.sub b p hp).trans (L.sub b hb)
  · obtain ⟨b, hb, hi⟩ := L.cov r c hd hi
    obtain ⟨p, hp, hi⟩ := C.cov b r c hd hi
    exact ⟨p, List.mem_flatMap.mpr ⟨b, hb, hp⟩, hi⟩
theorem Lay.step {D : Dots} {B : Bx} {bs : List Bx} (d a : Nat) (L : Lay D B bs) : Lay D B (stepF D d a bs) := (L.cut (cut_rows D d)).cut (cut_cols D a)
theorem Lay.it {D : Dots} {B : Bx} (d a : Nat) : ∀ (n : Nat) {bs : List Bx}, Lay D B bs → Lay D B (it D d a n bs)
  | 0, _, L => L
  | n + 1, _, L => Lay.it d a n (L.step d a)
theorem Lay.one (D : Dots) (B : Bx) : Lay D B [B] := ⟨fun b hb => by rw [List.mem_singleton.mp hb]; exact Sub.refl B, List.pairwise_singleton _ _, fun r c _ hi => ⟨B, List.mem_singleton.mpr rfl, hi⟩⟩
theorem Flds.lay {D : Dots} {d a H W : Nat} {bs : List Bx} (h : Flds D d a H W bs) : Lay D (whole H W) bs := by
  obtain ⟨_, n, rfl⟩ := h
  exact Lay.it d a n (Lay.one D _)
/-- dots at all edges -/
structure Edg (D : Dots) (b : Bx) : Prop where
  h : 1 ≤ b.h
  w : 1 ≤ b.w
  top : ∃ c, b.l ≤ c ∧ c < b.l + b.w ∧ D b.t c = true
  bot : ∃ c, b.l ≤ c ∧ c < b.l + b.w ∧ D (b.t + b.h - 1) c = true
  lft : ∃ r, b.t ≤ r ∧ r < b.t + b.h ∧ D r b.l = true
  rgt : ∃ r, b.t ≤ r ∧ r < b.t + b.h ∧ D r (b.l + b.w - 1) = true
theorem edg_of {D : Dots} {d : Nat} {b : Bx} (h : parted D d b = [b]) : Edg D b := by
  obtain ⟨s, e, h1, h2, h3, h4, Q⟩ := (parted_ok D d b).each b (by rw [h]; exact List.mem_singleton.mpr rfl)
  have ht := Q.t
  have hh := Q.h
  obtain rfl : s = 0 := by omega
  obtain ⟨m1, c, m2, m3, m4⟩ := mem_dr.mp h3
  obtain ⟨k1, c2, k2, k3, k4⟩ := mem_dr.mp h4
  refine ⟨by omega, Q.w, ⟨c, m2, m3, m4⟩, ⟨c2, k2, k3, ?_⟩, ?_, ?_⟩
  · rw [show b.t + b.h - 1 = b.t + (e - 1) by omega]
    exact k4
  · obtain ⟨r, r1, r2, r3⟩ := Q.le
    exact ⟨r, by omega, by omega, r3⟩
  · obtain ⟨r, r1, r2, r3⟩ := Q.re
    exact ⟨r, by omega, by omega, r3⟩
/-! ### with greater bounds -/
/-- so many rows without a dot lie nowhere between -/
def Solid (D : Dots) (d : Nat) (b : Bx) : Prop := ∀ i ∈ dr D b.t b.l b.h b.w, ∀ k ∈ dr D b.t b.l b.h b.w, i + d < k → ∃ j ∈ dr D b.t b.l b.h b.w, i < j ∧ j < k
theorem solid_of {D : Dots} {d : Nat} {b : Bx} (h : parted D d b = [b]) : Solid D d b := by
  have S := stretch_ok d (dr_sorted D b.t b.l b.h b.w)
  unfold parted at h
  generalize stretch d (dr D b.t b.l b.h b.w) = st at S h
  obtain ⟨q, rfl⟩ : ∃ q, st = [q] := by
    cases st with
    | nil => cases h
    | cons q qs =>
      cases qs with
      | nil => exact ⟨q, rfl⟩
      | cons _ _ =>
        have := congrArg List.length h
        simp at this
  intro i hi k hk hik
  obtain ⟨p, hp, c1, c2⟩ := S.cov i hi
  obtain ⟨p2, hp2, c3, c4⟩ := S.cov k hk
  rw [List.mem_singleton.mp hp] at c1
  rw [List.mem_singleton.mp hp2] at c4
  exact S.solid q (List.mem_singleton.mpr rfl) i hi k hk c1 c4 hik
/-- all dots of one box are in the other -/
def DSub (D : Dots) (F B : Bx) : Prop := ∀ r c, D r c = true → F.In r c → B.In r c
theorem dsub_part {D : Dots} {d d' : Nat} {F B : Bx} (hd : d ≤ d') (S : Solid D d F) (E : Edg D F) (h : DSub D F B) : ∃ p ∈ parted D d' B, DSub D F p := by
  have P := parted_ok D d' B
  obtain ⟨c0, t1, t2, t3⟩ := E.top
  have hF := E.h
  have i0 : F.In F.t c0 := ⟨Nat.le_refl _, by omega, t1, t2⟩
  obtain ⟨p, hp, ip⟩ := P.cov _ _ t3 (h _ _ t3 i0)
  refine ⟨p, hp, ?_⟩
  -- rows of parts are apart
  have two : ∀ q ∈ parted D d' B, q = p ∨ p.t + p.h + d' ≤ q.t ∨ q.t + q.h + d' ≤ p.t := by
    intro q hq
    have g := P.gap
    clear P
    generalize parted D d' B = ps at hp hq g
    induction ps with
    | nil => cases hq
    | cons x xs ih =>
      obtain ⟨g1, g2⟩ := List.pairwise_cons.mp g
      rcases List.mem_cons.mp hq with rfl | hq
      · rcases List.mem_cons.mp hp with rfl | hp
        · exact .inl rfl
        · exact .inr (.inr (g1 p hp))
      · rcases List.mem_cons.mp hp with rfl | hp
        · exact .inr (.inl (g1 q (by assumption)))
        · exact ih hp (by assumption) g2
  have rows : ∀ n i, i ≤ n → i ∈ dr D F.t F.l F.h F.w → p.t ≤ F.t + i ∧ F.t + i < p.t + p.h := by
    intro n
    induction n with
    | zero =>
      intro i hi him
      obtain rfl : i = 0 := by omega
      exact ⟨ip.1, ip.2.1⟩
    | succ n ih =>
      intro i hi him
      by_cases hle : i ≤ n
      · exact ih i hle him
      · have hpos : 0 < i := by omega
        -- the last one ahead
        have z0 : 0 ∈ dr D F.t F.l F.h F.w := mem_dr.mpr ⟨by omega, c0, t1, t2, t3⟩
        have prev : ∃ j ∈ dr D F.t F.l F.h F.w, j < i ∧ i ≤ j + d := by
          have key : ∀ m j, i - j ≤ m → j ∈ dr D F.t F.l F.h F.w → j < i → ∃ j ∈ dr D F.t F.l F.h F.w, j < i ∧ i ≤ j + d := by
            intro m
            induction m with
            | zero => intro j h1 h2 h3; omega
            | succ m ih2 =>
              intro j h1 h2 h3
              by_cases hg : i ≤ j + d
              · exact ⟨j, h2, h3, hg⟩
              · obtain ⟨k, k1, k2, k3⟩ := S j h2 i him (by omega)
                exact ih2 k (by omega) k1 k3
          exact key (i - 0) 0 (Nat.le_refl _) z0 hpos
        obtain ⟨j, hj, j1, j2⟩ := prev
        have pj := ih j (by omega) hj
        obtain ⟨im, c, cc1, cc2, cd⟩ := mem_dr.mp him
        obtain ⟨q, hq, iq⟩ := P.cov _ _ cd (h _ _ cd ⟨by omega, by omega, cc1, cc2⟩)
        obtain ⟨q1, q2, _, _⟩ := iq
        rcases two q hq with rfl | e | e
        · exact ⟨q1, q2⟩
        · omega
        · omega
  intro r c hdot hi
  obtain ⟨i1, i2, i3, i4⟩ := hi
  have him : r - F.t ∈ dr D F.t F.l F.h F.w := mem_dr.mpr ⟨by omega, c, i3, i4, by rw [show F.t + (r - F.t) = r by omega]; exact hdot⟩
  have pr := rows _ _ (Nat.le_refl _) him
  obtain ⟨q, hq, iq⟩ := P.cov _ _ hdot (h _ _ hdot ⟨i1, i2, i3, i4⟩)
  have iq' := iq
  obtain ⟨q1, q2, _, _⟩ := iq
  rcases two q hq with rfl | e | e
  · exact iq'
  · omega
  · omega
theorem dsub_flip {D : Dots} {F B : Bx} (h : DSub D F B) : DSub (tr D) F.flip B.flip := fun r c hd hi => by
  obtain ⟨i1, i2, i3, i4⟩ := hi
  obtain ⟨j1, j2, j3, j4⟩ := h c r hd ⟨i3, i4, i1, i2⟩
  exact ⟨j3, j4, j1, j2⟩
theorem dsub_step {D : Dots} {d d' a a' : Nat} {F : Bx} (hd : d ≤ d') (ha : a ≤ a') (h1 : parted D d F = [F]) (h2 : cols D a F = [F]) {bs : List Bx} (h : ∃ B ∈ bs, DSub D F B) : ∃ B ∈ stepF D d' a' bs, DSub D F B := by
  obtain ⟨B, hB, h⟩ := h
  obtain ⟨p, hp, h⟩ := dsub_part hd (solid_of h1) (edg_of h1) h
  have h3 : parted (tr D) a F.flip = [F.flip] := by
    have e := congrArg (List.map Bx.flip) (show (parted (tr D) a F.flip).map Bx.flip = [F] from h2)
    rw [List.map_map, show Bx.flip ∘ Bx.flip = id from rfl, List.map_id] at e
    exact e
  obtain ⟨q, hq, h⟩ := dsub_part ha (solid_of h3) (edg_of h3) (dsub_flip h)
  refine ⟨q.flip, List.mem_flatMap.mpr ⟨p, List.mem_flatMap.mpr ⟨B, hB, hp⟩, List.mem_map.mpr ⟨q, hq, rfl⟩⟩, ?_⟩
  exact dsub_flip h
theorem dsub_it {D : Dots} {d d' a a' : Nat} {F : Bx} (hd : d ≤ d') (ha : a ≤ a') (h1 : parted D d F = [F]) (h2 : cols D a F = [F]) : ∀ (n : Nat) {bs : List Bx}, (∃ B ∈ bs, DSub D F B) → ∃ B ∈ it D d' a' n bs, DSub D F B
  | 0, _, h => h
  | n + 1, _, h => dsub_it hd ha h1 h2 n (dsub_step hd ha h1 h2 h)
theorem inj_len {R : Bx → Bx → Prop} (inj : ∀ b b' f, R b f → R b' f → b = b') : ∀ (cs fs : List Bx), cs.Nodup → (∀ b ∈ cs, ∃ f ∈ fs, R b f) → cs.length ≤ fs.length
  | [], _, _, _ => Nat.zero_le _
  | b :: cs, fs, nd, h => by
    obtain ⟨f, hf, hr⟩ := h b List.mem_cons_self
    obtain ⟨n1, n2⟩ := List.nodup_cons.mp nd
    have ih := inj_len inj cs (fs.erase f) n2 fun b' hb' => by
      obtain ⟨f', hf', hr'⟩ := h b' (List.mem_cons_of_mem _ hb')
      refine ⟨f', ?_, hr'⟩
      have ne : f' ≠ f := by
        rintro rfl
        have := inj b b' f' hr hr'
        exact n1 (this ▸ hb')
      exact (List.mem_erase_of_ne ne).mpr hf'
    have := List.length_erase_of_mem hf
    have hpos : 0 < fs.length := List.length_pos_of_mem hf
    rw [List.length_cons]
    omega
theorem apart_eq {b q : Bx} {r c : Nat} (hb : b.In r c) (hq : q.In r c) : ¬ Apart b q := by
  obtain ⟨b1, b2, b3, b4⟩ := hb
  obtain ⟨q1, q2, q3, q4⟩ := hq
  unfold Apart
  omega
theorem one_of {bs : List Bx} (h : bs.Pairwise Apart) {b q : Bx} (hb : b ∈ bs) (hq : q ∈ bs) {r c : Nat} (ib : b.In r c) (iq : q.In r c) : b = q := by
  induction bs with
  | nil => cases hb
  | cons x xs ih =>
    obtain ⟨h1, h2⟩ := List.pairwise_cons.mp h
    rcases List.mem_cons.mp hb with rfl | hb
    · rcases List.mem_cons.mp hq with rfl | hq
      · rfl
      · exact absurd (h1 q hq) (apart_eq ib iq)
    · rcases List.mem_cons.mp hq with rfl | hq
      · exact absurd (h1 b (by assumption)) (apart_eq iq ib)
      · exact ih h2 (by assumption) (by assumption)
theorem Flds.fewer {D : Dots} {d d' a a' H W : Nat} (d1 : 1 ≤ d) (a1 : 1 ≤ a) (hd : d ≤ d') (ha : a ≤ a') {fs cs : List Bx} (h : Flds D d a H W fs) (g : Flds D d' a' H W cs) : cs.length ≤ fs.length := by
  have L := h.lay
  have M := g.lay
  have ec := fix_each (by omega) (by omega) g.1
  have ef := fix_each d1 a1 h.1
  -- a dot of the coarse one, the fine one that it is in
  refine inj_len (R := fun b f => f ∈ fs ∧ b ∈ cs ∧ ∃ r c, D r c = true ∧ b.In r c ∧ f.In r c) ?_ cs fs ?_ ?_
  · rintro b b' f ⟨hf, hb, r, c, hdot, ib, iF⟩ ⟨_, hb', r', c', hdot', ib', iF'⟩
    obtain ⟨n, hn⟩ := g.2
    obtain ⟨B, hB, hs⟩ := dsub_it hd ha (ef f hf).1 (ef f hf).2 n (bs := [whole H W]) ⟨whole H W, List.mem_singleton.mpr rfl, fun r c _ hi => by
      obtain ⟨s1, s2, s3, s4⟩ := L.sub f hf
      obtain ⟨i1, i2, i3, i4⟩ := hi
      exact ⟨by omega, by omega, by omega, by omega⟩⟩
    rw [← hn] at hB
    have e1 := one_of M.apart hb hB ib (hs r c hdot iF)
    have e2 := one_of M.apart hb' hB ib' (hs r' c' hdot' iF')
    rw [e1, e2]
  · refine M.apart.imp_of_mem fun {b q} hb hq hap e => ?_
    subst e
    have E := edg_of (ec b hb).1
    have := E.h
    have := E.w
    unfold Apart at hap
    omega
  · intro b hb
    obtain ⟨c, c1, c2, c3⟩ := (edg_of (ec b hb).1).top
    have hh := (edg_of (ec b hb).1).h
    obtain ⟨s1, s2, s3, s4⟩ := M.sub b hb
    obtain ⟨f, hf, iF⟩ := L.cov _ _ c3 ⟨by omega, by omega, by omega, by omega⟩
    exact ⟨f, hf, hf, hb, b.t, c, c3, ⟨Nat.le_refl _, by omega, c1, c2⟩, iF⟩
end Fl
namespace Fl
/-! ### moved -/
def Bx.sh (dn ac : Nat) (b : Bx) : Bx := ⟨b.t + dn, b.l + ac, b.h, b.w⟩
theorem sh_inj {dn ac : Nat} {a b : Bx} (h : a.sh dn ac = b.sh dn ac) : a = b := by
  cases a
  cases b
  simp only [Bx.sh, Bx.mk.injEq] at *
  omega
/-- the dots of D, moved, within a region -/
def Agr (D' D : Dots) (dn ac H W : Nat) : Prop := ∀ r c, r < H → c < W → D' (r + dn) (c + ac) = D r c
theorem Agr.tr {D' D : Dots} {dn ac H W : Nat} (h : Agr D' D dn ac H W) : Agr (tr D') (tr D) ac dn W H := fun r c hr hc => h c r hc hr
theorem dr_sh {D' D : Dots} {dn ac H W t l h w : Nat} (A : Agr D' D dn ac H W) (ht : t + h ≤ H) (hl : l + w ≤ W) : dr D' (t + dn) (l + ac) h w = dr D t l h w := by
  unfold dr
  apply List.filter_congr
  intro i hi
  have hi' := List.mem_range.mp hi
  unfold rowHas
  have : ∀ j ∈ List.range w, D' (t + dn + i) (l + ac + j) = D (t + i) (l + j) := fun j hj => by
    have hj' := List.mem_range.mp hj
    rw [show t + dn + i = (t + i) + dn by omega, show l + ac + j = (l + j) + ac by omega]
    exact A _ _ (by omega) (by omega)
  apply Bool.eq_iff_iff.mpr
  rw [List.any_eq_true, List.any_eq_true]
  constructor
  · rintro ⟨j, hj, h⟩
    exact ⟨j, hj, by rw [← this j hj]; exact h⟩
  · rintro ⟨j, hj, h⟩
    exact ⟨j, hj, by rw [this j hj]; exact h⟩
theorem part1_sh {D' D : Dots} {dn ac H W t l w s e : Nat} (A : Agr D' D dn ac H W) (ht : t + e ≤ H) (hl : l + w ≤ W) (hse : s < e) : part1 D' (t + dn) (l + ac) w (s, e) = (part1 D t l w (s, e)).sh dn ac := by
  have e1 : dr (tr D') (l + ac) (t + dn + s) w (e - s) = dr (tr D) l (t + s) w (e - s) := by
    rw [show t + dn + s = (t + s) + dn by omega]
    exact dr_sh A.tr hl (by omega)
  have e0 : part1 D' (t + dn) (l + ac) w (s, e) = ⟨t + dn + s, l + ac + (dr (tr D') (l + ac) (t + dn + s) w (e - s)).headD 0, e - s, (dr (tr D') (l + ac) (t + dn + s) w (e - s)).getLastD 0 + 1 - (dr (tr D') (l + ac) (t + dn + s) w (e - s)).headD 0⟩ := rfl
  rw [e0, e1]
  show (⟨_, _, _, _⟩ : Bx) = ⟨t + s + dn, l + (dr (tr D) l (t + s) w (e - s)).headD 0 + ac, e - s, (dr (tr D) l (t + s) w (e - s)).getLastD 0 + 1 - (dr (tr D) l (t + s) w (e - s)).headD 0⟩
  rw [show t + dn + s = t + s + dn by omega, show l + ac + (dr (tr D) l (t + s) w (e - s)).headD 0 = l + (dr (tr D) l (t + s) w (e - s)).headD 0 + ac by omega]
theorem parted_sh {D' D : Dots} {dn ac H W least : Nat} {b : Bx} (A : Agr D' D dn ac H W) (ht : b.t + b.h ≤ H) (hl : b.l + b.w ≤ W) : parted D' least (b.sh dn ac) = (parted D least b).map (Bx.sh dn ac) := by
  unfold parted
  have e1 : dr D' (b.sh dn ac).t (b.sh dn ac).l (b.sh dn ac).h (b.sh dn ac).w = dr D b.t b.l b.h b.w := dr_sh A ht hl
  rw [e1, List.map_map]
  have S := stretch_ok least (dr_sorted D b.t b.l b.h b.w)
  apply List.map_congr_left
  rintro ⟨s, e⟩ hp
  obtain ⟨h1, h2, h3⟩ := S.ends _ hp
  have h1' : s < e := h1
  have h3' : e - 1 < b.h := (mem_dr.mp h3).1
  exact part1_sh A (by omega) hl h1'
theorem cols_sh {D' D : Dots} {dn ac H W a : Nat} {b : Bx} (A : Agr D' D dn ac H W) (ht : b.t + b.h ≤ H) (hl : b.l + b.w ≤ W) : cols D' a (b.sh dn ac) = (cols D a b).map (Bx.sh dn ac) := by
  have e := parted_sh (least := a) (b := b.flip) A.tr hl ht
  show (parted (tr D') a (b.sh dn ac).flip).map Bx.flip = _
  have e1 : (b.sh dn ac).flip = b.flip.sh ac dn := rfl
  rw [e1, e, List.map_map]
  show _ = ((parted (tr D) a b.flip).map Bx.flip).map _
  rw [List.map_map]
  rfl
theorem flat_map_sh {f g : Bx → List Bx} {m : Bx → Bx} : ∀ (bs : List Bx), (∀ b ∈ bs, f (m b) = (g b).map m) → (bs.map m).flatMap f = (bs.flatMap g).map m
  | [], _ => rfl
  | b :: bs, h => by
    rw [List.map_cons, List.flatMap_cons, List.flatMap_cons, List.map_append, h b List.mem_cons_self, flat_map_sh bs fun c hc => h c (List.mem_cons_of_mem _ hc)]
theorem step_sh {D' D : Dots} {dn ac H W d a : Nat} {bs : List Bx} (A : Agr D' D dn ac H W) (h : ∀ b ∈ bs, Sub b (whole H W)) : stepF D' d a (bs.map (Bx.sh dn ac)) = (stepF D d a bs).map (Bx.sh dn ac) := by
  have e : ∀ (D : Dots) bs, stepF D d a bs = (bs.flatMap (parted D d)).flatMap (cols D a) := fun _ _ => rfl
  rw [e, e, flat_map_sh (g := parted D d) bs fun b hb => ?_, flat_map_sh (g := cols D a) _ fun b hb => ?_]
  · obtain ⟨c, hc, hb⟩ := List.mem_flatMap.mp hb
    obtain ⟨s1, s2, s3, s4⟩ := ((cut_rows D d).sub c b hb).trans (h c hc)
    exact cols_sh A (by have : (whole H W).t + (whole H W).h = 0 + H := rfl; omega) (by have : (whole H W).l + (whole H W).w = 0 + W := rfl; omega)
  · obtain ⟨s1, s2, s3, s4⟩ := h b hb
    exact parted_sh A (by have : (whole H W).t + (whole H W).h = 0 + H := rfl; omega) (by have : (whole H W).l + (whole H W).w = 0 + W := rfl; omega)
/-- a field cut out is one field -/
theorem Flds.cut {D D2 : Dots} {d a H W : Nat} {bs : List Bx} (d1 : 1 ≤ d) (a1 : 1 ≤ a) (h : Flds D d a H W bs) {b : Bx} (hb : b ∈ bs) (A : Agr D D2 b.t b.l b.h b.w) : Flds D2 d a b.h b.w [whole b.h b.w] := by
  obtain ⟨h1, h2⟩ := fix_each d1 a1 h.1 b hb
  have eb : (whole b.h b.w).sh b.t b.l = b := by
    cases b
    simp [Bx.sh, whole]
  have w1 : (whole b.h b.w).t + (whole b.h b.w).h ≤ b.h := by show 0 + b.h ≤ b.h; omega
  have w2 : (whole b.h b.w).l + (whole b.h b.w).w ≤ b.w := by show 0 + b.w ≤ b.w; omega
  have k1 := parted_sh (least := d) (b := whole b.h b.w) A w1 w2
  have k2 := cols_sh (a := a) (b := whole b.h b.w) A w1 w2
  rw [eb, h1] at k1
  rw [eb, h2] at k2
  have one : ∀ ps : List Bx, [b] = ps.map (Bx.sh b.t b.l) → ps = [whole b.h b.w] := fun ps e => by
    cases ps with
    | nil => cases e
    | cons p qs =>
      cases qs with
      | nil =>
        rw [List.map_cons, List.map_nil] at e
        have e2 : b = p.sh b.t b.l := by injection e
        have : p = whole b.h b.w := sh_inj (dn := b.t) (ac := b.l) (by rw [← e2, eb])
        rw [this]
      | cons _ _ =>
        have := congrArg List.length e
        simp at this
  refine ⟨step_same fun c hc => ?_, 0, rfl⟩
  rw [List.mem_singleton.mp hc]
  exact ⟨one _ k1, one _ k2⟩
/-! ### a page in a greater white one -/
theorem srt_ext : ∀ {a b : List Nat}, a.Pairwise (· < ·) → b.Pairwise (· < ·) → (∀ n, n ∈ a ↔ n ∈ b) → a = b
  | [], [], _, _, _ => rfl
  | [], n :: _, _, _, h => by have := (h n).mpr List.mem_cons_self; cases this
  | n :: _, [], _, _, h => by have := (h n).mp List.mem_cons_self; cases this
  | n :: a, m :: b, ha, hb, h => by
    obtain ⟨a1, a2⟩ := List.pairwise_cons.mp ha
    obtain ⟨b1, b2⟩ := List.pairwise_cons.mp hb
    have e : n = m := by
      rcases List.mem_cons.mp ((h n).mp List.mem_cons_self) with e | e
      · exact e
      · rcases List.mem_cons.mp ((h m).mpr List.mem_cons_self) with e2 | e2
        · exact e2.symm
        · have := b1 n e
          have := a1 m e2
          omega
    subst e
    rw [srt_ext a2 b2 fun k => ?_]
    constructor
    · intro hk
      rcases List.mem_cons.mp ((h k).mp (List.mem_cons_of_mem _ hk)) with e | e
      · have := a1 k hk
        omega
      · exact e
    · intro hk
      rcases List.mem_cons.mp ((h k).mpr (List.mem_cons_of_mem _ hk)) with e | e
      · have := b1 k hk
        omega
      · exact e
theorem strR_add (least m : Nat) : ∀ (ns : List Nat) (s p : Nat), strR least (s + m) (p + m) (ns.map (· + m)) = (strR least s p ns).map fun q => (q.1 + m, q.2 + m)
  | [], s, p => by
    show [(s + m, p + m + 1)] = [(s + m, p + 1 + m)]
    rw [show p + m + 1 = p + 1 + m by omega]
  | n :: ns, s, p => by
    rw [List.map_cons, strR, strR]
    rw [show n + m - (p + m) = n - p by omega]
    by_cases hg : n - p > least
    · rw [if_pos hg, if_pos hg, List.map_cons, strR_add least m ns n n]
      show (s + m, p + m + 1) :: _ = (s + m, p + 1 + m) :: _
      rw [show p + m + 1 = p + 1 + m by omega]
    · rw [if_neg hg, if_neg hg, strR_add least m ns s n]
theorem stretch_add (least m : Nat) (ns : List Nat) : stretch least (ns.map (· + m)) = (stretch least ns).map fun q => (q.1 + m, q.2 + m) := by
  cases ns with
  | nil => rfl
  | cons n ns => exact strR_add least m ns n n
theorem head_add {m : Nat} : ∀ {ns : List Nat}, ns ≠ [] → (ns.map (· + m)).headD 0 = ns.headD 0 + m
  | [], h => absurd rfl h
  | _ :: _, _ => rfl
theorem last_add {m : Nat} : ∀ {ns : List Nat}, ns ≠ [] → (ns.map (· + m)).getLastD 0 = ns.getLastD 0 + m
  | [], h => absurd rfl h
  | [_], _ => rfl
  | n :: k :: ns, _ => by
    show ((k :: ns).map (· + m)).getLastD 0 = (k :: ns).getLastD 0 + m
    exact last_add (by simp)
/-- all dots of the greater one are those of the page, moved -/
structure Mov (D' D : Dots) (dn ac H W H' W' : Nat) : Prop where
  agr : Agr D' D dn ac H W
  out : ∀ r c, D' r c = true → dn ≤ r ∧ r < dn + H ∧ ac ≤ c ∧ c < ac + W
  h : dn + H ≤ H'
  w : ac + W ≤ W'
theorem Mov.dots {D' D : Dots} {dn ac H W H' W' : Nat} (M : Mov D' D dn ac H W H' W') {r c : Nat} (h : D' r c = true) : ∃ r0 c0, r = r0 + dn ∧ c = c0 + ac ∧ r0 < H ∧ c0 < W ∧ D r0 c0 = true := by
  obtain ⟨h1, h2, h3, h4⟩ := M.out r c h
  refine ⟨r - dn, c - ac, by omega, by omega, by omega, by omega, ?_⟩
  rw [← M.agr (r - dn) (c - ac) (by omega) (by omega), show r - dn + dn = r by omega, show c - ac + ac = c by omega]
  exact h
theorem dr_mov {D' D : Dots} {dn ac H W H' W' s h : Nat} (M : Mov D' D dn ac H W H' W') (hs : s + h ≤ W) : dr (tr D') 0 (s + ac) H' h = (dr (tr D) 0 s H h).map (· + dn) → True := fun _ => trivial
theorem rows_mov {D' D : Dots} {dn ac H W H' W' : Nat} (M : Mov D' D dn ac H W H' W') : dr D' 0 0 H' W' = (dr D 0 0 H W).map (· + dn) := by
  refine srt_ext (dr_sorted _ _ _ _ _) ((List.pairwise_map).mpr ((dr_sorted D 0 0 H W).imp fun h => by omega)) fun n => ?_
  rw [mem_dr, List.mem_map]
  constructor
  · rintro ⟨h1, c, _, _, hd⟩
    rw [Nat.zero_add] at hd
    obtain ⟨r0, c0, e1, e2, e3, e4, e5⟩ := M.dots hd
    exact ⟨r0, mem_dr.mpr ⟨e3, c0, by omega, by omega, by rw [Nat.zero_add]; exact e5⟩, e1.symm⟩
  · rintro ⟨r, hr, rfl⟩
    obtain ⟨h1, c, _, h3, hd⟩ := mem_dr.mp hr
    rw [Nat.zero_add] at hd
    have := M.h
    have := M.w
    refine ⟨by omega, c + ac, by omega, by omega, ?_⟩
    rw [Nat.zero_add, M.agr r c (by omega) (by omega)]
    exact hd
theorem cols_mov {D' D : Dots} {dn ac H W H' W' s n : Nat} (M : Mov D' D dn ac H W H' W') (hs : s + n ≤ H) : dr (tr D') 0 (0 + (s + dn)) W' n = (dr (tr D) 0 (0 + s) W n).map (· + ac) := by
  refine srt_ext (dr_sorted _ _ _ _ _) ((List.pairwise_map).mpr ((dr_sorted (tr D) 0 (0 + s) W n).imp fun h => by omega)) fun k => ?_
  rw [mem_dr, List.mem_map]
  constructor
  · rintro ⟨h1, r, r1, r2, hd⟩
    rw [Nat.zero_add] at hd
    obtain ⟨r0, c0, e1, e2, e3, e4, e5⟩ := M.dots (show D' r k = true from hd)
    exact ⟨c0, mem_dr.mpr ⟨e4, r0, by omega, by omega, by rw [Nat.zero_add]; exact e5⟩, e2.symm⟩
  · rintro ⟨c, hc, rfl⟩
    obtain ⟨h1, r, r1, r2, hd⟩ := mem_dr.mp hc
    rw [Nat.zero_add] at hd
    have := M.h
    have := M.w
    refine ⟨by omega, r + dn, by omega, by omega, ?_⟩
    rw [Nat.zero_add]
    show D' (r + dn) (c + ac) = true
    rw [M.agr r c (by omega) (by omega)]
    exact hd
theorem parted_mov {D' D : Dots} {dn ac H W H' W' least : Nat} (M : Mov D' D dn ac H W H' W') : parted D' least (whole H' W') = (parted D least (whole H W)).map (Bx.sh dn ac) := by
  have S := stretch_ok least (dr_sorted D 0 0 H W)
  show (stretch least (dr D' 0 0 H' W')).map (part1 D' 0 0 W') = ((stretch least (dr D 0 0 H W)).map (part1 D 0 0 W)).map (Bx.sh dn ac)
  rw [rows_mov M, stretch_add, List.map_map, List.map_map]
  apply List.map_congr_left
  rintro ⟨s, e⟩ hp
  obtain ⟨h1, h2, h3⟩ := S.ends _ hp
  have h1' : s < e := h1
  have h3' : e - 1 < H := (mem_dr.mp h3).1
  obtain ⟨_, c, c1, c2, hd⟩ := mem_dr.mp h2
  have hd' : D (0 + s) c = true := hd
  have ne : dr (tr D) 0 (0 + s) W (e - s) ≠ [] := by
    intro z
    have hm : c ∈ dr (tr D) 0 (0 + s) W (e - s) := mem_dr.mpr ⟨by omega, 0 + s, by omega, by omega, by rw [Nat.zero_add]; exact hd'⟩
    rw [z] at hm
    cases hm
  have ec := cols_mov M (s := s) (n := e - s) (by omega)
  have e0 : part1 D' 0 0 W' (s + dn, e + dn) = ⟨0 + (s + dn), 0 + (dr (tr D') 0 (0 + (s + dn)) W' (e + dn - (s + dn))).headD 0, e + dn - (s + dn), (dr (tr D') 0 (0 + (s + dn)) W' (e + dn - (s + dn))).getLastD 0 + 1 - (dr (tr D') 0 (0 + (s + dn)) W' (e + dn - (s + dn))).headD 0⟩ := rfl
  show part1 D' 0 0 W' (s + dn, e + dn) = (part1 D 0 0 W (s, e)).sh dn ac
  rw [e0, show e + dn - (s + dn) = e - s by omega, ec, head_add ne, last_add ne]
  show (⟨_, _, _, _⟩ : Bx) = ⟨0 + s + dn, 0 + (dr (tr D) 0 (0 + s) W (e - s)).headD 0 + ac, e - s, (dr (tr D) 0 (0 + s) W (e - s)).getLastD 0 + 1 - (dr (tr D) 0 (0 + s) W (e - s)).headD 0⟩
  generalize (dr (tr D) 0 (0 + s) W (e - s)).headD 0 = x
  generalize (dr (tr D) 0 (0 + s) W (e - s)).getLastD 0 = y
  have a1 : 0 + (s + dn) = 0 + s + dn := by omega
  have a2 : 0 + (x + ac) = 0 + x + ac := by omega
  have a3 : y + ac + 1 - (x + ac) = y + 1 - x := by omega
  rw [a1, a2, a3]
theorem step_mov {D' D : Dots} {dn ac H W H' W' d a : Nat} (M : Mov D' D dn ac H W H' W') : stepF D' d a [whole H' W'] = (stepF D d a [whole H W]).map (Bx.sh dn ac) := by
  have e : ∀ (D : Dots) b, stepF D d a [b] = (parted D d b).flatMap (cols D a) := fun D b => by
    show ([b].flatMap (parted D d)).flatMap (cols D a) = _
    rw [List.flatMap_cons, List.flatMap_nil, List.append_nil]
  rw [e, e, parted_mov M, flat_map_sh (g := cols D a) _ fun b hb => ?_]
  obtain ⟨s1, s2, s3, s4⟩ := (cut_rows D d).sub _ b hb
  exact cols_sh M.agr (by have : (whole H W).t + (whole H W).h = 0 + H := rfl; omega) (by have : (whole H W).l + (whole H W).w = 0 + W := rfl; omega)
theorem it_sh {D' D : Dots} {dn ac H W d a : Nat} (A : Agr D' D dn ac H W) : ∀ (n : Nat) {bs : List Bx}, Lay D (whole H W) bs → it D' d a n (bs.map (Bx.sh dn ac)) = (it D d a n bs).map (Bx.sh dn ac)
  | 0, _, _ => rfl
  | n + 1, bs, L => by
    rw [it, it, step_sh A L.sub, it_sh A n (L.step d a)]
theorem Flds.mov {D' D : Dots} {dn ac H W H' W' d a : Nat} {bs : List Bx} (M : Mov D' D dn ac H W H' W') (h : Flds D d a H W bs) : Flds D' d a H' W' (bs.map (Bx.sh dn ac)) := by
  have L := h.lay
  obtain ⟨h1, n, h2⟩ := h
  refine ⟨by rw [step_sh M.agr L.sub, h1], n + 1, ?_⟩
  have e : bs = it D d a (n + 1) [whole H W] := by rw [it_succ, ← h2, h1]
  rw [e, it, it, step_mov M, it_sh M.agr n ((Lay.one D (whole H W)).step d a)]
end Fl
namespace L2X
open PySem PySem.Spec PyProof.Rows L2
theorem op_neDK {X : Cx} {K : PySem.W.Frag} (hK : X.K = K) (hu : X.A.units + 64 < cLine) : OpR X (compareOp .NotEq) (rNeD K) := by
  subst hK
  exact op_neD hu
end L2X
namespace Dt
open PySem PySem.Spec PyProof.Rows L2 L2X
open SX (S)
/-- rows of signs, of any size that may come -/
structure BigR (high wide : Nat) (rs : List (List Nat)) : Prop where
  r : RowsR high wide rs
  h0 : 1 ≤ high
  h1 : high ≤ 120
  w0 : 1 ≤ wide
  w1 : wide ≤ 120
theorem PicR.big {high wide : Nat} {rs : List (List Nat)} (p : PicR high wide rs) : BigR high wide rs := ⟨p.rows, p.h0, Nat.le_trans p.h1 (by decide), p.w0, p.w1⟩
theorem BigR.head {high wide : Nat} {rs : List (List Nat)} (b : BigR high wide rs) : (rs.headD []).length = wide := by
  cases rs with
  | nil =>
    have := b.r.len
    have := b.h0
    simp at *
    omega
  | cons l r => exact (b.r.row l List.mem_cons_self).len
theorem getD_mem {l : List Nat} {c : Nat} (h : c < l.length) : l.getD c 0 ∈ l := by
  rw [getD_at (List.getElem?_eq_getElem h)]
  exact List.getElem_mem h
def colsW (w : Nat) (rs : List (List Nat)) : List (List Nat) := (List.range w).map fun c => rs.map fun l => l.getD c 0
abbrev sCO : Stmt := topS 28
theorem scCO : FnScope ["rows", "signs"] ["rows"] (defScope sCO) := ⟨rfl, rfl, rfl, by decide +kernel, rfl, by decide +kernel, by decide +kernel⟩
def spCO : Sp := fun vs H Q _ => ∃ (a : Addr) (high wide : Nat) (rs : List (List Nat)), vs = [.ref a] ∧ H a = some (.tup (rs.map rv)) ∧ BigR high wide rs ∧ ∀ p H', Same H H' → H p = none → H' p = some (.lst ((colsW wide rs).map rv)) → Q (.ref p) H'
section
variable {P : Program} {w : World} {K : PySem.W.Frag} {mg : Str → Option Value} {base : Heap} {C CP : Addr}
theorem sgn_S (l : List Nat) (i : Nat) : sgn (S l) i = .str ⟨#[l.getD i 0]⟩ := by
  unfold sgn
  rw [List.getD_eq_getElem?_getD]
  simp [S]
theorem ok_CO {f : Addr} {fd : FuncData} {k : Nat} (F : Fun K "columns_of" "columns_of" sCO f fd) (X : Tx mg) (hz : mg "zip" = none) : FnOk P w K mg base CX0 (k + 1) f fd ["rows"] spCO := by
  refine F.ok scCO (fun vs H Q E h => ?_) (fun cdv A outer s H vs Q E hr h => ?_)
  · obtain ⟨a, _, _, _, rfl, _⟩ := h
    rfl
  · obtain ⟨a, high, wide, rs, rfl, ha, b, q⟩ := h
    have nd := scCO.nd
    refine ⟨_, pss_one (ps_ret (pe_lc (own := [("signs", 1)]) (g := gName 1) (tt := tYes) rfl nd (pi_zipS (by rfl) hz (pv 0)) (blkOk_by (N := ["rows", "signs"]) (sc := defScope sCO) (by decide +kernel)) (fun _ _ _ _ _ => pg_name (i := 1) nd rfl (Or.inl rfl)) (fun _ _ _ _ _ => pts_nil)
        (fun _ _ _ _ _ => pe_joinK (K := K) rfl pe_str (pv 1)))), ?_⟩
    have hp1 : H a = some (.tup ((rs.map S).map V.str)) := by
      rw [ha, List.map_map]
      rfl
    have hlen := b.r.len
    have h0 := b.h0
    have h1 := b.h1
    have w1 := b.w1
    have cl : (colsW wide rs).length = wide := by unfold colsW; rw [List.length_map, List.length_range]
    refine ⟨.ref a, rfl, a, rs.map S, rfl, .inl (SqT.of hp1), by rw [List.length_map]; omega, by rw [List.length_map]; omega, fun D hD => lc_zipN (n := wide) (by rw [List.length_map]; omega) (fun z hz' => ?_)
      (fun i H2 => Same H H2 ∧ H2 D = some (.lst (((colsW wide rs).take i).map rv))) ⟨same_upd hD, upd_same⟩ ?_ ?_⟩
    · obtain ⟨l, hl, rfl⟩ := List.mem_map.mp hz'
      have := (b.r.row l hl).len
      show (S l).length = wide
      rw [SX.S_len, this]
    · rintro i H2 T hi ⟨sm, h2⟩ nT
      have sT := same_upd (o := .tup ((rs.map S).map fun z => sgn z i)) nT
      have el : (colsW wide rs)[i]? = some (rs.map fun l => l.getD i 0) := by
        unfold colsW
        rw [List.getElem?_map, List.getElem?_range hi]
        rfl
      refine ⟨rfl, ⟨"", rfl⟩, .ref T, rfl, "", T, (rs.map fun l => l.getD i 0).map fun c => (⟨#[c]⟩ : Str), rfl, rfl, .inr (SqT.of ?_), ?_, ?_⟩
      · rw [upd_same, List.map_map, List.map_map, List.map_map]
        congr 2
        apply List.map_congr_left
        intro l _
        exact sgn_S l i
      · rw [lens_rows, List.length_map]
        show rs.length + _ * 0 ≤ 16777216
        omega
      · rw [join_row]
        refine ⟨_, sT _ _ h2, ?_, same_over (sm.trans sT) hD, ?_⟩
        · rw [List.length_map, List.length_take]
          exact smallT (by omega)
        · rw [upd_same, take_snoc el, List.map_append]
          rfl
    · rintro H2 ⟨sm, h2⟩
      have e : (colsW wide rs).take wide = colsW wide rs := List.take_of_length_le (by rw [cl]; exact Nat.le_refl _)
      rw [e] at h2
      exact q D _ sm hD h2
end
theorem getD_some {l : List Nat} {c : Nat} (h : c < l.length) : l[c]? = some (l.getD c 0) := by
  rw [getD_at (List.getElem?_eq_getElem h)]
  exact List.getElem?_eq_getElem h
open Builtin Builtin.Str in
theorem at_one {l : List Nat} {i : Nat} : StrLaws.At (S l) (S [35]) (S l).length i ↔ i < l.length ∧ l.getD i 0 = 35 := by
  have e := StrLaws.subAt_one (S l) 35 i
  have e2 : StrLaws.At (S l) (S [35]) (S l).length i ↔ (S l).cps.toList[i]? = some 35 := e
  rw [e2]
  have e3 : (S l).cps.toList = l := by simp [S]
  rw [e3]
  constructor
  · intro h
    have hi := (List.getElem?_eq_some_iff.mp h).1
    exact ⟨hi, getD_at h⟩
  · rintro ⟨hi, h⟩
    rw [getD_some hi, h]
theorem rfind_end {l : List Nat} (h : 35 ∈ l) : ∃ r : Nat, Txt.rfind (S l) (S [35]) = (r : Int) ∧ r < l.length ∧ l.getD r 0 = 35 ∧ ∀ c, r < c → c < l.length → l.getD c 0 ≠ 35 := by
  obtain ⟨i, hi⟩ := List.mem_iff_getElem?.mp h
  have hil := (List.getElem?_eq_some_iff.mp hi).1
  rcases StrLaws.last_spec (S l) (S [35]) with ⟨_, z⟩ | ⟨r, e, a, m⟩
  · exact absurd (at_one.mpr ⟨hil, getD_at hi⟩) (z i)
  · obtain ⟨a1, a2⟩ := at_one.mp a
    refine ⟨r, ?_, a1, a2, fun c hc hl hd => m c hc (at_one.mpr ⟨hl, hd⟩)⟩
    unfold Txt.rfind
    rw [e]
theorem find_end {l : List Nat} (h : 35 ∈ l) : ∃ f : Nat, Txt.find (S l) (S [35]) = (f : Int) ∧ f < l.length ∧ l.getD f 0 = 35 ∧ ∀ c, c < f → l.getD c 0 ≠ 35 := by
  obtain ⟨i, hi⟩ := List.mem_iff_getElem?.mp h
  have hil := (List.getElem?_eq_some_iff.mp hi).1
  rcases StrLaws.occ_head (S l) (S [35]) 1 (Nat.le_refl _) with ⟨_, z⟩ | ⟨f, r, e, a, m⟩
  · exact absurd (at_one.mpr ⟨hil, getD_at hi⟩) (z i)
  · obtain ⟨a1, a2⟩ := at_one.mp a
    refine ⟨f, ?_, a1, a2, fun c hc hd => m c hc (at_one.mpr ⟨by omega, hd⟩)⟩
    unfold Txt.find
    rw [e]
end Dt
namespace Fl
/-! ### stretches as the program tells them -/
def cF (ns : List Nat) (least j : Nat) : Bool := decide (ns.getD j 0 - ns.getD (j - 1) 0 > least)
def cutsF (ns : List Nat) (least j n : Nat) : List Nat := (List.range' j n).filter (cF ns least)
def strG (ns : List Nat) (p : Nat × Nat) : Nat × Nat := (ns.getD p.1 0, ns.getD (p.2 - 1) 0 + 1)
theorem cutsF_succ (ns : List Nat) (least j n : Nat) : cutsF ns least j (n + 1) = cutsF ns least j n ++ if cF ns least (j + n) = true then [j + n] else [] := by
  unfold cutsF
  rw [List.range'_1_concat, List.filter_append, List.filter_cons, List.filter_nil]
theorem cutsF_mem {ns : List Nat} {least j n c : Nat} (h : c ∈ cutsF ns least j n) : j ≤ c ∧ c < j + n := by
  have := (List.mem_filter.mp h).1
  rw [List.mem_range'_1] at this
  exact this
theorem cutsF_len (ns : List Nat) (least j n : Nat) : (cutsF ns least j n).length ≤ n := by
  have := List.length_filter_le (cF ns least) (List.range' j n)
  rw [List.length_range'] at this
  exact this
theorem strR_zip (L : List Nat) (least : Nat) : ∀ (n i st : Nat), i + 1 + n = L.length →
    strR least (L.getD st 0) (L.getD i 0) (L.drop (i + 1)) = ((st :: cutsF L least (i + 1) n).zip (cutsF L least (i + 1) n ++ [L.length])).map (strG L)
  | 0, i, st, h => by
    have e : L.drop (i + 1) = [] := List.drop_eq_nil_of_le (by omega)
    rw [e]
    show [(L.getD st 0, L.getD i 0 + 1)] = [strG L (st, L.length)]
    unfold strG
    rw [show ((st, L.length) : Nat × Nat).2 - 1 = i by show L.length - 1 = i; omega]
  | n + 1, i, st, h => by
    have hl : i + 1 < L.length := by omega
    have e : L.drop (i + 1) = L.getD (i + 1) 0 :: L.drop (i + 2) := by
      rw [List.drop_eq_getElem_cons hl, List.getD_eq_getElem?_getD, List.getElem?_eq_getElem hl]
      rfl
    have ec : cutsF L least (i + 1) (n + 1) = if cF L least (i + 1) = true then (i + 1) :: cutsF L least (i + 2) n else cutsF L least (i + 2) n := by
      unfold cutsF
      rw [List.range'_succ, List.filter_cons]
    rw [e, strR, ec]
    by_cases hg : L.getD (i + 1) 0 - L.getD i 0 > least
    · have hc : cF L least (i + 1) = true := decide_eq_true (by rw [Nat.add_sub_cancel]; exact hg)
      rw [if_pos hg, if_pos hc, strR_zip L least n (i + 1) (i + 1) (by omega), List.cons_append, List.zip_cons_cons, List.map_cons]
      rfl
    · have hc : ¬ cF L least (i + 1) = true := fun z => hg (by
        have := of_decide_eq_true z
        rw [Nat.add_sub_cancel] at this
        exact this)
      rw [if_neg hg, if_neg hc, strR_zip L least n (i + 1) st (by omega)]
theorem stretch_zip {ns : List Nat} (least : Nat) (h : ns ≠ []) : stretch least ns = ((0 :: cutsF ns least 1 (ns.length - 1)).zip (cutsF ns least 1 (ns.length - 1) ++ [ns.length])).map (strG ns) := by
  cases ns with
  | nil => exact absurd rfl h
  | cons n r => exact strR_zip (n :: r) least r.length 0 0 (by rw [List.length_cons]; omega)
end Fl
namespace Dt
open PySem PySem.Spec PyProof.Rows L2 L2X
open SX (S)
open Fl
abbrev nI (ns : List Nat) : List V := ns.map fun n : Nat => V.int (n : Int)
def pI (p : Nat × Nat) : List Int := [(p.1 : Int), (p.2 : Int)]
abbrev sST : Stmt := topS 36
abbrev nST : List Str := ["numbers", "least", "cuts", "at", "start", "behind"]
theorem scST : FnScope nST ["numbers", "least"] (defScope sST) := ⟨rfl, rfl, rfl, by decide +kernel, rfl, by decide +kernel, by decide +kernel⟩
def spST (K : PySem.W.Frag) : Sp := fun vs H Q _ => ∃ (a : Addr) (ns : List Nat) (least : Nat), vs = [.ref a, .int least] ∧ H a = some (.lst (nI ns)) ∧ ns.length ≤ 120 ∧
  ∀ (l : Addr) (xs : List V) H', Same H H' → H l = none → H' l = some (.lst xs) → Tin K H' xs ((stretch least ns).map pI) → Q (.ref l) H'
theorem nI_at {ns : List Nat} {j : Nat} (h : j < ns.length) : (nI ns)[j]? = some (V.int ((ns.getD j 0 : Nat) : Int)) := by
  rw [List.getElem?_map, getD_some h]
  rfl
section
variable {P : Program} {w : World} {K : PySem.W.Frag} {mg : Str → Option Value} {base : Heap} {C CP : Addr}
theorem ok_st {f : Addr} {fd : FuncData} {k : Nat} (F : Fun K "_stretches" "_stretches" sST f fd) (T : Tx mg) (hz : mg "zip" = none) : FnOk P w K mg base CX0 (k + 1) f fd ["numbers", "least"] (spST K) := by
  refine F.ok scST (fun vs H Q E h => ?_) (fun cdv A outer s H vs Q E hr h => ?_)
  · obtain ⟨a, _, _, rfl, _⟩ := h
    rfl
  · obtain ⟨a, ns, least, rfl, ha, l1, q⟩ := h
    have nd := scST.nd
    refine ⟨_, pss_cons (ps_if (pt_not (pt_truth (pv 0) (fun _ => rfl))) (pss_one (ps_ret (pe_lst pa_nil))) pss_nil)
      (C8.pss_cut (ps_setLc (i := 2) (own := [("at", 3)]) (g := gName 3) (by rfl) nd rfl rfl (sw_true rfl rfl rfl (by decide +kernel)) (pi_range2 rfl T.range (pa_cons pe_int (pa_cons (pe_callB call_len_seq (by rfl) T.len PySem.boot_len (pa_cons (pv 0) pa_nil)) pa_nil))) (blkOk_by (N := nST) (sc := defScope sST) (by decide +kernel)) (fun _ _ _ _ _ => pg_name (i := 3) nd rfl (Or.inl rfl))
          (fun _ _ _ _ _ => pts_one (pt_cmpR op_gt (pe_op op_sub (pe_ix (r := rIxL K) ix_list (pv 0) (pv 3) (fun _ _ => rfl)) (pe_ix (r := rIxL K) ix_list (pv 0) (pe_op op_sub (pv 3) pe_int) (fun _ _ => rfl))) (pv 1) (nomark _))) (fun _ _ _ _ _ => pv 3))
      (pss_one (ps_ret (pe_lc (own := [("start", 4), ("behind", 5)]) (g := gTup K 2 (gCons (gName 4) (gCons (gName 5) gNil))) (tt := tYes) rfl nd (pi_zipG (by rfl) hz (pa_cons (pe_op op_cat (pe_lst (pa_cons pe_int pa_nil)) (pv 2)) (pa_cons (pe_op op_cat (pv 2) (pe_lst (pa_cons (pe_callB call_len_seq (by rfl) T.len PySem.boot_len (pa_cons (pv 0) pa_nil)) pa_nil))) pa_nil))) (blkOk_by (N := nST) (sc := defScope sST) (by decide +kernel))
          (fun _ _ _ _ _ => pg_tup rfl (pgs_cons (pg_name (i := 4) nd rfl (Or.inl rfl)) (pgs_cons (pg_name (i := 5) nd rfl (Or.inl rfl)) pgs_nil))) (fun _ _ _ _ _ => pts_nil)
          (fun _ _ _ _ _ => pe_tup (pa_cons (pe_ix (r := rIxL K) ix_list (pv 0) (pv 4) (fun _ _ => rfl)) (pa_cons (pe_op op_add (pe_ix (r := rIxL K) ix_list (pv 0) (pe_op op_sub (pv 5) pe_int) (fun _ _ => rfl)) pe_int) pa_nil))))))), ?_⟩
    by_cases hne : ns = []
    · subst hne
      exact ⟨.ref a, rfl, false, .inl ⟨[], SqL.of ha, rfl⟩, iteT ⟨by show 0 ≤ sizeLine; decide, fun D hD => q D [] _ (same_upd hD) hD upd_same Tin.nil⟩⟩
    have hpos : 0 < ns.length := List.length_pos_iff.mpr hne
    refine ⟨.ref a, rfl, true, .inl ⟨_, SqL.of ha, ?_⟩, iteF ?_⟩
    · cases ns with
      | nil => exact absurd rfl hne
      | cons _ _ => rfl
    have el : (nI ns).length = ns.length := List.length_map _
    refine ⟨fun σ' H' => ∃ C : Addr, σ' = [some (.ref a), some (.int least), some (.ref C), none, none, none] ∧ Same H H' ∧ H' C = some (.lst (nI (cutsF ns least 1 (ns.length - 1)))), ?_, ?_⟩
    · refine ⟨.ref a, rfl, a, _, rfl, .inl (SqL.of ha), 1, _, rfl, ⟨by omega, by omega, by omega, by omega⟩, ?_⟩
      rw [el, show ((ns.length : Int) - 1).toNat = ns.length - 1 by omega]
      refine fun D hD => lc_range (lo := 1) (n := ns.length - 1) (fun i H2 => Same H H2 ∧ H2 D = some (.lst (nI (cutsF ns least 1 i)))) ⟨same_upd hD, upd_same⟩ ?_ ?_
      · rintro i H2 hi ⟨sm, h2⟩
        have e1 : (1 : Int) + (i : Nat) = ((1 + i : Nat) : Int) := by omega
        have e2 : ((1 + i : Nat) : Int) - 1 = ((1 + i - 1 : Nat) : Int) := by omega
        rw [e1]
        have ha2 := SqL.of (K := K) (sm _ _ ha)
        refine ⟨rfl, .ref a, rfl, .int ((1 + i : Nat) : Int), rfl, a, _, _, _, rfl, rfl, ha2, atI_nat (nI_at (j := 1 + i) (by omega)), ?_⟩
        refine ⟨.ref a, rfl, .int ((1 + i : Nat) : Int), rfl, _, 1, rfl, rfl, a, _, _, _, rfl, rfl, ha2, by rw [e2]; exact atI_nat (nI_at (j := 1 + i - 1) (by omega)), ?_⟩
        refine ⟨_, _, rfl, rfl, .int least, rfl, _, _, rfl, rfl, _, rfl, ?_⟩
        have es := cutsF_succ ns least 1 i
        have eb : decide ((least : Int) < ((ns.getD (1 + i) 0 : Nat) : Int) - ((ns.getD (1 + i - 1) 0 : Nat) : Int)) = cF ns least (1 + i) := by
          unfold cF
          apply Bool.eq_iff_iff.mpr
          rw [decide_eq_true_iff, decide_eq_true_iff]
          omega
        rw [eb]
        cases ec : cF ns least (1 + i) with
        | true =>
          rw [ec, if_pos rfl] at es
          refine iteT ⟨.int ((1 + i : Nat) : Int), rfl, _, h2, ?_, same_over sm hD, ?_⟩
          · rw [List.length_map]
            have := cutsF_len ns least 1 i
            exact small1000 (by omega)
          · rw [upd_same, es]
            show _ = some (HO.lst (List.map _ _))
            rw [List.map_append]
            rfl
        | false =>
          rw [ec, if_neg (by decide), List.append_nil] at es
          refine iteF ⟨sm, ?_⟩
          rw [es]
          exact h2
      · rintro H2 ⟨sm, h2⟩
        exact ⟨D, rfl, sm, h2⟩
    rintro _ H1 ⟨C, rfl, s1, hC⟩
    have cl := cutsF_len ns least 1 (ns.length - 1)
    generalize ecs : cutsF ns least 1 (ns.length - 1) = cs at hC cl
    have ez := stretch_zip (ns := ns) least hne
    rw [ecs] at ez
    have hcs : ∀ c ∈ cs, 1 ≤ c ∧ c < ns.length := fun c hc => by
      rw [← ecs] at hc
      have := cutsF_mem hc
      omega
    refine ⟨by show 1 ≤ sizeLine; decide, fun z1 hz1 => ⟨.ref C, rfl, z1, C, _, _, rfl, rfl, upd_same, same_upd hz1 _ _ hC, ?_, fun z2 hz2 => ?_⟩⟩
    · rw [List.length_map]
      exact Nat.le_of_lt (small1000 (show [V.int 0].length + cs.length ≤ 1000 by show 1 + cs.length ≤ 1000; omega))
    have sA := (same_upd (o := .lst [V.int 0]) hz1).trans (same_upd (o := .lst ([V.int 0] ++ nI cs)) hz2)
    have h2z : (upd (upd H1 z1 (.lst [V.int 0])) z2 (.lst ([V.int 0] ++ nI cs))) z2 = some (.lst (nI (0 :: cs))) := upd_same
    generalize upd (upd H1 z1 (.lst [V.int 0])) z2 (.lst ([V.int 0] ++ nI cs)) = H2 at sA h2z
    refine ⟨.ref C, rfl, .ref a, rfl, a, _, rfl, .inl (SqL.of (sA _ _ (s1 _ _ ha))), by show 1 ≤ sizeLine; decide, fun z3 hz3 => ?_⟩
    rw [el]
    refine ⟨C, z3, _, _, rfl, rfl, same_upd hz3 _ _ (sA _ _ hC), upd_same, ?_, fun z4 hz4 => ?_⟩
    · rw [List.length_map]
      exact Nat.le_of_lt (small1000 (show cs.length + [V.int (ns.length : Int)].length ≤ 1000 by show cs.length + 1 ≤ 1000; omega))
    have sB := (same_upd (o := .lst [V.int (ns.length : Int)]) hz3).trans (same_upd (o := .lst (nI cs ++ [V.int (ns.length : Int)])) hz4)
    have h4z : (upd (upd H2 z3 (.lst [V.int (ns.length : Int)])) z4 (.lst (nI cs ++ [V.int (ns.length : Int)]))) z4 = some (.lst (nI (cs ++ [ns.length]))) := by
      rw [upd_same]
      show _ = some (HO.lst (List.map _ _))
      rw [List.map_append]
      rfl
    generalize upd (upd H2 z3 (.lst [V.int (ns.length : Int)])) z4 (.lst (nI cs ++ [V.int (ns.length : Int)])) = H3 at sB h4z
    have h2z3 := sB _ _ h2z
    have s13 := (s1.trans sA).trans sB
    have ha3 := s13 _ _ ha
    have lz : (List.zip (0 :: cs) (cs ++ [ns.length])).length = cs.length + 1 := by
      rw [List.length_zip, List.length_append, List.length_cons]
      simp
    refine ⟨.lst z2, .lst z4, _, _, rfl, SqL.of h2z3, SqL.of h4z, fun D hD => lc_zipG (K := K) (A := .lst z2) (B := .lst z4) (xs := nI (0 :: cs)) (ys := nI (cs ++ [ns.length])) (by simp) (fun i H4 => ∃ xs, Same H3 H4 ∧ H4 D = some (.lst xs) ∧ xs.length ≤ i ∧ Tin K H4 xs (((stretch least ns).take i).map pI)) ?_ ?_ ?_ ?_⟩
    · exact ⟨[], same_upd hD, upd_same, Nat.le_refl _, Tin.nil⟩
    · rintro i H4 _ ⟨xs, sm, _⟩
      exact ⟨SqL.of (sm _ _ h2z3), SqL.of (sm _ _ h4z)⟩
    · rintro i x y H4 TT hx hy ⟨xs, sm, h4, lx, tn⟩ nT
      obtain ⟨sa, hsa, rfl⟩ := map_at2 hx
      obtain ⟨be, hbe, rfl⟩ := map_at2 hy
      have hil : i < cs.length + 1 := (List.getElem?_eq_some_iff.mp hsa).1
      have hA : sa < ns.length := by
        rcases List.mem_cons.mp (List.mem_of_getElem? hsa) with e | e
        · omega
        · exact (hcs _ e).2
      have hB : 1 ≤ be ∧ be ≤ ns.length := by
        rcases List.mem_append.mp (List.mem_of_getElem? hbe) with e | e
        · have := hcs _ e
          omega
        · rw [List.mem_singleton.mp e]
          omega
      have sT := same_upd (o := .tup [V.int (sa : Int), V.int (be : Int)]) nT
      have ei : (stretch least ns)[i]? = some (strG ns (sa, be)) := by
        rw [ez, List.getElem?_map, (List.getElem?_zip_eq_some (z := (sa, be))).mpr ⟨hsa, hbe⟩]
        rfl
      have ha4 := SqL.of (K := K) (sT _ _ (sm _ _ ha3))
      have eb : (be : Int) - 1 = ((be - 1 : Nat) : Int) := by omega
      refine ⟨TT, _, rfl, SqT.of upd_same, rfl, _, _, rfl, _, _, rfl, rfl, rfl, ?_⟩
      refine ⟨.ref a, rfl, .int sa, rfl, a, _, _, _, rfl, rfl, ha4, atI_nat (nI_at hA), .ref a, rfl, .int be, rfl, _, 1, rfl, rfl, a, _, _, _, rfl, rfl, ha4, by rw [eb]; exact atI_nat (nI_at (j := be - 1) (by omega)), _, 1, rfl, rfl, by show 2 ≤ sizeLine; decide, fun t ht => ?_⟩
      have h4' := sT _ _ h4
      have st := same_upd (o := .tup [V.int ((ns.getD sa 0 : Nat) : Int), V.int (((ns.getD (be - 1) 0 : Nat) : Int) + 1)]) ht
      refine ⟨xs, st _ _ h4', small1000 (by omega), xs ++ [.ref t], same_over (sm.trans (sT.trans st)) hD, upd_same, by rw [List.length_append]; exact Nat.add_le_add_right lx 1, ?_⟩
      rw [take_snoc ei, List.map_append]
      refine Tin.add ((tn.same (sT.trans st)).updl (st _ _ h4')) ?_
      rw [upd_ne (ne_of_none h4' ht).symm, upd_same]
      rfl
    · rintro H4 ⟨xs, sm, h4, lx, tn⟩
      have e : (stretch least ns).take (nI (0 :: cs)).length = stretch least ns := List.take_of_length_le (by rw [ez, List.length_map, lz, List.length_map]; exact Nat.le_refl _)
      rw [e] at tn
      exact q D xs H4 (s13.trans sm) (s13.free hD) h4 tn
end
end Dt
namespace Dt
open PySem PySem.Spec PyProof.Rows L2 L2X
open SX (S)
open Fl
/-- the dots of rows -/
def DR (rs : List (List Nat)) : Dots := fun r c => decide ((rs.getD r []).getD c 0 = 35)
theorem DR_iff {rs : List (List Nat)} {r c : Nat} : DR rs r c = true ↔ (rs.getD r []).getD c 0 = 35 := decide_eq_true_iff
theorem getDl {rs : List (List Nat)} {r : Nat} (h : r < rs.length) : rs.getD r [] = rs[r] := by
  rw [List.getD_eq_getElem?_getD, List.getElem?_eq_getElem h]
  rfl
theorem RowsR.at_len {high wide : Nat} {rs : List (List Nat)} (R : RowsR high wide rs) {r : Nat} (h : r < high) : (rs.getD r []).length = wide := by
  have hr : r < rs.length := by rw [R.len]; exact h
  rw [getDl hr]
  exact (R.row _ (List.getElem_mem hr)).len
theorem getD_out {l : List Nat} {c : Nat} (h : l.length ≤ c) : l.getD c 0 = 0 := by
  rw [List.getD_eq_getElem?_getD, List.getElem?_eq_none h]
  rfl
theorem DR_in {high wide : Nat} {rs : List (List Nat)} (R : RowsR high wide rs) {r c : Nat} (h : DR rs r c = true) : r < high ∧ c < wide := by
  have h' := DR_iff.mp h
  by_cases hr : r < high
  · refine ⟨hr, ?_⟩
    by_cases hc : c < wide
    · exact hc
    · rw [getD_out (by rw [R.at_len hr]; omega)] at h'
      cases h'
  · have e : rs.getD r [] = [] := by
      rw [List.getD_eq_getElem?_getD, List.getElem?_eq_none (by rw [R.len]; omega)]
      rfl
    rw [e, getD_out (by show 0 ≤ c; omega)] at h'
    cases h'
theorem cols_at {w : Nat} {rs : List (List Nat)} {c : Nat} (h : c < w) : (colsW w rs).getD c [] = rs.map fun l => l.getD c 0 := by
  unfold colsW
  rw [List.getD_eq_getElem?_getD, List.getElem?_map, List.getElem?_range h]
  rfl
theorem DR_cols {high wide : Nat} {rs : List (List Nat)} (R : RowsR high wide rs) : DR (colsW wide rs) = tr (DR rs) := by
  funext c r
  apply Bool.eq_iff_iff.mpr
  show DR (colsW wide rs) c r = true ↔ DR rs r c = true
  constructor
  · intro h
    have h' := DR_iff.mp h
    by_cases hc : c < wide
    · rw [cols_at hc] at h'
      by_cases hr : r < rs.length
      · rw [DR_iff, getDl hr]
        rw [List.getD_eq_getElem?_getD, List.getElem?_map, List.getElem?_eq_getElem hr] at h'
        exact h'
      · rw [getD_out (by rw [List.length_map]; omega)] at h'
        cases h'
    · have e : (colsW wide rs).getD c [] = [] := by
        rw [List.getD_eq_getElem?_getD, List.getElem?_eq_none (by unfold colsW; rw [List.length_map, List.length_range]; omega)]
        rfl
      rw [e, getD_out (by show 0 ≤ r; omega)] at h'
      cases h'
  · intro h
    obtain ⟨hr, hc⟩ := DR_in R h
    have hr' : r < rs.length := by rw [R.len]; exact hr
    have h' := DR_iff.mp h
    rw [DR_iff, cols_at hc, List.getD_eq_getElem?_getD, List.getElem?_map, List.getElem?_eq_getElem hr']
    rw [getDl hr'] at h'
    exact h'
theorem BigR.cols {high wide : Nat} {rs : List (List Nat)} (b : BigR high wide rs) : BigR wide high (colsW wide rs) := by
  refine ⟨⟨?_, fun l hl => ?_⟩, b.w0, b.w1, b.h0, b.h1⟩
  · unfold colsW
    rw [List.length_map, List.length_range]
  · unfold colsW at hl
    obtain ⟨c, hc, rfl⟩ := List.mem_map.mp hl
    have hc' := List.mem_range.mp hc
    refine ⟨by rw [List.length_map, b.r.len], fun x hx => ?_⟩
    obtain ⟨m, hm, rfl⟩ := List.mem_map.mp hx
    have rm := b.r.row m hm
    exact rm.sg _ (getD_mem (by rw [rm.len]; exact hc'))
/-! ### parts of rows -/
theorem cutR_at {rs : List (List Nat)} {t l h w k : Nat} (ht : t + h ≤ rs.length) (hk : k < h) : (cutR rs t l h w)[k]? = some (((rs.getD (t + k) []).drop l).take w) := by
  unfold cutR
  rw [List.getElem?_map, List.getElem?_take, if_pos hk, List.getElem?_drop, List.getElem?_eq_getElem (show t + k < rs.length by omega), getDl (show t + k < rs.length by omega)]
  rfl
theorem cutR_len {rs : List (List Nat)} {t l h w : Nat} (ht : t + h ≤ rs.length) : (cutR rs t l h w).length = h := by
  unfold cutR
  rw [List.length_map, List.length_take, List.length_drop]
  omega
theorem cutR_mem {rs : List (List Nat)} {t l h w : Nat} {q : List Nat} (ht : t + h ≤ rs.length) : q ∈ cutR rs t l h w ↔ ∃ k, k < h ∧ q = ((rs.getD (t + k) []).drop l).take w := by
  constructor
  · intro hq
    obtain ⟨k, hk⟩ := List.mem_iff_getElem?.mp hq
    have hl := (List.getElem?_eq_some_iff.mp hk).1
    rw [cutR_len ht] at hl
    rw [cutR_at ht hl] at hk
    exact ⟨k, hl, (Option.some.inj hk).symm⟩
  · rintro ⟨k, hk, rfl⟩
    exact List.mem_of_getElem? (cutR_at ht hk)
theorem cutR_part {rs : List (List Nat)} {t l h w s n : Nat} (h1 : s + n ≤ h) : ((cutR rs t l h w).drop s).take n = cutR rs (t + s) l n w := by
  unfold cutR
  rw [← List.map_drop, ← List.map_take, List.drop_take, List.take_take, List.drop_drop, Nat.min_eq_left (by omega)]
theorem sub_at {x : List Nat} {l w j : Nat} (h : j < w) : ((x.drop l).take w).getD j 0 = x.getD (l + j) 0 := by
  rw [List.getD_eq_getElem?_getD, List.getD_eq_getElem?_getD, List.getElem?_take, if_pos h, List.getElem?_drop]
theorem mem_getD {l : List Nat} : 35 ∈ l ↔ ∃ j, l.getD j 0 = 35 := by
  constructor
  · intro h
    obtain ⟨j, hj⟩ := List.mem_iff_getElem?.mp h
    exact ⟨j, getD_at hj⟩
  · rintro ⟨j, hj⟩
    by_cases h : j < l.length
    · rw [← hj]
      exact getD_mem h
    · rw [getD_out (by omega)] at hj
      cases hj
theorem sub_in {x : List Nat} {l w j : Nat} (h : ((x.drop l).take w).getD j 0 = 35) : j < w := by
  by_cases hj : j < w
  · exact hj
  · rw [getD_out (by rw [List.length_take]; omega)] at h
    cases h
theorem row_has {rs : List (List Nat)} {l w r : Nat} : rowHas (DR rs) l w r = decide (35 ∈ ((rs.getD r []).drop l).take w) := by
  apply Bool.eq_iff_iff.mpr
  rw [rowHas_iff, decide_eq_true_iff, mem_getD]
  constructor
  · rintro ⟨c, h1, h2, h3⟩
    refine ⟨c - l, ?_⟩
    rw [sub_at (by omega), show l + (c - l) = c by omega]
    exact DR_iff.mp h3
  · rintro ⟨j, hj⟩
    have hw := sub_in hj
    rw [sub_at hw] at hj
    exact ⟨l + j, by omega, by omega, DR_iff.mpr hj⟩
/-- first and last column that has a dot -/
structure FL (qs : List (List Nat)) (f r : Nat) : Prop where
  fe : ∃ q ∈ qs, q.getD f 0 = 35
  fm : ∀ q ∈ qs, ∀ c, q.getD c 0 = 35 → f ≤ c
  re : ∃ q ∈ qs, q.getD r 0 = 35
  rm : ∀ q ∈ qs, ∀ c, q.getD c 0 = 35 → c ≤ r
theorem mem_trdr {rs : List (List Nat)} {t l n w m : Nat} (ht : t + n ≤ rs.length) : m ∈ dr (tr (DR rs)) l t w n ↔ ∃ q ∈ cutR rs t l n w, q.getD m 0 = 35 := by
  rw [mem_dr]
  constructor
  · rintro ⟨h1, c, h2, h3, h4⟩
    have h4' := DR_iff.mp (show DR rs c (l + m) = true from h4)
    refine ⟨_, (cutR_mem ht).mpr ⟨c - t, by omega, rfl⟩, ?_⟩
    rw [show t + (c - t) = c by omega, sub_at h1]
    exact h4'
  · rintro ⟨q, hq, h⟩
    obtain ⟨k, hk, rfl⟩ := (cutR_mem ht).mp hq
    have hw := sub_in h
    rw [sub_at hw] at h
    exact ⟨hw, t + k, by omega, by omega, DR_iff.mpr h⟩
theorem FL.head {rs : List (List Nat)} {t l n w f r : Nat} (ht : t + n ≤ rs.length) (F : FL (cutR rs t l n w) f r) : (dr (tr (DR rs)) l t w n).headD 0 = f ∧ (dr (tr (DR rs)) l t w n).getLastD 0 = r := by
  have srt := dr_sorted (tr (DR rs)) l t w n
  have mf := (mem_trdr ht).mpr F.fe
  have mr := (mem_trdr ht).mpr F.re
  have ne : dr (tr (DR rs)) l t w n ≠ [] := by
    intro z
    rw [z] at mf
    cases mf
  obtain ⟨q1, hq1, e1⟩ := (mem_trdr ht).mp (head_mem ne)
  obtain ⟨q2, hq2, e2⟩ := (mem_trdr ht).mp (last_mem ne)
  have a1 := F.fm _ hq1 _ e1
  have a2 := head_le srt _ mf
  have a3 := F.rm _ hq2 _ e2
  have a4 := le_last srt _ mr
  omega
theorem cut_V (xs : List V) (s e : Nat) (h1 : s ≤ e) (h2 : e ≤ xs.length) : cutV xs (some (s : Int)) (some (e : Int)) = (xs.drop s).take (e - s) := by
  unfold cutV
  rw [HT.sIx_nat, HT.sIx_nat, Nat.min_eq_left h2, Nat.min_eq_left (by omega)]
/-! ### boxes as data -/
def bI (b : Bx) : List Int := [(b.t : Int), (b.l : Int), (b.h : Int), (b.w : Int)]
theorem bI_inj {a b : Bx} (h : bI a = bI b) : a = b := by
  cases a
  cases b
  simp only [bI, List.cons.injEq, Int.ofNat_inj] at h
  obtain ⟨rfl, rfl, rfl, rfl, _⟩ := h
  rfl
theorem eqv_bI (a b : Bx) : PyData.eqv (iD (bI a)) (iD (bI b)) = decide (a = b) := by
  apply Bool.eq_iff_iff.mpr
  rw [decide_eq_true_iff]
  constructor
  · intro h
    cases a
    cases b
    simp [iD, bI, PyData.eqv, PyData.eqvAll] at h
    obtain ⟨h1, h2, h3, h4⟩ := h
    simp only [Bx.mk.injEq]
    omega
  · rintro rfl
    unfold iD
    rw [PyData.eqv, eqv_ints]
theorem eqv_bs : ∀ a b : List Bx, PyData.eqvAll ((a.map bI).map iD) ((b.map bI).map iD) = decide (a = b)
  | [], [] => by simp [PyData.eqvAll]
  | [], b :: bs => by simp [PyData.eqvAll]
  | a :: as, [] => by simp [PyData.eqvAll]
  | a :: as, b :: bs => by
    rw [List.map_cons, List.map_cons, List.map_cons, List.map_cons, PyData.eqvAll, eqv_bI, eqv_bs as bs]
    apply Bool.eq_iff_iff.mpr
    rw [Bool.and_eq_true, decide_eq_true_iff, decide_eq_true_iff, decide_eq_true_iff]
    constructor
    · rintro ⟨rfl, rfl⟩
      rfl
    · intro h
      exact ⟨(List.cons.inj h).1, (List.cons.inj h).2⟩
theorem ne_bs (a b : List Bx) : (!PyData.eqv (.list ((a.map bI).map iD)) (.list ((b.map bI).map iD))) = !decide (a = b) := by
  rw [PyData.eqv, eqv_bs]
end Dt
namespace Fl
theorem dim_len : ∀ {bs : List Bx}, Dim bs → bs.length ≤ areas bs
  | [], _ => Nat.zero_le _
  | b :: bs, h => by
    obtain ⟨h1, h2⟩ := h b List.mem_cons_self
    have ih := dim_len (bs := bs) fun c hc => h c (List.mem_cons_of_mem _ hc)
    have e : areas (b :: bs) = b.area + areas bs := rfl
    have : 1 * 1 ≤ b.area := Nat.mul_le_mul h1 h2
    rw [e, List.length_cons]
    omega
theorem whole_dim {H W : Nat} (h : 1 ≤ H) (w : 1 ≤ W) : Dim [whole H W] := fun b hb => by
  rw [List.mem_singleton.mp hb]
  exact ⟨h, w⟩
theorem whole_areas (H W : Nat) : areas [whole H W] = H * W := by
  show H * W + 0 = _
  rfl
theorem parted_len (D : Dots) (least : Nat) (b : Bx) : (parted D least b).length ≤ b.h := by
  have key : ∀ (ns : List Nat) (s p : Nat), (strR least s p ns).length ≤ ns.length + 1 := by
    intro ns
    induction ns with
    | nil => intro s p; exact Nat.le_refl _
    | cons n ns ih =>
      intro s p
      rw [strR]
      split
      · rw [List.length_cons, List.length_cons]
        have := ih n n
        omega
      · have := ih s n
        rw [List.length_cons]
        omega
  have h2 : ∀ ns : List Nat, (stretch least ns).length ≤ ns.length := fun ns => by
    cases ns with
    | nil => exact Nat.le_refl _
    | cons n ns => exact key ns n n
  unfold parted
  rw [List.length_map]
  refine Nat.le_trans (h2 _) ?_
  unfold dr
  have := List.length_filter_le (fun i => rowHas D b.l b.w (b.t + i)) (List.range b.h)
  rw [List.length_range] at this
  exact this
end Fl
namespace Dt
open PySem PySem.Spec PyProof.Rows L2 L2X
open SX (S)
open Fl
abbrev sDC : Stmt := topS 37
abbrev nDC : List Str := ["rows", "dotted", "row"]
theorem scDC : FnScope nDC ["rows"] (defScope sDC) := ⟨rfl, rfl, rfl, by decide +kernel, rfl, by decide +kernel, by decide +kernel⟩
def spDC (K : PySem.W.Frag) : Sp := fun vs H Q _ => ∃ (sb : Bool) (a : Addr) (qs : List (List Nat)), vs = [.ref a] ∧ Sq K H sb a (qs.map rv) ∧ qs.length ≤ 120 ∧ (∃ q ∈ qs, 35 ∈ q) ∧
  ∀ (p : Addr) (f r : Nat) H', Same H H' → FL qs f r → H' p = some (.tup [.int f, .int r]) → Q (.ref p) H'
abbrev sFP : Stmt := topS 34
abbrev nFP : List Str := ["box", "top", "left", "high", "wide"]
theorem scFP : FnScope nFP ["box"] (defScope sFP) := ⟨rfl, rfl, rfl, by decide +kernel, rfl, by decide +kernel, by decide +kernel⟩
def spFP : Sp := fun vs H Q _ => ∃ (t : Addr) (b : Bx), vs = [.ref t] ∧ H t = some (.tup ((bI b).map V.int)) ∧
  ∀ p H', Same H H' → H p = none → H' p = some (.tup ((bI b.flip).map V.int)) → Q (.ref p) H'
abbrev sPT : Stmt := topS 35
abbrev nPT : List Str := ["page", "box", "least", "top", "left", "high", "wide", "rows", "row", "parts", "start", "behind", "at", "first", "last"]
theorem scPT : FnScope nPT ["page", "box", "least"] (defScope sPT) := ⟨rfl, rfl, rfl, by decide +kernel, rfl, by decide +kernel, by decide +kernel⟩
/-- a page, a list (true) or a tuple (false) of its rows -/
def pgO (pg : Bool) (xs : List V) : HO := match pg with
  | true => .lst xs
  | false => .tup xs
def spPT (K : PySem.W.Frag) : Sp := fun vs H Q _ => ∃ (pg : Bool) (a t : Addr) (high wide : Nat) (rs : List (List Nat)) (b : Bx) (least : Nat), vs = [.ref a, .ref t, .int least] ∧ H a = some (pgO pg (rs.map rv)) ∧ BigR high wide rs ∧ H t = some (.tup ((bI b).map V.int)) ∧
  b.t + b.h ≤ high ∧ b.l + b.w ≤ wide ∧ ∀ l xs H', Same H H' → H l = none → H' l = some (.lst xs) → Tin K H' xs ((parted (DR rs) least b).map bI) → Q (.ref l) H'
theorem getD35 {l : List Nat} {c : Nat} (h : l.getD c 0 = 35) : c < l.length := by
  by_cases hc : c < l.length
  · exact hc
  · rw [getD_out (by omega)] at h
    cases h
section
variable {P : Program} {w : World} {K : PySem.W.Frag} {mg : Str → Option Value} {base : Heap} {C CP : Addr}
theorem ok_dc {f : Addr} {fd : FuncData} {k : Nat} (F : Fun K "_dotted_columns" "_dotted_columns" sDC f fd) (mi : mg "min" = none) (mx : mg "max" = none) : FnOk P w K mg base CX0 (k + 1) f fd ["rows"] (spDC K) := by
  refine F.ok scDC (fun vs H Q E h => ?_) (fun cdv A outer s H vs Q E hr h => ?_)
  · obtain ⟨_, a, _, rfl, _⟩ := h
    rfl
  · obtain ⟨sb, a, qs, rfl, ha, ql, qd, q⟩ := h
    have nd := scDC.nd
    refine ⟨_, C8.pss_cut (ps_setLc (i := 1) (own := [("row", 2)]) (g := gName 2) (by rfl) nd rfl rfl (sw_true rfl rfl rfl (by decide +kernel)) (pi_sq (pv 0)) (blkOk_by (N := nDC) (sc := defScope sDC) (by decide +kernel)) (fun _ _ _ _ _ => pg_name (i := 2) nd rfl (Or.inl rfl)) (fun _ _ _ _ _ => pts_one (pt_cmpR op_in_sign pe_str (pv 2) (by with_unfolding_all rfl))) (fun _ _ _ _ _ => pv 2))
      (pss_one (ps_ret (pe_tup (pa_cons (pe_callB (cr_min rfl) (by rfl) mi (by decide +kernel) (pa_cons (pe_lc (own := [("row", 2)]) (g := gName 2) (tt := tYes) rfl nd (pi_list (pv 1)) (blkOk_by (N := nDC) (sc := defScope sDC) (by decide +kernel)) (fun _ _ _ _ _ => pg_name (i := 2) nd rfl (Or.inl rfl)) (fun _ _ _ _ _ => pts_nil) (fun _ _ _ _ _ => pe_m1 PySem.F.slot_str_find PySem.F.type_str_find mt_find (pv 2) pe_str)) pa_nil))
        (pa_cons (pe_callB (cr_max rfl) (by rfl) mx (by decide +kernel) (pa_cons (pe_lc (own := [("row", 2)]) (g := gName 2) (tt := tYes) rfl nd (pi_list (pv 1)) (blkOk_by (N := nDC) (sc := defScope sDC) (by decide +kernel)) (fun _ _ _ _ _ => pg_name (i := 2) nd rfl (Or.inl rfl)) (fun _ _ _ _ _ => pts_nil) (fun _ _ _ _ _ => pe_m1 PySem.F.slot_str_rfind PySem.F.type_str_rfind mt_rfind (pv 2) pe_str)) pa_nil)) pa_nil))))), ?_⟩
    refine ⟨fun σ' H' => ∃ D : Addr, σ' = [some (.ref a), some (.ref D), none] ∧ Same H H' ∧ H' D = some (.lst ((qs.filter fun q => decide (35 ∈ q)).map rv)), ?_, ?_⟩
    · refine ⟨.ref a, rfl, sb, a, _, rfl, ha, fun D hD => lc_sq (K := K) (b := sb) (a := a) (xs := qs.map rv) (fun i H2 => Same H H2 ∧ H2 D = some (.lst (((qs.take i).filter fun q => decide (35 ∈ q)).map rv))) ⟨same_upd hD, upd_same⟩ (fun i H2 _ z => Sq.same ha z.1) ?_ ?_⟩
      · rintro i x H2 hi ⟨sm, h2⟩
        obtain ⟨l, hl, rfl⟩ := map_at2 hi
        have hil : i < qs.length := (List.getElem?_eq_some_iff.mp hl).1
        have e0 : (S l).cps.toList = l := by simp [S]
        refine ⟨rfl, rv l, rfl, 35, S l, congrArg V.str s_hash, rfl, _, rfl, ?_⟩
        rw [e0]
        rw [take_snoc hl, List.filter_append, List.filter_cons, List.filter_nil]
        by_cases hm : 35 ∈ l
        · rw [decide_eq_true hm, if_pos rfl]
          refine iteT ⟨rv l, rfl, _, h2, ?_, same_over sm hD, ?_⟩
          · rw [List.length_map]
            have := List.length_filter_le (fun q : List Nat => decide (35 ∈ q)) (qs.take i)
            rw [List.length_take] at this
            exact small1000 (by omega)
          · rw [upd_same, List.map_append]
            rfl
        · rw [decide_eq_false hm, if_neg (by decide), List.append_nil]
          exact iteF ⟨sm, h2⟩
      · rintro H2 ⟨sm, h2⟩
        rw [List.length_map, List.take_length] at h2
        exact ⟨D, rfl, sm, h2⟩
    rintro _ H1 ⟨D, rfl, s1, hD⟩
    generalize eds : (qs.filter fun q => decide (35 ∈ q)) = ds at hD
    have dm : ∀ q, q ∈ ds ↔ q ∈ qs ∧ 35 ∈ q := fun q => by rw [← eds, List.mem_filter, decide_eq_true_iff]
    have dl : ds.length ≤ 120 := by
      rw [← eds]
      exact Nat.le_trans (List.length_filter_le _ _) ql
    have dpos : 0 < ds.length := by
      obtain ⟨q0, h1, h2⟩ := qd
      exact List.length_pos_of_mem ((dm q0).mpr ⟨h1, h2⟩)
    refine ⟨.ref D, rfl, D, rfl, ⟨_, SqL.of hD⟩, fun E1 hE1 => lc_list (K := K) (a := D) (xs := ds.map rv) (fun i H2 => Same H1 H2 ∧ H2 E1 = some (.lst (((ds.take i).map fun q => Txt.find (S q) (S [35])).map V.int))) ⟨same_upd hE1, upd_same⟩ (fun i H2 _ z => SqL.of (z.1 _ _ hD)) ?_ ?_⟩
    · rintro i x H2 hi ⟨sm, h2⟩
      obtain ⟨l, hl, rfl⟩ := map_at2 hi
      have hil : i < ds.length := (List.getElem?_eq_some_iff.mp hl).1
      refine ⟨rfl, rv l, rfl, ⟨_, rfl⟩, S l, "#", rfl, rfl, ?_⟩
      rw [s_hash]
      refine ⟨_, h2, ?_, same_over sm hE1, ?_⟩
      · rw [List.length_map, List.length_map, List.length_take]
        exact small1000 (by omega)
      · rw [upd_same, take_snoc hl, List.map_append, List.map_append]
        rfl
    rintro H2 ⟨s2, h2⟩
    rw [List.length_map, List.take_length] at h2
    refine ⟨E1, _, rfl, SqL.of h2, by rw [List.length_map]; exact dpos, fun m mm mle => ?_⟩
    have hD2 := s2 _ _ hD
    refine ⟨.ref D, rfl, D, rfl, ⟨_, SqL.of hD2⟩, fun E2 hE2 => lc_list (K := K) (a := D) (xs := ds.map rv) (fun i H3 => Same H2 H3 ∧ H3 E2 = some (.lst (((ds.take i).map fun q => Txt.rfind (S q) (S [35])).map V.int))) ⟨same_upd hE2, upd_same⟩ (fun i H3 _ z => SqL.of (z.1 _ _ hD2)) ?_ ?_⟩
    · rintro i x H3 hi ⟨sm, h3⟩
      obtain ⟨l, hl, rfl⟩ := map_at2 hi
      have hil : i < ds.length := (List.getElem?_eq_some_iff.mp hl).1
      refine ⟨rfl, rv l, rfl, ⟨_, rfl⟩, S l, "#", rfl, rfl, ?_⟩
      rw [s_hash]
      refine ⟨_, h3, ?_, same_over sm hE2, ?_⟩
      · rw [List.length_map, List.length_map, List.length_take]
        exact small1000 (by omega)
      · rw [upd_same, take_snoc hl, List.map_append, List.map_append]
        rfl
    rintro H3 ⟨s3, h3⟩
    rw [List.length_map, List.take_length] at h3
    refine ⟨E2, _, rfl, SqL.of h3, by rw [List.length_map]; exact dpos, fun n nm nle => ?_⟩
    refine ⟨by show 2 ≤ sizeLine; decide, fun p hp => ?_⟩
    obtain ⟨qa, qam, ea⟩ := List.mem_map.mp mm
    obtain ⟨qb, qbm, eb⟩ := List.mem_map.mp nm
    obtain ⟨f0, hf, f1, f2, f3⟩ := find_end ((dm qa).mp qam).2
    obtain ⟨r0, hr0, r1, r2, r3⟩ := rfind_end ((dm qb).mp qbm).2
    rw [hf] at ea
    rw [hr0] at eb
    subst ea
    subst eb
    refine q p f0 r0 _ (((s1.trans s2).trans s3).trans (same_upd hp)) ⟨⟨qa, ((dm qa).mp qam).1, f2⟩, fun x hx c hc => ?_, ⟨qb, ((dm qb).mp qbm).1, r2⟩, fun x hx c hc => ?_⟩ upd_same
    · have hx' := (dm x).mpr ⟨hx, mem_getD.mpr ⟨c, hc⟩⟩
      obtain ⟨f', e1, e2, e3, e4⟩ := find_end (mem_getD.mpr ⟨c, hc⟩)
      have h5 := mle _ (List.mem_map.mpr ⟨x, hx', e1⟩)
      have h6 : ¬ c < f' := fun z => e4 c z hc
      omega
    · have hx' := (dm x).mpr ⟨hx, mem_getD.mpr ⟨c, hc⟩⟩
      obtain ⟨f', e1, e2, e3, e4⟩ := rfind_end (mem_getD.mpr ⟨c, hc⟩)
      have h5 := nle _ (List.mem_map.mpr ⟨x, hx', e1⟩)
      have h6 : ¬ f' < c := fun z => e4 c z (getD35 hc) hc
      omega
theorem ok_fp {f : Addr} {fd : FuncData} {k : Nat} (F : Fun K "_flipped" "_flipped" sFP f fd) : FnOk P w K mg base CX0 (k + 1) f fd ["box"] spFP := by
  refine F.ok scFP (fun vs H Q E h => ?_) (fun cdv A outer s H vs Q E hr h => ?_)
  · obtain ⟨t, _, rfl, _⟩ := h
    rfl
  · obtain ⟨t, b, rfl, ht, q⟩ := h
    have nd := scFP.nd
    refine ⟨_, pss_cons (ps_asg (pv 0) (pg_tup rfl (pgs_cons (pg_name (i := 1) nd rfl (Or.inl rfl)) (pgs_cons (pg_name (i := 2) nd rfl (Or.inl rfl)) (pgs_cons (pg_name (i := 3) nd rfl (Or.inl rfl)) (pgs_cons (pg_name (i := 4) nd rfl (Or.inl rfl)) pgs_nil))))))
      (pss_one (ps_ret (pe_tup (pa_cons (pv 2) (pa_cons (pv 1) (pa_cons (pv 4) (pa_cons (pv 3) pa_nil))))))), ?_⟩
    refine ⟨.ref t, rfl, t, _, rfl, SqT.of ht, rfl, _, _, rfl, _, _, rfl, _, _, rfl, _, _, rfl, rfl, ?_⟩
    refine ⟨.int b.l, rfl, .int b.t, rfl, .int b.w, rfl, .int b.h, rfl, by show 4 ≤ sizeLine; decide, fun p hp => q p _ (same_upd hp) hp upd_same⟩
end
end Dt
namespace Dt
open PySem PySem.Spec PyProof.Rows L2 L2X
open SX (S)
open Fl
section
variable {P : Program} {w : World} {K : PySem.W.Frag} {mg : Str → Option Value} {base : Heap} {C CP : Addr}
theorem ok_pt {f : Addr} {fd : FuncData} {k : Nat} (F : Fun K "_parted" "_parted" sPT f fd) (T : Tx mg) (en : mg "enumerate" = none) (GS : Pm P w K mg base CX0 (k + 1) "_stretches" ["numbers", "least"] (spST K)) (GD : Pm P w K mg base CX0 (k + 1) "_dotted_columns" ["rows"] (spDC K)) :
    FnOk P w K mg base CX0 (k + 2) f fd ["page", "box", "least"] (spPT K) := by
  obtain ⟨fS, fdS, GS, mS, kS, bS⟩ := GS.ex
  obtain ⟨fD, fdD, GD, mD, kD, bD⟩ := GD.ex
  refine F.ok scPT (fun vs H Q E h => ?_) (fun cdv A outer s H vs Q E hr h => ?_)
  · obtain ⟨_, a, t, _, _, _, _, _, rfl, _⟩ := h
    rfl
  · obtain ⟨pg, a, t, high, wide, rs, b, least, rfl, ha, br, ht, bh, bw, q⟩ := h
    have nd := scPT.nd
    refine ⟨_, pss_cons (ps_asg (pv 1) (pg_tup rfl (pgs_cons (pg_name (i := 3) nd rfl (Or.inl rfl)) (pgs_cons (pg_name (i := 4) nd rfl (Or.inr rfl)) (pgs_cons (pg_name (i := 5) nd rfl (Or.inl rfl)) (pgs_cons (pg_name (i := 6) nd rfl (Or.inr rfl)) pgs_nil))))))
      (C8.pss_cut (ps_setLc (i := 7) (own := [("row", 8)]) (g := gName 8) (tt := tYes) (by rfl) nd rfl rfl (sw_true rfl rfl rfl (by decide +kernel)) (L2X.PI.or (pi_list (pe_slice sl_list (pv 0) (po_some (pv 3)) (po_some (pe_op op_add (pv 3) (pv 5))))) (pi_tup (pe_slice sl_tupA (pv 0) (po_some (pv 3)) (po_some (pe_op op_add (pv 3) (pv 5)))))) (blkOk_by (N := nPT) (sc := defScope sPT) (by decide +kernel)) (fun _ _ _ _ _ => pg_name (i := 8) nd rfl (Or.inl rfl)) (fun _ _ _ _ _ => pts_nil)
          (fun _ _ _ _ _ => pe_slice sl_str (pv 8) (po_some (pv 4)) (po_some (pe_op op_add (pv 4) (pv 6)))))
      (pss_cons (ps_set (i := 9) nd rfl (.inl rfl) (pe_lst pa_nil))
      (pss_cons (ps_for PassesOwn.never rfl (pi_list (pe_call GS hr (by rfl) mS kS bS .nil pass0 (pa_cons (pe_lc (own := [("at", 12), ("row", 8)]) (g := gTup K 2 (gCons (gName 12) (gCons (gName 8) gNil))) rfl nd (pi_enumG (by rfl) en (pa_cons (pv 7) pa_nil)) (blkOk_by (N := nPT) (sc := defScope sPT) (by decide +kernel))
            (fun _ _ _ _ _ => pg_tup rfl (pgs_cons (pg_name (i := 12) nd rfl (Or.inl rfl)) (pgs_cons (pg_name (i := 8) nd rfl (Or.inl rfl)) pgs_nil))) (fun _ _ _ _ _ => pts_one (pt_cmpR op_in_sign pe_str (pv 8) (by with_unfolding_all rfl))) (fun _ _ _ _ _ => pv 12)) (pa_cons (pv 2) pa_nil))))
          (pg_tup rfl (pgs_cons (pg_name (i := 10) nd rfl (Or.inl rfl)) (pgs_cons (pg_name (i := 11) nd rfl (Or.inl rfl)) pgs_nil)))
          (pss_cons (ps_asg (pe_call GD hr (by rfl) mD kD bD .nil pass0 (pa_cons (pe_slice sl_list (pv 7) (po_some (pv 10)) (po_some (pv 11))) pa_nil)) (pg_tup rfl (pgs_cons (pg_name (i := 13) nd rfl (Or.inl rfl)) (pgs_cons (pg_name (i := 14) nd rfl (Or.inl rfl)) pgs_nil))))
          (pss_one (ps_expr (pe_bm PySem.F.plainAttrs_list PySem.F.slot_list_append PySem.F.type_list_append mt_append (pv 9) (pa_cons (pe_tup (pa_cons (pe_op op_add (pv 3) (pv 10)) (pa_cons (pe_op op_add (pv 4) (pv 13)) (pa_cons (pe_op op_sub (pv 11) (pv 10)) (pa_cons (pe_op op_sub (pe_op op_add (pv 14) pe_int) (pv 13)) pa_nil))))) pa_nil))))))
      (pss_one (ps_ret (pv 9)))))), ?_⟩
    obtain ⟨bt, bl, bhh, bww⟩ := b
    have lr : rs.length = high := br.r.len
    have h1 := br.h1
    have w1 := br.w1
    have bh' : bt + bhh ≤ high := bh
    have bw' : bl + bww ≤ wide := bw
    have ec : (cutR rs bt bl bhh bww).length = bhh := cutR_len (by omega)
    refine ⟨.ref t, rfl, t, _, rfl, SqT.of ht, rfl, _, _, rfl, _, _, rfl, _, _, rfl, _, _, rfl, rfl, ?_⟩
    refine ⟨fun σ' H' => ∃ D : Addr, σ' = [some (.ref a), some (.ref t), some (.int least), some (.int bt), some (.int bl), some (.int bhh), some (.int bww), some (.ref D), none, none, none, none, none, none, none] ∧ Same H H' ∧ H' D = some (.lst ((cutR rs bt bl bhh bww).map rv)), ?_, ?_⟩
    · have cm : cutV (rs.map rv) (some (bt : Int)) (some ((bt : Int) + bhh)) = ((rs.drop bt).take bhh).map rv := by
        rw [cutV_mid _ _ _ (by rw [List.length_map, lr]; exact bh'), ← List.map_drop, ← List.map_take]
      have rowLen : ∀ (i : Nat) (r : List Nat), ((rs.drop bt).take bhh)[i]? = some r → r.length = wide ∧ i < bhh := fun i r hr0 => by
        have hm : r ∈ rs := List.mem_of_mem_drop (List.mem_of_mem_take (List.mem_of_getElem? hr0))
        have hil := (List.getElem?_eq_some_iff.mp hr0).1
        rw [List.length_take, List.length_drop] at hil
        exact ⟨(br.r.row r hm).len, by omega⟩
      cases pg with
      | true =>
        refine .inl ⟨.ref a, rfl, .int bt, rfl, bt, rfl, .int bt, rfl, .int bhh, rfl, bt, bhh, rfl, rfl, _, rfl, a, _, rfl, SqL.of ha, fun z hz0 => ⟨z, rfl, ⟨_, SqL.of upd_same⟩, fun D hD => ?_⟩⟩
        rw [cm] at hD ⊢
        have s2 := same_upd (o := .lst (((rs.drop bt).take bhh).map rv)) hz0
        have hz : (upd H z (.lst (((rs.drop bt).take bhh).map rv))) z = some (.lst (((rs.drop bt).take bhh).map rv)) := upd_same
        generalize upd H z (.lst (((rs.drop bt).take bhh).map rv)) = H2 at hD s2 hz
        refine lc_list (K := K) (a := z) (xs := ((rs.drop bt).take bhh).map rv) (fun i H3 => Same H2 H3 ∧ H3 D = some (.lst (((((rs.drop bt).take bhh).take i).map fun r => (r.drop bl).take bww).map rv))) ⟨same_upd hD, upd_same⟩ (fun i H3 _ zz => SqL.of (zz.1 _ _ hz)) ?_ ?_
        · rintro i x H3 hi ⟨sm, h3⟩
          obtain ⟨r, hr0, rfl⟩ := map_at2 hi
          obtain ⟨l0, hil⟩ := rowLen i r hr0
          refine ⟨rfl, rv r, rfl, .int bl, rfl, bl, rfl, .int bl, rfl, .int bww, rfl, bl, bww, rfl, rfl, _, rfl, S r, rfl, ?_, ?_⟩
          · rw [SX.S_len]
            exact Nat.le_of_lt (small1000 (by omega))
          · rw [cutS_mid _ _ _ (by omega)]
            refine ⟨_, h3, ?_, same_over sm hD, ?_⟩
            · rw [List.length_map, List.length_map, List.length_take]
              exact small1000 (by omega)
            · rw [upd_same, take_snoc hr0, List.map_append, List.map_append]
              rfl
        · rintro H3 ⟨sm, h3⟩
          rw [List.length_map, List.take_length] at h3
          exact ⟨D, rfl, s2.trans sm, h3⟩
      | false =>
        refine .inr ⟨.ref a, rfl, .int bt, rfl, bt, rfl, .int bt, rfl, .int bhh, rfl, bt, bhh, rfl, rfl, _, rfl, sl_any ha fun z H2 s2 hz => ⟨z, rfl, ⟨_, SqT.of hz⟩, fun D hD => ?_⟩⟩
        rw [cm] at hz
        refine lc_tup (K := K) (a := z) (xs := ((rs.drop bt).take bhh).map rv) (fun i H3 => Same H2 H3 ∧ H3 D = some (.lst (((((rs.drop bt).take bhh).take i).map fun r => (r.drop bl).take bww).map rv))) ⟨same_upd hD, upd_same⟩ (fun i H3 _ zz => SqT.of (zz.1 _ _ hz)) ?_ ?_
        · rintro i x H3 hi ⟨sm, h3⟩
          obtain ⟨r, hr0, rfl⟩ := map_at2 hi
          obtain ⟨l0, hil⟩ := rowLen i r hr0
          refine ⟨rfl, rv r, rfl, .int bl, rfl, bl, rfl, .int bl, rfl, .int bww, rfl, bl, bww, rfl, rfl, _, rfl, S r, rfl, ?_, ?_⟩
          · rw [SX.S_len]
            exact Nat.le_of_lt (small1000 (by omega))
          · rw [cutS_mid _ _ _ (by omega)]
            refine ⟨_, h3, ?_, same_over sm hD, ?_⟩
            · rw [List.length_map, List.length_map, List.length_take]
              exact small1000 (by omega)
            · rw [upd_same, take_snoc hr0, List.map_append, List.map_append]
              rfl
        · rintro H3 ⟨sm, h3⟩
          rw [List.length_map, List.take_length] at h3
          exact ⟨D, rfl, s2.trans sm, h3⟩
    rintro _ H1 ⟨D, rfl, s1, hD⟩
    refine ⟨by show 0 ≤ sizeLine; decide, fun L hL => ?_⟩
    have sL := same_upd (o := .lst []) hL
    have hD' := sL _ _ hD
    have hL' : (upd H1 L (.lst [])) L = some (.lst []) := upd_same
    have s1' := s1.trans sL
    have fL : H L = none := s1.free hL
    generalize upd H1 L (.lst []) = H2 at sL hD' hL' s1'
    refine ⟨.ref D, rfl, .lst D, _, rfl, SqL.of hD', fun N hN => ?_⟩
    have eD : SqL K H2 D ((cutR rs bt bl bhh bww).map rv) := SqL.of hD'
    refine lc_enumG (K := K) (A := .lst D) (xs := (cutR rs bt bl bhh bww).map rv) (fun i H3 => Same H2 H3 ∧ H3 N = some (.lst (nI ((List.range i).filter fun i => rowHas (DR rs) bl bww (bt + i))))) ⟨same_upd hN, upd_same⟩ (fun i H3 _ z => SqL.of (z.1 _ _ hD')) ?_ ?_
    · rintro i x H3 TT hi ⟨sm, h3⟩ nT
      obtain ⟨l, hl, rfl⟩ := map_at2 hi
      have hil : i < bhh := by
        have := (List.getElem?_eq_some_iff.mp hl).1
        rw [ec] at this
        exact this
      have el : l = ((rs.getD (bt + i) []).drop bl).take bww := by
        rw [cutR_at (by omega) hil] at hl
        exact (Option.some.inj hl).symm
      have sT := same_upd (o := .tup [V.int (i : Nat), rv l]) nT
      have e0 : (S l).cps.toList = l := by simp [S]
      refine ⟨TT, _, rfl, SqT.of upd_same, rfl, _, _, rfl, _, _, rfl, rfl, rfl, rv l, rfl, 35, S l, congrArg V.str s_hash, rfl, _, rfl, ?_⟩
      have es : ((List.range (i + 1)).filter fun i => rowHas (DR rs) bl bww (bt + i)) = ((List.range i).filter fun i => rowHas (DR rs) bl bww (bt + i)) ++ if decide (35 ∈ l) = true then [i] else [] := by
        rw [List.range_succ, List.filter_append, List.filter_cons, List.filter_nil, row_has, ← el]
      rw [e0, es]
      clear es
      cases ed : decide (35 ∈ l) with
      | true =>
        refine iteT ⟨.int (i : Nat), rfl, _, sT _ _ h3, ?_, same_over (sm.trans sT) hN, ?_⟩
        · rw [List.length_map]
          have := List.length_filter_le (fun i => rowHas (DR rs) bl bww (bt + i)) (List.range i)
          rw [List.length_range] at this
          exact small1000 (by omega)
        · rw [upd_same]
          show _ = some (HO.lst (List.map _ _))
          rw [List.map_append]
          rfl
      | false => exact iteF ⟨sm.trans sT, by
          rw [if_neg (by decide), List.append_nil]
          exact sT _ _ h3⟩
    rintro H3 ⟨s3, h3⟩
    rw [List.length_map, ec] at h3
    have eN : ((List.range bhh).filter fun i => rowHas (DR rs) bl bww (bt + i)) = dr (DR rs) bt bl bhh bww := rfl
    rw [eN] at h3
    have srt := dr_sorted (DR rs) bt bl bhh bww
    have dl : (dr (DR rs) bt bl bhh bww).length ≤ 120 := by
      have := List.length_filter_le (fun i => rowHas (DR rs) bl bww (bt + i)) (List.range bhh)
      rw [List.length_range] at this
      exact Nat.le_trans this (by omega)
    refine ⟨.int least, rfl, N, dr (DR rs) bt bl bhh bww, least, rfl, h3, dl, fun l xs H4 s4 nl hl tn => ⟨l, rfl, ⟨_, SqL.of hl⟩, ?_⟩⟩
    have S0 := stretch_ok least srt
    generalize est : stretch least (dr (DR rs) bt bl bhh bww) = st at tn S0
    have lst : st.length ≤ 120 := by
      have := parted_len (DR rs) least ⟨bt, bl, bhh, bww⟩
      unfold parted at this
      rw [List.length_map] at this
      have e : stretch least (dr (DR rs) bt bl bhh bww) = st := est
      rw [← e]
      exact Nat.le_trans this (by show bhh ≤ 120; omega)
    have lxs : xs.length = st.length := by rw [tn.len, List.length_map]
    have s24 := s3.trans s4
    have hD4 := s24 _ _ hD'
    have hL4 := s24 _ _ hL'
    have nLl : l ≠ L := (ne_of_none (s3 _ _ hL') nl).symm
    have nDL : D ≠ L := by
      rintro rfl
      rw [hL] at hD
      cases hD
    refine for_list (K := K) (a := l) (xs := xs) (fun i σ H5 => ∃ y8 y10 y11 y12 y13 y14 ys, σ = [some (.ref a), some (.ref t), some (.int least), some (.int bt), some (.int bl), some (.int bhh), some (.int bww), some (.ref D), y8, some (.ref L), y10, y11, y12, y13, y14] ∧ Do L H4 H5 ∧ H5 L = some (.lst ys) ∧ ys.length ≤ i ∧ Tin K H5 ys (((st.take i).map (part1 (DR rs) bt bl bww)).map bI))
      ⟨_, _, _, _, _, _, [], rfl, Do.refl, hL4, Nat.le_refl _, Tin.nil⟩ (fun i σ H5 _ z => by
        obtain ⟨_, _, _, _, _, _, _, _, sm, _⟩ := z
        exact SqL.of (sm _ _ hl nLl)) ?_ ?_
    · rintro i x σ H5 hx ⟨y8, y10, y11, y12, y13, y14, ys, rfl, sm, h5, ly, ty⟩
      have hi : i < st.length := by
        rw [← lxs]
        exact (List.getElem?_eq_some_iff.mp hx).1
      have e1 : st[i]? = some st[i] := List.getElem?_eq_getElem hi
      obtain ⟨w1', w2, w3⟩ := S0.ends st[i] (List.getElem_mem hi)
      generalize st[i] = se at e1 w1' w2 w3
      obtain ⟨sx, ex⟩ := se
      have wse : sx < ex := w1'
      have wex : ex - 1 < bhh := (mem_dr.mp (show ex - 1 ∈ dr (DR rs) bt bl bhh bww from w3)).1
      obtain ⟨_, cx, cx1, cx2, cx3⟩ := mem_dr.mp (show sx ∈ dr (DR rs) bt bl bhh bww from w2)
      obtain ⟨tp, rfl, htp⟩ := tn.at_ i x (pI (sx, ex)) hx (by rw [List.getElem?_map, e1]; rfl)
      have nzT : tp ≠ L := ne_of htp hL4 (by intro z; cases z)
      refine ⟨tp, _, rfl, SqT.of (sm _ _ htp nzT), rfl, _, _, rfl, _, _, rfl, rfl, ?_⟩
      refine ⟨.ref D, rfl, .int sx, rfl, sx, rfl, .int ex, rfl, ex, rfl, D, _, rfl, SqL.of (sm _ _ hD4 nDL), fun z hz => ?_⟩
      have ecut : cutV ((cutR rs bt bl bhh bww).map rv) (some (sx : Int)) (some (ex : Int)) = (cutR rs (bt + sx) bl (ex - sx) bww).map rv := by
        rw [cut_V _ _ _ (by omega) (by rw [List.length_map, ec]; omega), ← List.map_drop, ← List.map_take, cutR_part (by omega)]
      rw [ecut]
      have sz := same_upd (o := .lst ((cutR rs (bt + sx) bl (ex - sx) bww).map rv)) hz
      have lq : (cutR rs (bt + sx) bl (ex - sx) bww).length = ex - sx := cutR_len (by omega)
      refine ⟨true, z, _, rfl, SqL.of upd_same, by rw [lq]; omega, ⟨_, (cutR_mem (by omega)).mpr ⟨0, by omega, rfl⟩, ?_⟩, fun p f0 r0 H6 s6 fl hp => ?_⟩
      · have := row_has (rs := rs) (l := bl) (w := bww) (r := bt + sx)
        rw [rowHas_iff.mpr ⟨cx, cx1, cx2, cx3⟩] at this
        exact of_decide_eq_true this.symm
      have s56 := sz.trans s6
      have hL6 := s56 _ _ h5
      refine ⟨p, _, rfl, SqT.of hp, rfl, _, _, rfl, _, _, rfl, rfl, ?_⟩
      refine ⟨.ref L, rfl, .inl ⟨rfl, _, SqL.of hL6⟩, .int bt, rfl, .int sx, rfl, bt, sx, rfl, rfl, .int bl, rfl, .int f0, rfl, bl, f0, rfl, rfl, .int ex, rfl, .int sx, rfl, ex, sx, rfl, rfl, .int r0, rfl, r0, 1, rfl, rfl, .int f0, rfl, _, f0, rfl, rfl, by show 4 ≤ sizeLine; decide, fun u hu => ?_⟩
      have su := same_upd (o := .tup [V.int ((bt : Int) + sx), V.int ((bl : Int) + f0), V.int ((ex : Int) - sx), V.int ((r0 : Int) + 1 - f0)]) hu
      have hL7 := su _ _ hL6
      have nuL : u ≠ L := (ne_of_none hL6 hu).symm
      have eb : bI (part1 (DR rs) bt bl bww (sx, ex)) = [((bt : Int) + sx), ((bl : Int) + f0), ((ex : Int) - sx), ((r0 : Int) + 1 - f0)] := by
        obtain ⟨e1, e2⟩ := FL.head (by omega) fl
        have hfr : f0 ≤ r0 := by
          obtain ⟨q0, hq0, e0⟩ := fl.re
          exact fl.fm _ hq0 _ e0
        unfold bI part1
        rw [e1, e2]
        show [((bt + sx : Nat) : Int), ((bl + f0 : Nat) : Int), ((ex - sx : Nat) : Int), ((r0 + 1 - f0 : Nat) : Int)] = _
        rw [show ((bt + sx : Nat) : Int) = (bt : Int) + sx by omega, show ((bl + f0 : Nat) : Int) = (bl : Int) + f0 by omega, show ((ex - sx : Nat) : Int) = (ex : Int) - sx by omega, show ((r0 + 1 - f0 : Nat) : Int) = (r0 : Int) + 1 - f0 by omega]
      refine ⟨L, ys, .ref u, rfl, rfl, hL7, small1000 (by omega), _, _, _, _, _, _, ys ++ [.ref u], rfl, ?_, upd_same, by rw [List.length_append]; exact Nat.add_le_add_right ly 1, ?_⟩
      · intro b o hb nb
        rw [upd_ne nb]
        exact (s56.trans su) _ _ (sm b o hb nb)
      · rw [take_snoc e1, List.map_append, List.map_append]
        refine Tin.add ((ty.same (s56.trans su)).updl hL7) ?_
        rw [upd_ne nuL, upd_same, eb]
        rfl
    · rintro σ H5 ⟨y8, y10, y11, y12, y13, y14, ys, rfl, sm, h5, ly, ty⟩
      have e : st.take xs.length = st := List.take_of_length_le (by rw [lxs]; exact Nat.le_refl _)
      rw [e, ← est] at ty
      exact ⟨.ref L, rfl, q L ys H5 (fun b o hb => sm b o ((s1'.trans s24) b o hb) (ne_of_none hb fL)) fL h5 ty⟩
end
end Dt
/-! a comprehension whose elements are walked with the frame around it at hand -/
namespace L2X
open PySem PySem.Spec PyProof.Rows L2
section
variable {X : Cx}
/-- the block of a comprehension, begun at s1 over H1 -/
abbrev Bk (X : Cx) (sc : Scope) (s1 : Shared) (H1 : Hp) (L : Addr) (cl : List (Str × Addr)) (fp : List Addr) : Cx :=
  X.blk s1 H1 sc (compEnvC sc cl L X.env) fp
/-- from within the block the frame around it is seen -/
theorem out_of {pins pj : List (Addr × Obj)} {σ τ : L2.St} {H1 H2 : Hp} {s1 s2 : Shared} {sc : Scope} {L : Addr} {cl : List (Str × Addr)} {fp : List Addr}
    (I : Inv X pins σ H1 s1) (hf : ∀ b ∈ fp, FpOk X pins H1 b)
    (B : Inv (Bk X sc s1 H1 L cl fp) pj τ H2 s2) : Inv X pins σ H2 s2 := by
  refine I.call' (ch := fp) B.os B.base B.hok B.bare fun b hb => ?_
  have z := hf b hb
  exact ⟨z.2.2.2.1, z.2.1, z.2.2.2.2.1, z.2.2.2.2.2⟩
theorem pe_lcI {elt tg iter : Expr} {sc : Scope} {own : List (Str × Nat)} {pos : Pos} {wi : TI} {g : TG} {te : L2.St → TE}
    (hc : X.calm = true) (hN : X.N.Nodup) (hi : PI X tg iter wi) (ok : BlkOk X.N X.env.scope sc own)
    (hg : ∀ (s1 : Shared) (H1 : Hp) (L : Addr) (cl : List (Str × Addr)) (fp : List Addr), PG (Bk X sc s1 H1 L cl fp) tg g)
    (he : ∀ (pins : List (Addr × Obj)) (σ : L2.St) (s1 : Shared) (H1 : Hp) (L : Addr) (cl : List (Str × Addr)) (fp : List Addr),
      Inv X pins σ H1 s1 → (∀ b ∈ fp, FpOk X pins H1 b) → PE (Bk X sc s1 H1 L cl fp) elt (te σ))
    (hs : ∀ x, foldedSetIterable iter X.env x = pure x := by intro _; rfl) :
    PE X (.ListComp elt [⟨tg, iter, [], 0⟩] sc pos) (fun σ H Q => tLc wi g tYes (te σ) (own.map (·.2)) σ H Q) := by
  constructor
  intro pins s σ H Q I h
  rw [eval_ListComp]
  have freeIn : ∀ y ∈ sc.names, y.2 = .free → ∃ c, X.env.cells.lookup y.1 = some c := by
    intro y hy e
    cases ok.free y hy e with
    | inl k => exact I.ok.has _ (.inl k)
    | inr k => exact I.ok.has _ (.inr k)
  have uq : ∀ y ∈ sc.names, _ := fun y hy (e : y.2 = .local) => (ok.uniq y hy).trans (congrArg some e)
  apply wpAny_comprehension_free (use := none) rfl hs (closure_ok freeIn) ok.kind uq
  refine thn (hi.run pins s σ H _ I h) ?_
  intro xv sa hx
  refine thn hx ?_
  rintro itv sb ⟨it, fp, tn, J, Hb, rfl, Ib, T, stb, fb, rd⟩
  apply wpAny_newObj_type
  · apply newEnv_comp
    have newD : Hb sb.heap.objs.size = none := Ib.hok.fresh (Nat.le_refl _)
    obtain ⟨W, ⟨m0, w0⟩, tu⟩ := rd sb.heap.objs.size newD
    generalize eD : sb.heap.objs.size = D at newD w0 tu ⊢
    have objD : (sb.heap.push { cls := .type "list", data := .seq ([] : List Value).toArray }).get? D = some { cls := .type "list", data := .seq ([] : List Value).toArray } := by
      rw [← eD]
      exact Heap.get?_push_size _ rfl
    have Ic : Inv X pins σ (upd Hb D (.lst [])) { sb with heap := sb.heap.push { cls := .type "list", data := .seq ([] : List Value).toArray } } :=
      Ib.laid (t' := sb.toks) (fun b o e => Heap.get?_push_of_some _ e) (by rw [eD]; exact Nat.le_refl _) ⟨by show 0 ≤ sizeLine; decide, [], 0, .nil, objD⟩
    have stc : tn 0 (sb.heap.push { cls := .type "list", data := .seq ([] : List Value).toArray }) := T.keep _ _ _ stb fun b _ o e => Heap.get?_push_of_some _ e
    have fc : ∀ b ∈ fp, FpOk X pins (upd Hb D (.lst [])) b ∧ b < (sb.heap.push { cls := .type "list", data := .seq ([] : List Value).toArray }).objs.size := by
      intro b hb
      obtain ⟨o, e, _⟩ := T.obj _ _ stb b hb
      have lt := Heap.lt_size e
      have z := fb b hb
      constructor
      · refine ⟨?_, z.2⟩
        rw [upd_ne (show b ≠ D from Nat.ne_of_lt (eD ▸ lt))]
        exact z.1
      · rw [Heap.size_push]
        exact Nat.lt_succ_of_lt lt
    generalize eC : ({ sb with heap := sb.heap.push { cls := .type "list", data := .seq ([] : List Value).toArray } } : Shared) = sC at Ic
    have eCh : sb.heap.push { cls := .type "list", data := .seq ([] : List Value).toArray } = sC.heap := by rw [← eC]
    rw [eCh] at stc fc
    generalize eHc : upd Hb D (.lst []) = Hc at Ic fc w0
    have Id := block_start Ic ok hN fc
    generalize eCells : cellsFrom (sC.heap.objs.size + 1) sc.names (cloFrom X.env.cells sc.names []) = cl at Id ⊢
    change codeAny _ _ (.compStart (.ListComp elt [⟨tg, iter, [], 0⟩] sc pos) 0 (.ref it) (.ref D) (compEnvC sc cl sC.heap.objs.size X.env))
      (compPost (model X.prog X.w) X.A X.xe none (EP X pins σ Q) (.ref D) sC.heap.objs.size) _
    have gT := hg sC Hc sC.heap.objs.size cl fp
    have gE := he pins σ sC Hc sC.heap.objs.size cl fp Ic fun b hb => (fc b hb).1
    have std : tn 0 (pushCells (sC.heap.push { cls := .type "dict", data := .dict #[] }) sc.names) :=
      T.keep _ _ _ stc fun b _ o e => pushCells_keeps _ _ _ _ (Heap.get?_push_of_some _ e)
    generalize eD4 : ({ sC with heap := pushCells (sC.heap.push { cls := .type "dict", data := .dict #[] }) sc.names } : Shared) = sD at Id ⊢
    have eDh : pushCells (sC.heap.push { cls := .type "dict", data := .dict #[] }) sc.names = sD.heap := by rw [← eD4]
    rw [eDh] at std
    have walk : codeAny (model X.prog X.w) X.A (.compLoop (.ListComp elt [⟨tg, iter, [], 0⟩] sc pos) 0 (.ref it) (.ref D) (compEnvC sc cl sC.heap.objs.size X.env))
        (compPost (model X.prog X.w) X.A X.xe none (EP X pins σ Q) (.ref D) sC.heap.objs.size) sD := by
      apply compLoop_any (fun n t => ∃ (i : Nat) (G : Hp), Inv (Bk X sc sC Hc sC.heap.objs.size cl fp) [] (wipe σ (own.map (·.2))) G t ∧ tn i t.heap ∧ (∀ b ∈ fp, G b = none) ∧ W i n G) _ m0
        ⟨0, Hc, Id, std, fun b hb => (fc b hb).1.1, w0⟩
      rintro n t ⟨i, G, It, tt, gn, wi⟩
      have fpB : ∀ {τ : L2.St} {G' : Hp} {t' : Shared}, Inv (Bk X sc sC Hc sC.heap.objs.size cl fp) [] τ G' t' → (∀ b ∈ fp, G' b = none) → ∀ b ∈ fp, FpOk (Bk X sc sC Hc sC.heap.objs.size cl fp) [] G' b := by
        intro τ G' t' B hn b hb
        have z := B.ok.exf b hb
        exact ⟨hn b hb, z.1, B.ok.exfs b hb, .inl hb, fun x c e => z.2 x c e, fun p hp => nomatch (show p ∈ ([] : List (Addr × Obj)) from hp)⟩
      rcases tu i n G wi with ⟨st, q⟩ | ⟨go, Nx, toW, step⟩
      · apply thnF (T.done (Bk X sc sC Hc sC.heap.objs.size cl fp) rfl rfl rfl hc i [] t _ G (fun _ _ => False) It (fpB It gn) tt st)
        rintro r u ⟨rfl, Iu⟩
        have Iout := out_of Ic (fun b hb => (fc b hb).1) Iu
        obtain ⟨m, nsL, _⟩ := id Iu.loc
        have freeL : G sC.heap.objs.size = none := Iu.free
        refine ⟨m, nsL, fun h' sb' => ?_⟩
        have fL := Ic.fpOk (Nat.le_refl _) freeL
        exact ⟨.ref D, G, Iout.turned (t' := u.toks) (fun b o hb e => (sb'.2 b hb).trans e) fL.1 fL.2.1 fL.2.2.2.1 fL.2.2.2.2.1 fL.2.2.2.2.2, rfl, q⟩
      · apply thnF (T.item (Bk X sc sC Hc sC.heap.objs.size cl fp) rfl rfl rfl hc i [] t _ G (fun _ _ => False) It (fpB It gn) tt go)
        rintro r t1 ⟨u, rfl, hu⟩
        refine thnF hu ?_
        rintro _ t2 ⟨x, G2, I2, rx, yl, tt2, gn2⟩
        have Ip := I2.pinned (fpB I2 gn2) (T.obj _ _ tt2)
        refine thnF (gT.run _ t2 _ G2 x u _ Ip rx (step x G2 yl)) ?_
        rintro _ t3 ⟨τ, G3, I3, wq, q3⟩
        simp only [tYes, if_true] at q3
        apply wpAny_tests_nil
        simp only [if_true]
        refine thnF (gE.run _ t3 τ G3 _ I3 q3) ?_
        rintro z t4 ⟨y, G4, I4, ry, acc, accD, accL, nx⟩
        refine app_ok (X := Bk X sc sC Hc sC.heap.objs.size cl fp) I4 accD accL ry fun t5 I5 => ?_
        obtain ⟨m, lt, wm⟩ := toW _ nx
        have still : ∀ b ∈ fp, ∀ o, t2.heap.get? b = some o → t5.heap.get? b = some o ∧ (upd G4 D (.lst (acc ++ [y]))) b = none := by
          intro b hb o e
          have z := I5.pin (b, o) (List.mem_append_right _ (List.mem_append_right _ (mem_pinsAt hb e)))
          exact ⟨z.1, z.2.1⟩
        refine ⟨m, lt, i + 1, _, (I5.unpinned (pins := [])).weak ?_ fun j v e => ?_, T.keep _ _ _ tt2 fun b hb o e => (still b hb o e).1, fun b hb => ?_, wm⟩
        · rw [← wq, wipe_length]
        · rw [← wq] at e
          exact (wipe_some e).1
        · obtain ⟨o, e, _⟩ := T.obj _ _ tt2 b hb
          exact (still b hb o e).2
    exact codeAny_compStart_list walk (T.self X.A 0 _ _ _ std walk)
  · show 0 ≤ sizeLine
    decide
end
end L2X
/-! objects taken under watch, and let go; a caught exception kept behind its clause -/
namespace L2X
open PySem PySem.Spec PyProof.Rows L2
section
variable {X : Cx} {pins : List (Addr × Obj)} {σ : L2.St} {H : Hp} {s : Shared}
/-- an object that is younger than the entry comes under watch -/
theorem adopt {a : Addr} {o : HO} {oe : Obj} (I : Inv X pins σ H s) (ha : s.heap.get? a = some oe) (nc : ∀ v, oe.data ≠ .cell v) (na : H a = none) (nL : a ≠ X.env.locals)
    (n0 : X.s_0.heap.get? a = none) (np : ∀ p ∈ X.pn ++ pins, p.1 ≠ a) (new : ObjOk X.prog X.w (upd H a o) s.heap a o) : Inv X pins σ (upd H a o) s := by
  have old : ∀ b u, H b = some u → (upd H a o) b = some u := by
    intro b u e
    rw [upd_ne (ne_of_none e na)]
    exact e
  have ent : ∀ b u, X.s_0.heap.get? b = some u → b ≠ a := by
    rintro b u e rfl
    rw [n0] at e
    cases e
  constructor
  · exact I.ok
  · exact I.os
  · exact I.bare
  · constructor
    · exact I.base.keep
    · exact I.base.slot
    · intro b u e n hx
      rw [upd_ne (ent b u e)]
      exact I.base.free b u e n hx
    · exact I.base.there
    · exact fun b xs e => old _ _ (I.base.tups b xs e)
    · exact fun b u v e => old _ _ (I.base.frzs b u v e)
    · intro b ps e
      obtain ⟨m, q⟩ := I.base.tbls b ps e
      exact ⟨m, old _ _ q⟩
  · exact I.loc
  · exact I.cell
  · rw [upd_ne nL.symm]
    exact I.free
  · intro x c e
    have nca : c ≠ a := by
      rintro rfl
      obtain ⟨v, oc, hoc, hd⟩ := I.cell x c e
      rw [ha] at hoc
      cases hoc
      exact nc _ hd
    rw [upd_ne nca]
    exact I.freeC x c e
  · intro p hp
    obtain ⟨e, n, r⟩ := I.pin p hp
    refine ⟨e, ?_, r⟩
    rw [upd_ne (np p hp)]
    exact n
  · intro b u e
    by_cases hb : b = a
    · subst hb
      rw [upd_same] at e
      cases e
      exact new
    · rw [upd_ne hb] at e
      exact (I.hok b u e).stay (fun _ _ _ q => q) (fun c q => old _ _ q) fun c xs q => old _ _ q
  · exact I.len
/-- a thing of our own is let go -/
theorem letgo {a : Addr} {φ : Heap → Prop} (I : Inv X pins σ H s) (ha : H a = some (.ext φ)) : Inv X pins σ (delH H a) s := by
  have oth : ∀ b u, H b = some u → (∀ ψ, u ≠ .ext ψ) → delH H a b = some u := by
    intro b u e ne
    rw [delH_ne]
    · exact e
    · rintro rfl
      rw [ha] at e
      cases e
      exact ne _ rfl
  have non : ∀ b, H b = none → delH H a b = none := by
    intro b e
    by_cases hb : b = a
    · rw [hb]
      exact delH_same
    · rw [delH_ne hb]
      exact e
  constructor
  · exact I.ok
  · exact I.os
  · exact I.bare
  · constructor
    · exact I.base.keep
    · exact I.base.slot
    · exact fun b u e n hx => non b (I.base.free b u e n hx)
    · exact I.base.there
    · exact fun b xs e => oth _ _ (I.base.tups b xs e) fun ψ z => nomatch z
    · exact fun b u v e => oth _ _ (I.base.frzs b u v e) fun ψ z => nomatch z
    · intro b ps e
      obtain ⟨m, q⟩ := I.base.tbls b ps e
      exact ⟨m, oth _ _ q fun ψ z => nomatch z⟩
  · exact I.loc
  · exact I.cell
  · exact non _ I.free
  · exact fun x c e => non _ (I.freeC x c e)
  · intro p hp
    obtain ⟨e, n, r⟩ := I.pin p hp
    exact ⟨e, non _ n, r⟩
  · intro b u e
    by_cases hb : b = a
    · rw [hb, delH_same] at e
      cases e
    · rw [delH_ne hb] at e
      exact (I.hok b u e).stay (fun _ _ _ q => q) (fun c q => oth _ _ q fun ψ z => nomatch z) fun c xs q => oth _ _ q fun ψ z => nomatch z
  · exact I.len
end
/-- a caught exception of the class cls stands at a -/
def ExI (cls : Value) (d : Option Addr) (a : Addr) : HO := .ext fun h => ∃ oe, h.get? a = some oe ∧ Zc cls d oe ∧ ∃ vs, oe.data = .fields vs
theorem exI_ok {P : Program} {w : World} {H : Hp} {h : Heap} {a : Addr} {cls : Value} {d : Option Addr} {oe : Obj} {vs : Array Value} (e : h.get? a = some oe) (z : Zc cls d oe) (f : oe.data = .fields vs) : ObjOk P w H h a (ExI cls d a) := by
  refine ⟨⟨oe, e, z, vs, f⟩, ⟨oe, e⟩, ?_⟩
  rintro h1 h2 ⟨o, q, r⟩ k
  exact ⟨o, k _ q, r⟩
/-- the wish of a clause 'except x as n' that takes all that comes, and behind which the exception is kept -/
def wKeep (K : PySem.W.Frag) (c : Value) (i : Nat) (ts : Addr → Value → Option Addr → TS) (D : Ends) : WX := fun cls d σ H =>
  PySem.W.exmOne K cls c = some true ∧ ∀ a, H a = none → ts a cls d { nx := fun σ' H' => D.nx (σ'.set i none) (upd H' a (ExI cls d a)), rt := fun _ _ => False } (σ.set i (some (.ref a))) H
section
variable {X : Cx} {x n : Str} {c : Value} {i : Nat} {body sr : List Stmt} {b0 : Stmt} {np p1 p2 : Pos} {tb : WX → TS} {ts : Addr → Value → Option Addr → TS}
/-- what the watch over a try's body does with an exception -/
def Watch (X : Cx) (pins : List (Addr × Obj)) (D : Ends) (hd : ExceptHandler) : Value → Shared → Prop := fun e sa =>
  wpAny (model X.prog X.w) X.A (noteFrame e X.env)
    (fun _ sb => wpAny (model X.prog X.w) X.A (setFlight e none)
      (fun _ sc => wpAny (model X.prog X.w) X.A (handleBy e X.env [hd]) (SP X pins D) X.xe sc) X.xe sb) X.xe sa
theorem watched {pins : List (Addr × Obj)} {D : Ends} (st : X.stack = X.env :: X.outer) (fr : X.env.frame = some X.env.locals) (hex : X.ex = []) (hN : X.N.Nodup) (hi : X.N[i]? = some n) (hln : X.env.kindOf n = some .local) (hc : Names X x c) (ok : X.Ok)
    (hsu : ∀ (a : Addr) (oe : Obj) (cls : Value) (d : Option Addr) (pn : List (Addr × Obj)), Zc cls d oe → (∃ vs, oe.data = .fields vs) → PSs (X.suite a ((a, oe) :: pn)) (b0 :: sr) (ts a cls d)) :
    Takes (X.tr (X.pn ++ pins) (Watch X pins D (.ExceptHandler (some (.Name x np)) (some n) (b0 :: sr) p2))) (wKeep X.K c i ts D) := by
  rintro u t ⟨a, B, sI, pj, τ, G, cls, d, rfl, Jt, toB, up, sky, na, os, ag, caught, suiteOk⟩
  have J : Inv X pins τ G sI := Jt.ofTry ok
  have fs : X.A.frames = some (X.env :: X.outer) := ok.frames.trans (congrArg some st)
  have sky' : Sky B (X.env :: X.outer) a (Zc cls d) X.env.locals t.heap := st ▸ sky
  unfold Watch
  apply Sky.land Zc.steady fs fr sky'
  intro h3 fly up3
  have J3 : Inv X pins τ G { t with heap := h3 } := J.landed toB fly.1 (up.trans up3) os ag
  obtain ⟨oe3, vs3, got3, cls3, dat3⟩ := fly.there
  have noFrame : a ∉ frs (X.env :: X.outer) := by
    intro hm
    obtain ⟨_, o', e', nf⟩ := fly.2.2.1.mem hm
    rw [got3] at e'
    cases e'
    exact nf _ dat3
  have neL : a ≠ X.env.locals := fun z => noFrame (List.mem_filterMap.mpr ⟨X.env, List.mem_cons_self, by rw [fr, z]⟩)
  have neF : a ∉ X.fs := by
    intro hm
    obtain ⟨e, he, q⟩ := List.mem_filterMap.mp hm
    exact noFrame (List.mem_filterMap.mpr ⟨e, List.mem_cons_of_mem _ he, q⟩)
  have notI : sI.heap.get? a = none := by
    cases e : sI.heap.get? a with
    | none => rfl
    | some o =>
      have z := toB a o e (by rw [st]; exact noFrame)
      rw [fly.2.1] at z
      cases z
  have not0 : X.s_0.heap.get? a = none := by
    cases e : X.s_0.heap.get? a with
    | none => rfl
    | some o =>
      obtain ⟨o', z⟩ := J.base.there a o e (by rw [hex]; exact fun z => nomatch z)
      rw [notI] at z
      cases z
  have notPin : ∀ p ∈ X.pn ++ pins, p.1 ≠ a := by
    rintro p hp rfl
    have z := (J.pin p hp).1
    rw [notI] at z
    cases z
  have S3 := J3.suite got3 dat3 na neL neF
  apply wpAny_handleBy_cons (codeAny_handlers_test _) (by intro q; cases q)
  have lookT : PySem.W.Looks (model X.prog X.w) h3 (typeOf (.ref a)) cls := by
    intro A Q E s k q
    exact wpAny_typeOf_ref (k _ _ got3) (cls3.1 ▸ q)
  have lookM := PySem.W.exm_one (M := model X.prog X.w) J3.kIn lookT caught
  have named : ∀ {Q E : Value → Shared → Prop}, Q c { t with heap := h3 } → wpAny (model X.prog X.w) (X.A.mark (some (.ref a))) (eval (.Name x np) X.env) Q E { t with heap := h3 } := by
    intro Q E q
    rcases hc with ⟨hg, hdb, hm | ⟨hm, hv, hnn⟩⟩
    · exact ld_glob (X := X.suite a ((a, oe3) :: (X.pn ++ pins))) S3 hg hm q hdb
    · exact ld_blt (X := X.suite a ((a, oe3) :: (X.pn ++ pins))) S3 hg hm hv q hnn hdb
  apply named
  apply lookM.here
  refine codeAny_handlers_suite_as ?_
  apply HandSPX.lands_againZ fly
  intro h4 fly4 up4
  have J4 : Inv X pins τ G { t with heap := h4 } := J.landed toB fly4.1 ((up.trans up3).trans up4) os ag
  obtain ⟨oe4, vs4, got4, cls4, dat4⟩ := fly4.there
  have S4 := J4.suite got4 dat4 na neL neF
  refine store_ok (X := X.suite a ((a, oe4) :: (X.pn ++ pins))) (v := .ref a) S4 hN hi (.inl hln) rfl (fun s5 S5 => ?_) (.inr hln)
  refine wpAny_mono ((hsu a oe4 cls d (X.pn ++ pins) cls4 ⟨_, dat4⟩).run [] s5 _ G _ S5 (suiteOk a na)) ?_ (fun _ _ z => False.elim z)
  rintro f s6 hsp
  cases f with
  | next =>
    obtain ⟨τ6, G6, S6, q6⟩ := hsp
    have pinned : Inv X ((a, oe4) :: pins) τ6 G6 s6 := by
      refine (S6.unsuite ok).pins_of fun p hp => ?_
      have z := S6.pin p
      cases List.mem_cons.mp hp with
      | inl e => exact z (by rw [e]; exact List.mem_append_left _ List.mem_cons_self)
      | inr e => exact z (List.mem_append_left _ (List.mem_cons_of_mem _ (List.mem_append_right _ e)))
    refine gone_ok pinned hN hi hln fun s7 J7 => ?_
    have z := J7.pin (a, oe4) (List.mem_append_right _ List.mem_cons_self)
    have J8 : Inv X pins (τ6.set i none) G6 s7 := J7.pins_of fun p hp => J7.pin p (List.mem_append_right _ (List.mem_cons_of_mem _ hp))
    exact ⟨_, _, adopt J8 z.1 z.2.2.2.2 z.2.1 z.2.2.1 not0 notPin (exI_ok z.1 cls4 dat4), q6⟩
  | brk =>
    obtain ⟨τ6, G6, S6, q6⟩ := hsp
    exact q6.elim
  | cont =>
    obtain ⟨τ6, G6, S6, q6⟩ := hsp
    exact q6.elim
  | ret u =>
    obtain ⟨v6, τ6, G6, S6, r6, q6⟩ := hsp
    exact q6.elim
/-- try: body / except x as n: suite, n's exception kept under watch behind it -/
theorem ps_try_keep (st : X.stack = X.env :: X.outer) (fr : X.env.frame = some X.env.locals) (hex : X.ex = []) (hN : X.N.Nodup) (hi : X.N[i]? = some n) (hln : X.env.kindOf n = some .local) (hc : Names X x c)
    (hb : ∀ (W : WX) (pn : List (Addr × Obj)) (xe : Value → Shared → Prop), Takes (X.tr pn xe) W → PassesOwn (model X.prog X.w) X.A X.env xe → PSs (X.tr pn xe) body (tb W))
    (hsu : ∀ (a : Addr) (oe : Obj) (cls : Value) (d : Option Addr) (pn : List (Addr × Obj)), Zc cls d oe → (∃ vs, oe.data = .fields vs) → PSs (X.suite a ((a, oe) :: pn)) (b0 :: sr) (ts a cls d)) :
    PS X (.Try body [.ExceptHandler (some (.Name x np)) (some n) (b0 :: sr) p2] [] [] p1) (fun D σ H => tb (wKeep X.K c i ts D) D σ H) := by
  constructor
  intro pins s σ H D I h
  apply wpAny_Try_except
  have run := (hb (wKeep X.K c i ts D) (X.pn ++ pins) (Watch X pins D (.ExceptHandler (some (.Name x np)) (some n) (b0 :: sr) p2)) (watched st fr hex hN hi hln hc I.ok hsu) PassesOwn.looking).run [] s σ H D (I.toTry _) h
  refine wpAny_mono run ?_ (fun _ _ z => z)
  rintro f t hsp
  cases f with
  | next =>
    obtain ⟨τ, G, J, q⟩ := hsp
    exact wpAny_execs_nil ⟨τ, G, J.ofTry I.ok, q⟩
  | brk =>
    obtain ⟨τ, G, J, q⟩ := hsp
    exact ⟨τ, G, J.ofTry I.ok, q⟩
  | cont =>
    obtain ⟨τ, G, J, q⟩ := hsp
    exact ⟨τ, G, J.ofTry I.ok, q⟩
  | ret u =>
    obtain ⟨v, τ, G, J, r, q⟩ := hsp
    exact ⟨v, τ, G, J.ofTry I.ok, r, q⟩
end
end L2X
namespace L2X
open PySem PySem.Spec PyProof.Rows L2
/-- isinstance(e, c), e a kept exception -/
def rIsX (K : PySem.W.Frag) : List V → Hp → VK → Prop := fun xs H Q => ∃ (a D : Addr) (c : V) (cv : Value) (b : Bool), xs = [.ref a, c] ∧ H a = some (ExI (.ref D) none a) ∧ ExcC K D ∧ (∀ u, RelV c u → u = cv) ∧ PySem.W.kitOne K (.ref D) cv = some b ∧ Q (.bl b) H
theorem call_isX {X : Cx} : CallR X (.builtin "isinstance") (rIsX X.K) := by
  intro pins s σ H xs us Q I r h
  obtain ⟨a, D, c, cv, b, rfl, ha, C, hcv, e, q⟩ := h
  cases r with
  | cons rx rr =>
    cases rr with
    | cons rt rr =>
      cases rr
      cases rx
      have ec := hcv _ rt
      subst ec
      obtain ⟨⟨oe, got, ⟨zc, zd⟩, vs, hv⟩, _⟩ := I.hok a _ ha
      have J : PySem.W.InstAt s.heap a oe D none := ⟨got, zc, by unfold PySem.W.notCls; rw [hv], by rw [zd]; trivial⟩
      exact PySem.W.kia_one (PySem.W.handS_kitx_exc C.hg C.hk C.hs C.hd C.ha C.hn C.ht C.hm) I.kIn J e (fun z => nomatch z) fun tk => ⟨.bl b, H, I.kept (t' := tk) fun _ _ z => z, rfl, q⟩
end L2X
/-! lambdas as values: made, kept under watch, called through a def -/
namespace L2X
open PySem PySem.Spec PyProof.Rows L2 LamX
/-- the lambda of these cells stands at f, its code at c -/
def CloO (q : Str) (pr : Arguments) (body : Expr) (sc : Scope) (cl : List (Str × Addr)) (c f : Addr) : HO :=
  .ext fun h => ∃ pm ctv, h.get? f = some (PySem.W.kla_obj "<lambda>" q pr body sc cl pm c ctv)
theorem cloO_ok {P : Program} {w : World} {H : Hp} {h : Heap} {q : Str} {pr : Arguments} {body : Expr} {sc : Scope} {cl : List (Str × Addr)} {c f : Addr} {pm ctv : Value}
    (e : h.get? f = some (PySem.W.kla_obj "<lambda>" q pr body sc cl pm c ctv)) : ObjOk P w H h f (CloO q pr body sc cl c f) := by
  refine ⟨⟨pm, ctv, e⟩, ⟨_, e⟩, ?_⟩
  rintro h1 h2 ⟨pm', ctv', e'⟩ k
  exact ⟨pm', ctv', k _ e'⟩
section
variable {X : Cx}
def lamQ (X : Cx) : Str := X.env.qual ++ "<lambda>"
/-- what the making of a lambda asks, and what comes of it -/
def tLamV (T : List (Addr × Str)) (X : Cx) (pr : Arguments) (body : Expr) (sc : Scope) : TE := fun _ H Q =>
  Tabs T H ∧ ∀ (f c : Addr) (H1 : Hp), ExtN H H1 → Tabs T H1 → H1 c = some (CodeO c (lamQ X)) → H1 f = none → H f = none →
    (∀ b q' pr' body' sc' cl' c', H1 b = some (CloO q' pr' body' sc' cl' c' b) → c ≠ b) → Q (.ref f) (upd H1 f (CloO (lamQ X) pr body sc (cloFrom X.env.cells sc.names []) c f))
theorem pe_lamV {T : List (Addr × Str)} {c P : Addr} {pr : Arguments} {body : Expr} {sc : Scope} {pos : Pos} (TB : TabB X.base X.mg c P) (hcode : X.env.code = .ref c) (hm : (P, lamQ X) ∈ T)
    (hu : ∀ p ∈ T, p.1 = P → p.2 = lamQ X) (L : LamS X.env.scope sc) (hdef : defaultsOf pr X.env = ([], [])) : PE X (.Lambda pr body sc pos) (tLamV T X pr body sc) := by
  constructor
  rintro pins s σ H Q I ⟨hT, h⟩
  obtain ⟨ps, hP, trip, known⟩ := hT _ hm
  have clOk := closure_ok (L.has I.ok)
  have globs : s.heap.Ns mainGlobals X.mg := I.mod.glob.keeps I.bk
  have code0 := TB.code.keeps I.bk
  have blt0 : s.heap.BuiltinsAt X.mg P := TB.bm.keeps I.bk
  have atP : s.heap.get? P = some { cls := .none, data := .fields ps } := I.hok P _ hP
  -- the end of both ways: the def object is new
  have fin : ∀ (h' : Heap) (tk : Nat) (c' : Addr) (pm ctv : Value) (H1 : Hp), s.heap.objs.size ≤ h'.objs.size →
      Inv X pins σ H1 { s with heap := h'.push (PySem.W.kla_obj "<lambda>" (lamQ X) pr body sc (cloFrom X.env.cells sc.names []) pm c' ctv), toks := tk } →
      ExtN H H1 → Tabs T H1 → H1 c' = some (CodeO c' (lamQ X)) → H1 h'.objs.size = none →
      EP X pins σ Q (.ref h'.objs.size) { s with heap := h'.push (PySem.W.kla_obj "<lambda>" (lamQ X) pr body sc (cloFrom X.env.cells sc.names []) pm c' ctv), toks := tk } := by
    intro h' tk c' pm ctv H1 big J ext tabs hc n1
    have got : (h'.push (PySem.W.kla_obj "<lambda>" (lamQ X) pr body sc (cloFrom X.env.cells sc.names []) pm c' ctv)).get? h'.objs.size = _ := Heap.get?_push_size _ rfl
    have older : ∀ {b : Addr} {o : Obj}, s.heap.get? b = some o → b ≠ h'.objs.size := fun e => Nat.ne_of_lt (Nat.lt_of_lt_of_le (Heap.lt_size e) big)
    have n0 : X.s_0.heap.get? h'.objs.size = none := Heap.get?_none_of_le (Nat.le_trans I.sz big)
    have nL : h'.objs.size ≠ X.env.locals := Nat.ne_of_gt (Nat.lt_of_lt_of_le I.lt big)
    have np : ∀ p ∈ X.pn ++ pins, p.1 ≠ h'.objs.size := fun p hp => older (I.pin p hp).1
    have apart : ∀ b q' pr' body' sc' cl' c2, H1 b = some (CloO q' pr' body' sc' cl' c2 b) → c' ≠ b := by
      rintro b q' pr' body' sc' cl' c2 hb rfl
      obtain ⟨⟨pm2, ct2, e1⟩, _⟩ := J.hok c' _ hb
      obtain ⟨⟨oc, vs, t, e2, e3, _⟩, _⟩ := J.hok c' _ hc
      rw [e1] at e2
      cases e2
      cases e3
    refine ⟨.ref h'.objs.size, _, adopt J got (fun v z => ?_) n1 nL n0 np (cloO_ok got), rfl, h _ c' H1 ext tabs hc n1 (I.hok.fresh big) apart⟩
    cases z
  refine PySem.W.kla_eval hdef ?_
  cases among : codeAmong pos ps.toList with
  | some cv =>
    obtain ⟨c', rfl, hc'⟩ := known pos cv among
    refine PySem.W.kla_makeFunctionHit (mg := X.mg) (c := c) (P := P) (ps := ps) clOk I.ok.glob globs hcode code0 atP trip among blt0 ?_
    intro ctv h' tk keeps big
    exact fin h' tk c' _ ctv H big (I.kept fun b o e => Heap.get?_push_of_some _ (keeps b o e)) (ExtN.refl H) hT hc' (I.hok.fresh big)
  | none =>
    refine PySem.W.kla_makeFunction (mg := X.mg) (c := c) (P := P) (ps := ps) clOk I.ok.glob globs hcode code0 atP trip among TB.gP blt0 ?_
    intro c' ctv h' tk keeps ge lt rec tab
    obtain ⟨c2, oc, vs, t, e2, hoc, hd, hv⟩ := rec
    cases e2
    have big : s.heap.objs.size ≤ h'.objs.size := Nat.le_of_lt (Nat.lt_of_le_of_lt ge lt)
    have nc : H c' = none := I.hok.fresh ge
    have nPc : P ≠ c' := ne_of_none hP nc
    have J := inv_table (t' := tk) (more := #[rawInt pos.line, rawInt pos.col, .ref c']) (q := lamQ X) I hP
      (h' := h'.push (PySem.W.kla_obj "<lambda>" (lamQ X) pr body sc (cloFrom X.env.cells sc.names []) ((X.mg "__name__").getD .none) c' ctv))
      (fun b o hb e => Heap.get?_push_of_some _ (keeps b o hb e)) (Heap.get?_push_of_some _ tab) ge ⟨oc, vs, t, Heap.get?_push_of_some _ hoc, hd, hv⟩
    have ext : ExtN H (upd (upd H P (.tbl (ps ++ #[rawInt pos.line, rawInt pos.col, .ref c']))) c' (CodeO c' (lamQ X))) := by
      intro b o e notTab
      have nb : b ≠ P := by
        rintro rfl
        rw [hP] at e
        cases e
        exact notTab ps rfl
      rw [upd_ne (ne_of_none e nc), upd_ne nb]
      exact e
    have lst : (ps ++ #[rawInt pos.line, rawInt pos.col, .ref c']).toList = ps.toList ++ [rawInt pos.line, rawInt pos.col, .ref c'] := by simp
    refine fin h' tk c' _ ctv _ big J ext ?_ upd_same ?_
    · intro p hp
      by_cases hb : p.1 = P
      · refine ⟨ps ++ #[rawInt pos.line, rawInt pos.col, .ref c'], ?_, ?_, ?_⟩
        · rw [hb, upd_ne nPc, upd_same]
        · rw [lst]
          exact PySem.TriplesOk_snoc _ _ _ _ trip
        · intro p' cv hcv
          rw [hu p hp hb]
          rw [lst] at hcv
          cases among_app _ trip hcv with
          | inl z =>
            obtain ⟨c0, e1, e2⟩ := known p' cv z
            exact ⟨c0, e1, ext _ _ e2 codeO_ne⟩
          | inr z => exact ⟨c', z, upd_same⟩
      · obtain ⟨ps', a1, a2, a3⟩ := hT p hp
        refine ⟨ps', ?_, a2, ?_⟩
        · rw [upd_ne (ne_of_none a1 nc), upd_ne hb]
          exact a1
        · intro p' cv hcv
          obtain ⟨c0, e1, e2⟩ := a3 p' cv hcv
          exact ⟨c0, e1, ext _ _ e2 codeO_ne⟩
    · have n1 : h'.objs.size ≠ c' := Nat.ne_of_gt lt
      have n2 : h'.objs.size ≠ P := Nat.ne_of_gt (Nat.lt_of_lt_of_le (Heap.lt_size atP) big)
      rw [upd_ne n1, upd_ne n2]
      exact I.hok.fresh big
/-- a def that calls what it gets, a; TT: what it makes of the lambda's reading (with room for calls of its own) -/
def GivesR (X : Cx) (k : Nat) (Ng : List Str) (x : Str) (sg : Scope) (g : Addr) (cdg : Value) (bg : List Stmt) (a : Str) (q : Str) (TT : (XK → Hp → VK → Prop) → Hp → VK → Prop) : Prop :=
  ∀ (f c : Addr) (s : Shared) (H : Hp) (Q : VK) (tl : XK → Hp → VK → Prop), Room k (X.A.deeper (envOfC x sg s.heap.objs.size g cdg)) →
    (∀ (W : WX) (pn : List (Addr × Obj)) (xe : Value → Shared → Prop) (E : XK) (q1 q2 : Pos),
      Takes ((cxOf L2.CX0 X.prog X.w X.K X.mg X.base Ng x sg g cdg X.A X.stack s H L2.E0).tr pn xe) W → (∀ cls d σ' H', E cls d H' → W cls d σ' H') →
      PE ((cxOf L2.CX0 X.prog X.w X.K X.mg X.base Ng x sg g cdg X.A X.stack s H L2.E0).tr pn xe) (.Call (.Name a q1) [] [] q2)
        (fun σZ HZ Q => σZ[0]? = some (some (.ref f)) ∧ HZ c = some (CodeO c q) ∧ tl E HZ Q)) →
    H c = some (CodeO c q) → TT tl H Q →
    ∃ t, PSs (cxOf L2.CX0 X.prog X.w X.K X.mg X.base Ng x sg g cdg X.A X.stack s H L2.E0).nox bg t ∧ t { nx := fun _ H' => Q .non H', rt := Q } (L2.start Ng [.ref f]) H
/-- f(w) in a comprehension's block, w one of the frame's own lambdas, f a def that calls what it gets: the reading -/
def tCloCall {ι : Type} (X : Cx) (iw : Nat) (pr : ι → Arguments) (body : ι → Expr) (sc : ι → Scope) (t : ι → XK → TE) (TT : (XK → Hp → VK → Prop) → Hp → VK → Prop) (σ0 : L2.St) : TE := fun τ H Q =>
  ∃ (j : ι) (f c : Addr), τ[iw]? = some (some (.ref f)) ∧ H f = some (CloO (lamQ X) (pr j) (body j) (sc j) (cloFrom X.env.cells (sc j).names []) c f) ∧ H c = some (CodeO c (lamQ X)) ∧ c ≠ f ∧
    TT (fun E H' Q' => t j E σ0 H' Q') (delH H f) Q
theorem pe_clocall {ι : Type} {pins : List (Addr × Obj)} {σ0 : L2.St} {s1 : Shared} {H1 : Hp} {csc : Scope} {L : Addr} {cl : List (Str × Addr)} {fp : List Addr} (I1 : Inv X pins σ0 H1 s1) (hfp : ∀ b ∈ fp, FpOk X pins H1 b)
    {pr : ι → Arguments} {body : ι → Expr} {sc : ι → Scope} {t : ι → XK → TE} {TT : (XK → Hp → VK → Prop) → Hp → VK → Prop} {iw : Nat} {x a y : Str} {g : Addr} {k : Nat} {pg : Arguments} {bg : List Stmt} {sg : Scope} {dV kV doc pm cdv ct oc : Value} {an od : Option Addr}
    {osl : Array (Option Value)} {Ng : List Str} {p p' pos : Pos}
    (hg : Gl (Bk X csc s1 H1 L cl fp) x) (hm : X.mg x = some (.ref g)) (hk : PySem.W.keepIn X.K (.ref g) = true)
    (lk : X.K.lookup g = some ⟨oc, od, .func (PySem.W.fnOf x x pg bg sg dV kV doc pm an cdv ct), osl⟩) (hcg : PySem.W.codeIn X.K cdv x = true) (hb : L2.Binds X.K (PySem.W.fnOf x x pg bg sg dV kV doc pm an cdv ct) [a] [])
    (Sg : FnScope Ng [a] sg) (hNg : Ng[0]? = some a) (hva : Vis sg a) (hG : GivesR X (k + 1) Ng x sg g cdv bg a (lamQ X) TT) (hr : Room (k + 2) X.A)
    (hL : ∀ j, LamS X.env.scope (sc j)) (hbind : ∀ (j : ι) (q : Str) (cl : List (Str × Addr)) (pm cv ctv : Value), bindArgs (PySem.W.kla_fn "<lambda>" q (pr j) (body j) (sc j) cl pm cv ctv) ⟨[], []⟩ = pure [])
    (hbody : ∀ (j : ι) (A : Around) (outer : List Env) (s : Shared) (H : Hp) (E : XK) (f c : Addr), Room k (A.deeper (lamEnv X (sc j) s.heap.objs.size f c)) → PE (lamCx X A outer s H E (sc j) f c) (body j) (t j E))
    (hw : PE (Bk X csc s1 H1 L cl fp) (.Name y p') (tVar iw))
    (hdb : (x == ("__debug__" : Str)) = false := by decide) (hd : (a == ("__debug__" : Str)) = false := by decide) (hcd : (a == ("__classdict__" : Str)) = false := by decide) :
    PE (Bk X csc s1 H1 L cl fp) (.Call (.Name x p) [.Name y p'] [] pos) (tCloCall X iw pr body sc t TT σ0) := by
  constructor
  rintro pj s τ H Q B ⟨j, f, c, slot, clo, code, neC, h⟩
  refine wpAny_Call_Name_kw (ld_glob B hg hm ?_ hdb)
  have args : PA (Bk X csc s1 H1 L cl fp) [.Name y p'] (tCons (tVar iw) tNil) := pa_cons hw pa_nil
  refine PySem.W.callWith_K (h₀ := X.base) B.ok.mod.kin hk (thn (args.run pos pj s τ H (fun vs G => vs = [.ref f] ∧ G = H) B ⟨.ref f, slot, rfl, rfl⟩) ?_) (by rfl) (by rfl)
  rintro us s2 ⟨vs, G, B2, rel, rfl, rfl⟩
  refine ⟨B2.kIn, ?_⟩
  cases rel with
  | cons r0 rn =>
    cases rn
    cases r0
    have B3 := letgo B2 clo
    obtain ⟨⟨pm', ctv', got⟩, _⟩ := B2.hok f _ clo
    have offF : f ∉ frs X.stack := by
      intro hm'
      have z := B2.stkFree f hm'
      rw [clo] at z
      cases z
    have Iout : Inv X pins σ0 (delH G f) s2 := out_of I1 hfp B3
    have rc : codeAny (model X.prog X.w) X.A (.call (.ref g) ⟨[.ref f], []⟩) (CR L2.CX0 X.stack X.prog X.w (delH G f) s2 Q L2.E0) s2 := by
      refine run_ofS (N := Ng) (ps := [a]) (us := [.ref f]) (vs := [.ref f]) lk hcg Sg hr B3.env0 (hb s2 [.ref f] B3.kIn rfl) (.cons rfl .nil) rfl ?_
      intro hr'
      obtain ⟨t', ht', hq'⟩ := hG f c s2 (delH G f) Q (fun E H' Q' => t j E σ0 H' Q') hr'
        (fun W pn xe E q1 q2 tk hW => pe_act (i := 0) Iout (hL j) got delH_same offF (hbind j _ _ _ _ _) tk hW hr' (fun A outer s H hr2 => hbody j A outer s H E f c hr2) hNg hva hd hcd)
        (by rw [delH_ne neC]; exact code) h
      exact ⟨t', ht'.nox, hq'⟩
    refine wpAny_call (codeAny_mono rc ?_)
    rintro r s3 hq
    cases r with
    | error e => exact (show False from hq).elim
    | ok fl =>
      cases fl with
      | ret u => exact B3.after hq
      | next => exact False.elim hq
      | brk => exact False.elim hq
      | cont => exact False.elim hq
end
end L2X
namespace Dt
open PySem PySem.Spec PyProof.Rows L2 L2X LamX
theorem takesLen {X : Cx} {W : WX} (tk : Takes X W) : Takes X (fun cls d σ H => σ.length = X.N.length → W cls d σ H) := by
  rintro u s' ⟨a, B, sI, pins, σ, H, cls, d, e, I, nb, up, sky, na, os, ag, w⟩
  exact tk u s' ⟨a, B, sI, pins, σ, H, cls, d, e, I, nb, up, sky, na, os, ag, w I.len⟩
end Dt
/-! the end of a law whose own body asks who is around it: the law is run at its caller alone -/
namespace L2X
open PySem PySem.Spec PyProof.Rows L2 LamX
abbrev tabO : Obj := { cls := .none, data := .fields #[] }
abbrev lstO (vs : List Value) : Obj := { cls := .type "list", data := .seq vs.toArray }
/-- what is under watch when the law begins: the tables; the script, if the written part has it not -/
def beginH (K : PySem.W.Frag) (cs : List (Addr × Addr)) (a : Addr) (vs : List Value) (ns : List Int) : Hp := fun b =>
  if b ∈ cs.map (·.2) then some (.tbl #[]) else if b = a ∧ K.lookup a = none then some (.frz (lstO vs) (.lst (ns.map V.int))) else none
section
variable {P : Program} {w : World} {K : PySem.W.Frag} {mg mb : Str → Option Value} {fa a : Addr} {cs : List (Addr × Addr)} {s : Shared} {vs : List Value} {ns : List Int}
theorem begin_tab {p : Addr × Addr} (hp : p ∈ cs) : beginH K cs a vs ns p.2 = some (.tbl #[]) := by
  unfold beginH
  exact if_pos (List.mem_map.mpr ⟨p, hp, rfl⟩)
theorem begin_some {b : Addr} {u : HO} (e : beginH K cs a vs ns b = some u) : (b ∈ cs.map (·.2) ∧ u = .tbl #[]) ∨ (b = a ∧ K.lookup a = none ∧ u = .frz (lstO vs) (.lst (ns.map V.int))) := by
  unfold beginH at e
  split at e
  · rename_i h
    exact .inl ⟨h, (Option.some.inj e).symm⟩
  · split at e
    · rename_i h
      exact .inr ⟨h.1, h.2, (Option.some.inj e).symm⟩
    · cases e
theorem begin_none (hT : ∀ p ∈ cs, s.heap.get? p.2 = some tabO) (ha : s.heap.get? a = some (lstO vs)) {b : Addr} {o : Obj} (e : s.heap.get? b = some o) (n1 : o ≠ tabO) (n2 : o ≠ lstO vs) : beginH K cs a vs ns b = none := by
  cases q : beginH K cs a vs ns b with
  | none => rfl
  | some u =>
    exfalso
    rcases begin_some q with ⟨hm, _⟩ | ⟨rfl, _, _⟩
    · obtain ⟨p, hp, rfl⟩ := List.mem_map.mp hm
      rw [hT p hp] at e
      exact n1 (Option.some.inj e).symm
    · rw [ha] at e
      exact n2 (Option.some.inj e).symm
theorem law_callG (KX : K.In s.heap) (hns : s.heap.Ns mainGlobals mg) (hb : s.heap.Ns builtinsNs mb) (hbb : ∀ x : Str, x ≠ "__name__" → mb x = bootBuiltins x) (hlim : s.heap.NoLimit) (hg : s.gens = #[])
    (hT : ∀ p ∈ cs, s.heap.get? p.2 = some tabO) (nT : ∀ p ∈ cs, K.lookup p.2 = none) (C : ∀ p ∈ cs, PySem.W.CodeHd s.heap p.1 p.2)
    (hbm : ∃ (bm : Addr) (ob : Obj), mg "__builtins__" = some (.ref bm) ∧ bm ≠ builtinsNs ∧ s.heap.get? bm = some ob ∧ ob.cls = .type "module" ∧ ob.dict = some builtinsNs ∧ ob.data = .plain)
    (ha : s.heap.get? a = some (lstO vs)) (hi : IntsAre vs ns) (hl : ns.length ≤ sizeLine)
    (run : ∀ (base : Heap) (H : Hp), K.In base → base.Ns mainGlobals mg → (∀ p ∈ cs, TabB base mg p.1 p.2) → (∀ p ∈ cs, H p.2 = some (.tbl #[])) → SqL K H a (ns.map V.int) → Env0 P w K mg base callerA [] s H →
      codeAny (model P w) callerA (.call (.ref fa) ⟨[.ref a], []⟩) (CR L2.CX0 [] P w H s (fun v _ => v = .bl true) L2.E0) s) :
    codeAny (model P w) callerA (.call (.ref fa) ⟨[.ref a], []⟩) (fun r s' => r = .ok (.ret (.bool true)) ∧ OldK s.heap s'.heap ∧ s'.os = s.os ∧ AllBare s'.gens) s := by
  have rv := vals_ints hi
  have lv := hi.length
  generalize eH : beginH K cs a vs ns = H
  have tabs : ∀ p ∈ cs, H p.2 = some (.tbl #[]) := fun p hp => by rw [← eH]; exact begin_tab hp
  have off : ∀ {b : Addr} {o : Obj}, s.heap.get? b = some o → o ≠ tabO → o ≠ lstO vs → H b = none := fun e n1 n2 => by rw [← eH]; exact begin_none hT ha e n1 n2
  have isT : ∀ {b : Addr}, b ∈ cs.map (·.2) → s.heap.get? b = some tabO := by
    intro b hm
    obtain ⟨p, hp, rfl⟩ := List.mem_map.mp hm
    exact hT p hp
  have aT : a ∉ cs.map (·.2) := by
    intro hm
    have z := isT hm
    rw [ha] at z
    cases z
  -- the ground
  have nsK : ∀ {b : Addr} {m : Str → Option Value}, s.heap.Ns b m → (hidT s.heap H).Ns b m := by
    rintro b m ⟨o, es, ep, e, d, r⟩
    refine ⟨o, es, ep, hidT_get e (off e ?_ ?_), d, r⟩ <;> (rintro rfl; cases d)
  have inK : K.In (hidT s.heap H) := by
    intro b o e
    refine hidT_get (KX b o e) ?_
    cases q : H b with
    | none => rfl
    | some u =>
      exfalso
      rw [← eH] at q
      rcases begin_some q with ⟨hm, _⟩ | ⟨rfl, hk, _⟩
      · obtain ⟨p, hp, rfl⟩ := List.mem_map.mp hm
        rw [nT p hp] at e
        cases e
      · rw [hk] at e
        cases e
  have mod : L2.Mod K mg (hidT s.heap H) := by
    obtain ⟨mc, h1, h2⟩ := hlim
    exact ⟨inK, nsK hns, ⟨mb, nsK hb, hbb⟩, ⟨mc, nsK h1, h2⟩⟩
  have tabB : ∀ p ∈ cs, TabB (hidT s.heap H) mg p.1 p.2 := by
    intro p hp
    have tp := hT p hp
    obtain ⟨og, es, ep, gg, gd, _⟩ := id hns
    constructor
    · obtain ⟨o, us, file, tf, flags, tg, inF, text, tt, e1, r1, r2, r3, r4, r5, r6, r7, r8, hne⟩ := C p hp
      refine ⟨o, us, file, tf, flags, tg, inF, text, tt, hidT_get e1 (off e1 ?_ ?_), r1, r2, r3, r4, r5, r6, r7, r8, hne⟩
      · rintro rfl
        cases r2
        simp at r3
      · rintro rfl
        cases r2
    · obtain ⟨bm, ob, b1, b2, b3, b4, b5, b6⟩ := hbm
      refine ⟨bm, ob, b1, b2, ?_, ?_, hidT_get b3 (off b3 ?_ ?_), b4, b5, b6⟩
      · rintro rfl
        rw [gg] at b3
        cases b3
        rw [gd] at b6
        cases b6
      · rintro rfl
        rw [tp] at b3
        cases b3
        cases b6
      · rintro rfl
        cases b6
      · rintro rfl
        cases b6
    · intro z
      rw [z, tp] at gg
      cases gg
      cases gd
  have hokH : HOk P w H s.heap := by
    intro b u e
    rw [← eH] at e
    rcases begin_some e with ⟨hm, rfl⟩ | ⟨rfl, _, rfl⟩
    · exact isT hm
    · exact ⟨ha, by rw [List.length_map]; exact hl, vs, _, rv, ha⟩
  have sq : SqL K H a (ns.map V.int) := by
    cases hk : K.lookup a with
    | some o =>
      have z := KX a o hk
      rw [ha] at z
      cases z
      exact .inr ⟨_, vs.toArray, _, hk, rfl, rfl, rfl, by rw [List.size_toArray, lv]; exact hl, by simpa using rv⟩
    | none =>
      refine .inl (.inr ⟨lstO vs, ?_⟩)
      rw [← eH]
      unfold beginH
      rw [if_neg aT, if_pos ⟨rfl, hk⟩]
  have e0 : Env0 P w K mg (hidT s.heap H) callerA [] s H :=
    by
    constructor
    · rfl
    · exact mod
    · exact fun b o e => of_hidT e
    · exact Nat.le_of_eq (hidT_size _ _)
    · trivial
    · exact fun b hb => nomatch (show b ∈ ([] : List Addr) from hb)
    · exact hokH
    · exact .of_eq hg
  refine codeAny_mono (run _ H inK (nsK hns) tabB tabs sq e0) ?_
  rintro r s' h
  cases r with
  | error e => exact (show False from h).elim
  | ok fl =>
    cases fl with
    | next => exact False.elim h
    | brk => exact False.elim h
    | cont => exact False.elim h
    | ret u =>
      obtain ⟨v, H', os, bare, un, hok', rr, rfl⟩ := h
      obtain rfl : u = Value.bool true := rr
      have stay : ∀ b o, b ∉ cs.map (·.2) → s.heap.get? b = some o → s'.heap.get? b = some o := by
        intro b o nb e
        cases q : H b with
        | none => exact un.keep b o e q (fun z => nomatch z) (fun z => nomatch z)
        | some u =>
          have q2 := q
          rw [← eH] at q2
          rcases begin_some q2 with ⟨hm, _⟩ | ⟨rfl, _, rfl⟩
          · exact absurd hm nb
          · obtain ⟨z, _⟩ := hok' _ _ (un.frzs _ _ _ q)
            rw [ha] at e
            cases e
            exact z
      have grow : ∀ p ∈ cs, ∃ more : Array Value, s'.heap.get? p.2 = some { cls := .none, data := .fields more } := by
        intro p hp
        obtain ⟨more, z⟩ := un.tbls p.2 #[] (tabs p hp)
        exact ⟨_, hok' p.2 _ z⟩
      refine ⟨rfl, ⟨fun b o e => ?_, fun b o e => ?_⟩, os, bare⟩
      · by_cases hb : b ∈ cs.map (·.2)
        · obtain ⟨p, hp, rfl⟩ := List.mem_map.mp hb
          obtain ⟨more, hm⟩ := grow p hp
          rw [hT p hp] at e
          cases e
          exact .inr (.inl ⟨((C p hp).tab (hT p hp)).isCodeTable, rfl, #[], more, rfl, by rw [Array.empty_append]; exact hm⟩)
        · exact .inl (stay b o hb e)
      · by_cases hb : b ∈ cs.map (·.2)
        · obtain ⟨p, hp, rfl⟩ := List.mem_map.mp hb
          obtain ⟨more, hm⟩ := grow p hp
          exact ⟨_, hm⟩
        · exact ⟨o, stay b o hb e⟩
end
end L2X
/-! a lambda handed straight to a def that calls what it gets, with room for calls of its own; list.count of data -/
namespace L2X
open PySem PySem.Spec PyProof.Rows L2 LamX
section
variable {X : Cx}
theorem pe_lamcallR {T : List (Addr × Str)} {TT : (XK → Hp → VK → Prop) → Hp → VK → Prop} {x a : Str} {g c P : Addr} {k : Nat} {pg : Arguments} {bg : List Stmt} {sg : Scope} {dV kV doc pm cdv ct oc : Value} {an od : Option Addr} {osl : Array (Option Value)} {Ng : List Str}
    {params : Arguments} {body : Expr} {scope : Scope} {t : XK → TE} {p lpos pos : Pos} (hg : Gl X x) (hm : X.mg x = some (.ref g)) (hk : PySem.W.keepIn X.K (.ref g) = true)
    (lk : X.K.lookup g = some ⟨oc, od, .func (PySem.W.fnOf x x pg bg sg dV kV doc pm an cdv ct), osl⟩) (hcg : PySem.W.codeIn X.K cdv x = true) (hb : L2.Binds X.K (PySem.W.fnOf x x pg bg sg dV kV doc pm an cdv ct) [a] []) (Sg : FnScope Ng [a] sg) (hNg : Ng[0]? = some a) (hva : Vis sg a)
    (hG : GivesR X (k + 1) Ng x sg g cdv bg a (lamQ X) TT)
    (TB : TabB X.base X.mg c P) (hcode : X.env.code = .ref c) (hmT : (P, lamQ X) ∈ T) (hu : ∀ p ∈ T, p.1 = P → p.2 = lamQ X) (hr : Room (k + 2) X.A) (L : LamS X.env.scope scope) (hdef : defaultsOf params X.env = ([], []))
    (hbind : ∀ (q : Str) (cl : List (Str × Addr)) (pm cv ctv : Value), bindArgs (PySem.W.kla_fn "<lambda>" q params body scope cl pm cv ctv) ⟨[], []⟩ = pure [])
    (hbody : ∀ (A : Around) (outer : List Env) (s : Shared) (H : Hp) (E : XK) (f c' : Addr), Room k (A.deeper (lamEnv X scope s.heap.objs.size f c')) → PE (lamCx X A outer s H E scope f c') body (t E))
    (hdb : (x == ("__debug__" : Str)) = false := by decide) (hd : (a == ("__debug__" : Str)) = false := by decide) (hcd : (a == ("__classdict__" : Str)) = false := by decide) :
    PE X (.Call (.Name x p) [.Lambda params body scope lpos] [] pos) (tLam T TT t) := by
  constructor
  rintro pins s σ H Q I ⟨hT, h⟩
  refine wpAny_Call_Name_kw (ld_glob I hg hm ?_ hdb)
  refine PySem.W.callWith_K (h₀ := X.base) I.ok.mod.kin hk ?_ (by rfl) (by rfl)
  show wpAny _ _ (spliced ((false, eval (.Lambda params body scope lpos) X.env) :: backTo pos (starEach [] X.env))) _ _ s
  refine Calls.spliced_cons (lam_make2 I TB hcode hmT hu hT hdef (L.has I.ok) fun f c' pm' ctv H1 s' I1 eN T1 hf hfn hfr hco => ?_)
  refine Calls.spliced_nil ⟨I1.kIn, ?_⟩
  have rc : codeAny (model X.prog X.w) X.A (.call (.ref g) ⟨[.ref f], []⟩) (CR L2.CX0 X.stack X.prog X.w H1 s' Q L2.E0) s' := by
    refine run_ofS (N := Ng) (ps := [a]) (us := [.ref f]) (vs := [.ref f]) lk hcg Sg hr I1.env0 (hb s' [.ref f] I1.kIn rfl) (.cons rfl .nil) rfl ?_
    intro hr'
    obtain ⟨t', ht', hq'⟩ := hG f c' s' H1 Q (fun E H' Q' => t E σ H' Q') hr'
      (fun W pn xe E p1 p2 tk hW => pe_act (i := 0) I1 L hf hfn hfr (hbind _ _ _ _ _) tk hW hr' (fun A outer s H hr2 => hbody A outer s H E f c' hr2) hNg hva hd hcd) hco (h H1 eN T1)
    exact ⟨t', ht'.nox, hq'⟩
  refine wpAny_call (codeAny_mono rc ?_)
  rintro r s2 hq
  cases r with
  | error e => exact (show False from hq).elim
  | ok fl =>
    cases fl with
    | ret u => exact I1.after hq
    | next => exact False.elim hq
    | brk => exact False.elim hq
    | cont => exact False.elim hq
/-- l.count(x) of data -/
def rCountD (K : PySem.W.Frag) : V → List V → Hp → VK → Prop := fun x xs H Q => ∃ (a : Addr) (y : V) (d : PyData) (ds : List PyData), x = V.ref a ∧ xs = [y] ∧ Dp K H (V.ref a) (.list ds) ∧ Dp K H y d ∧
  SeqAt.shaped (.list ds) = true ∧ SeqAt.shaped d = true ∧ Q (.int (ds.countP fun z => PyData.eqv z d : Nat)) H
theorem mt_countD (hu : X.A.units + 65 < cLine) : MtR X "list.count" (rCountD X.K) := by
  intro pins s σ H x xs v us Q I rx rxs h
  obtain ⟨a, y, d, ds, rfl, rfl, hl, hy, sl, sd, q⟩ := h
  cases rx
  obtain ⟨uy, rfl, ry⟩ := rxs.one
  obtain ⟨bs, r1⟩ := Dp.reads I d y uy hy ry
  have hxs : PyData.canLayAll0 ds = true := SeqAt.canLay_of_shaped sl
  have hroom : X.A.units + 1 + min (PyData.depthAll ds) d.depth < cLine := room_in_shaped sd hu
  cases hl with
  | lst hs ha =>
    obtain ⟨its, rv, ⟨⟨cls, dd, data, sls⟩, n, ho, hc, hdn, hdt⟩, hlen⟩ := I.list hs
    simp only at hc hdt
    subst hc hdt
    obtain ⟨as, h4⟩ := Dp.readsAll I ds _ its ha rv
    have hmap : its.map (SeqAt.readOf s.heap) = ds := SeqAt.readsAll_map ds its as hxs h4
    refine call_meets PySem.F.slot_list_count ⟨_, ho, rfl⟩ PySem.F.entry_list_count (PySem.F.args_list_count_2 _ _)
      (SeqAt.list_countAt a its.toArray n dd sls uy (fun u => PyData.eqv (SeqAt.readOf s.heap u) d)) ⟨ho, SeqAt.items_eqAt (vs := its.toArray) (show ReadsAll s.heap its.toArray.toList ds as from h4) r1 hxs (SeqAt.canLay_of_shaped sd) hroom, ?_⟩
    have ec : its.toArray.toList.countP (fun u => PyData.eqv (SeqAt.readOf s.heap u) d) = ds.countP fun z => PyData.eqv z d := by
      rw [← hmap, List.countP_map]
      rfl
    refine ⟨.int (ds.countP fun z => PyData.eqv z d : Nat), H, I.tok _, ⟨s.toks, ?_⟩, q⟩
    show Value.int ((its.toArray.toList.countP (fun u => PyData.eqv (SeqAt.readOf s.heap u) d) : Nat) : Int) s.toks = Value.int ((ds.countP fun z => PyData.eqv z d : Nat) : Int) s.toks
    rw [ec]
end
end L2X
/-! kept exceptions, with or without a field -/
namespace L2X
open PySem PySem.Spec PyProof.Rows L2
/-- a kept exception stands at a, of the class at D; its dict, if it has one -/
def KX (H : Hp) (a D : Addr) (d : Option Addr) : Prop := H a = some (ExI (.ref D) d a) ∧ (d = none ∨ ∃ dd fs, d = some dd ∧ H dd = some (.xd fs))
theorem KX.same {H H' : Hp} {a D : Addr} {d : Option Addr} (h : KX H a D d) (s : Same H H') : KX H' a D d :=
  ⟨s _ _ h.1, h.2.imp id fun ⟨dd, fs, e, q⟩ => ⟨dd, fs, e, s _ _ q⟩⟩
theorem kx_kit {X : Cx} {pins : List (Addr × Obj)} {σ : L2.St} {H : Hp} {s : Shared} {a D : Addr} {d : Option Addr} (I : Inv X pins σ H s) (C : ExcC X.K D) (h : KX H a D d) :
    ∃ Pp : Heap → Prop, PySem.W.KitX X.K (.ref a) (.ref D) Pp ∧ Pp s.heap := by
  obtain ⟨ha, hd⟩ := h
  obtain ⟨⟨oe, got, ⟨zc, zd⟩, vs, hv⟩, _⟩ := I.hok a _ ha
  rcases hd with rfl | ⟨dd, fs, rfl, hd⟩
  · have J : PySem.W.InstAt s.heap a oe D none := ⟨got, zc, by unfold PySem.W.notCls; rw [hv], by rw [zd]; trivial⟩
    exact ⟨_, PySem.W.handS_kitx_exc C.hg C.hk C.hs C.hd C.ha C.hn C.ht C.hm, J⟩
  · have hx : ObjOk X.prog X.w H s.heap dd (.xd fs) := I.hok dd _ hd
    obtain ⟨mA, hns, _⟩ := hx
    obtain ⟨od, ho, _⟩ := lookIn_ns hns
    have J : PySem.W.InstAt s.heap a oe D (some od) := ⟨got, zc, by unfold PySem.W.notCls; rw [hv] <;> rfl, by rw [zd]; exact ho⟩
    have hcl : (PySem.W.clsIn X.K D).isSome = true := by
      cases hc : PySem.W.clsIn X.K D with
      | some cd => rfl
      | none =>
        have := C.hd
        unfold PySem.W.hasDictIn at this
        rw [hc] at this
        cases this
    exact ⟨_, PySem.W.kitx_exc hcl C.hg C.hk C.hs C.ha C.hn C.ht C.hm, J⟩
/-- isinstance(e, c), e a kept exception -/
def rIsY (K : PySem.W.Frag) : List V → Hp → VK → Prop := fun xs H Q => ∃ (a D : Addr) (d : Option Addr) (c : V) (cv : Value) (b : Bool), xs = [.ref a, c] ∧ KX H a D d ∧ ExcC K D ∧ (∀ u, RelV c u → u = cv) ∧ PySem.W.kitOne K (.ref D) cv = some b ∧ Q (.bl b) H
theorem call_isY {X : Cx} : CallR X (.builtin "isinstance") (rIsY X.K) := by
  intro pins s σ H xs us Q I r h
  obtain ⟨a, D, d, c, cv, b, rfl, ha, C, hcv, e, q⟩ := h
  cases r with
  | cons rx rr =>
    cases rr with
    | cons rt rr =>
      cases rr
      cases rx
      have ec := hcv _ rt
      subst ec
      obtain ⟨Pp, Z, p⟩ := kx_kit I C ha
      exact PySem.W.kia_one Z I.kIn p e (fun z => nomatch z) fun tk => ⟨.bl b, H, I.kept (t' := tk) fun _ _ z => z, rfl, q⟩
/-- .. of a tuple of classes -/
def rIsYT (K : PySem.W.Frag) : List V → Hp → VK → Prop := fun xs H Q => ∃ (a D : Addr) (d : Option Addr) (tp : Addr) (cs : List V) (us : List Value) (b : Bool), xs = [.ref a, .ref tp] ∧ KX H a D d ∧ ExcC K D ∧ H tp = some (.tup cs) ∧ Paired ClsV cs us ∧ PySem.W.kitAny K (.ref D) us = some b ∧ Q (.bl b) H
theorem call_isYT {X : Cx} : CallR X (.builtin "isinstance") (rIsYT X.K) := by
  intro pins s σ H xs us Q I r h
  obtain ⟨a, D, d, tp, cs, ws, b, rfl, ha, C, hT, k, e, q⟩ := h
  obtain ⟨u1, u2, rfl, r1, r2⟩ := vals2 r
  cases (show u1 = Value.ref a from r1)
  cases (show u2 = Value.ref tp from r2)
  obtain ⟨Pp, Z, p⟩ := kx_kit I C ha
  obtain ⟨_, its, rv, o, h1, h2, n, h3⟩ := (show ObjOk X.prog X.w H s.heap tp (.tup cs) from I.hok tp _ hT)
  have e3 := ClsV.all k rv
  subst e3
  obtain ⟨oc, od, dt, sl⟩ := o
  simp only at h2 h3
  subst h2 h3
  exact PySem.W.kia_tup Z I.kIn p h1 e (fun z => nomatch z) fun tk => ⟨.bl b, H, I.tok tk, rfl, q⟩
/-- the field of a kept exception -/
def tYf (C : Addr) (f : Str) (te : TE) : TE := fun σ H Q => te σ H fun x H1 => ∃ (a dd : Addr) (fs : List (Str × V)) (v : V), x = .ref a ∧ H1 a = some (ExI (.ref C) (some dd) a) ∧ H1 dd = some (.xd fs) ∧ fs.lookup f = some v ∧ Q v H1
theorem pe_yf {X : Cx} {C : Addr} {e : Expr} {te : TE} {pos : Pos} {n : Str} (T : XfC X.K C) (hno : PySem.W.findIn X.K (.ref C) n = some none) (he : PE X e te) (hb : attributeBase e n X.env (eval e X.env) = eval e X.env := by rfl) :
    PE X (.Attribute e n pos) (tYf C n te) := by
  refine ⟨fun pins s σ H Q I h => ?_⟩
  refine attr_of hb (thn (he.run pins s σ H _ I h) fun u s1 hh => ?_)
  obtain ⟨x, H1, I1, rx, a, dd, fs, v, ex, ea, ed, l, q⟩ := hh
  subst ex
  obtain rfl : u = Value.ref a := rx
  obtain ⟨⟨oe, got, ⟨zc, zd⟩, vs, hv⟩, _⟩ := I1.hok a _ ea
  have hx : ObjOk X.prog X.w H1 s1.heap dd (.xd fs) := I1.hok dd _ ed
  obtain ⟨mA, hns, hr⟩ := hx
  obtain ⟨od, ho, hl⟩ := lookIn_ns hns
  obtain ⟨u, hu, ru⟩ := RelO.some_of (v := v) (o := mA n) (by rw [← l]; exact hr n)
  have J : PySem.W.InstAt s1.heap a oe C (some od) := ⟨got, zc, by unfold PySem.W.notCls; rw [hv] <;> rfl, by rw [zd]; exact ho⟩
  exact HandSPX.exc_get I1.kIn J T.ga T.gg T.exC (PySem.W.findObj_own T.hdC hno rfl (by rw [hl, hu])) (handed_of ru) ⟨v, H1, I1.tok _, ru, q⟩
end L2X
namespace Dt
open PySem PySem.Spec PyProof.Rows L2 L2X
open SX (S)
/-! ### TooMany and its field -/
abbrev sTM : Stmt := inClass (topS 12) 0
theorem scTM : FnScope ["self", "most"] ["self", "most"] (defScope sTM) := ⟨rfl, rfl, rfl, by decide +kernel, rfl, by decide +kernel, by decide +kernel⟩
def spTM (C : Addr) : Sp := fun vs H Q _ => ∃ (a : Addr) (v : V), vs = [.ref a, v] ∧ H a = some (exo a C none) ∧ ∀ dx, H dx = none → dx ≠ a → Q .non (upd (upd H dx (exd dx [("most", v)])) a (exo a C (some dx)))
/-- the class TooMany as the top has made it -/
structure Ttm (K : PySem.W.Frag) (mg : Str → Option Value) (C : Addr) : Prop where
  g : mg "TooMany" = some (.ref C)
  o : OexC K C
  no : PySem.W.findIn K (.ref C) "most" = some none
  fi : ∃ fI fd, PySem.W.findIn K (.ref C) "__init__" = some (some (.ref fI)) ∧ PySem.W.typeIn K (.ref fI) = some (.type "function") ∧ Fun K "__init__" "TooMany.__init__" sTM fI fd ∧ Binds K fd ["self", "most"] []
/-- it leaves with this in its field -/
def RaiseM (E : XK) (C : Addr) (v : V) (H : Hp) : Prop := ∀ d H', Same H H' → H d = none → H' d = some (.xd [("most", v)]) → E (.ref C) (some d) H'
theorem RaiseM.same {E : XK} {C : Addr} {v : V} {H H' : Hp} (h : RaiseM E C v H) (s : Same H H') : RaiseM E C v H' := fun d H2 s2 n e => h d H2 (s.trans s2) (s.free n) e
theorem raiseM_by {E : XK} {C : Addr} {v : V} {H : Hp} (h : RaiseM E C v H) : [v].length ≤ 1000 ∧ ∀ a, H a = none → spTM C (.ref a :: ([v] ++ [])) (upd H a (exo a C none))
    (fun u H2 => u = .non ∧ ∃ (d : Addr) (fs : List (Str × V)), H2 a = some (exo a C (some d)) ∧ H2 d = some (exd d fs) ∧ H d = none ∧ E (.ref C) (some d) (upd (del H2 a) d (.xd fs))) (fun _ _ _ => False) := by
  refine ⟨by show 1 ≤ 1000; decide, fun a ha => ⟨a, v, rfl, upd_same, fun dx hd ne => ⟨rfl, dx, [("most", v)], upd_same, ?_, ?_, ?_⟩⟩⟩
  · rw [upd_ne ne, upd_same]
  · rw [upd_ne ne] at hd
    exact hd
  · rw [upd_ne ne] at hd
    refine h dx _ (fun b o e => ?_) hd upd_same
    rw [upd_ne (ne_of_none e hd), del_ne (ne_of_none e ha), upd_ne (ne_of_none e ha), upd_ne (ne_of_none e hd), upd_ne (ne_of_none e ha)]
    exact e
section
variable {P : Program} {w : World} {K : PySem.W.Frag} {mg : Str → Option Value} {base : Heap} {C : Addr}
theorem ok_tm {f : Addr} {fd : FuncData} {k : Nat} (F : Fun K "__init__" "TooMany.__init__" sTM f fd) (o : OexC K C) (no : PySem.W.findIn K (.ref C) "most" = some none) : FnOk P w K mg base CX0 (k + 1) f fd ["self", "most"] (spTM C) := by
  refine F.ok scTM (fun vs H Q E h => ?_) (fun cdv A outer s H vs Q E hr h => ?_)
  · obtain ⟨a, v, rfl, _⟩ := h
    rfl
  · obtain ⟨a, v, rfl, ha, q⟩ := h
    refine ⟨_, pss_one (ps_ost (pv 0) (pv 1)), ?_⟩
    exact ⟨v, rfl, .ref a, rfl, a, C, rfl, o, no, .inl ⟨ha, fun dx hd ne => q dx hd ne⟩⟩
end
end Dt
namespace L2X
open PySem PySem.Spec PyProof.Rows L2
/-- what a frame takes, its callee may let out -/
theorem passE {X : Cx} {E : XK} (tk : Takes X (fun cls d _ H => E cls d H)) : Passes (L2.CX X.prog X.w) X E := fun pins σ H s e s' I h => passAt tk σ pins H s e s' I h
end L2X
namespace L2X
open PySem PySem.Spec PyProof.Rows L2
theorem pi_listK {X : Cx} {K : PySem.W.Frag} {tg l : Expr} {tl : TE} (hK : X.K = K) (hl : PE X l tl) : PI X tg l (iList K tl) := by
  subst hK
  exact pi_list hl
end L2X
namespace Dt
open PySem PySem.Spec PyProof.Rows L2 L2X
open SX (S)
open StX
open Fl
abbrev sFI : Stmt := topS 33
abbrev nFI : List Str := ["picture", "rows", "columns", "across", "boxes", "ahead", "by_rows", "box", "part"]
theorem scFI : FnScope nFI ["picture", "rows", "columns"] (defScope sFI) := ⟨rfl, rfl, rfl, by decide +kernel, rfl, by decide +kernel, by decide +kernel⟩
def spFI (K : PySem.W.Frag) : Sp := fun vs H Q _ => ∃ (a : Addr) (d c high wide : Nat) (rs : List (List Nat)), vs = [.ref a, .int d, .int c] ∧ H a = some (.tup (rs.map rv)) ∧ PicR high wide rs ∧ 1 ≤ d ∧ d ≤ 60 ∧ 1 ≤ c ∧ c ≤ 60 ∧
  ∀ (l : Addr) (xs : List V) (bs : List Bx) H', Same H H' → H l = none → H' l = some (.lst xs) → Flds (DR rs) d c high wide bs → Tin K H' xs (bs.map bI) → Q (.ref l) H'
abbrev FnFI (K : PySem.W.Frag) (f : Addr) (fd : FuncData) : Prop := FunD K "fields" "fields" (defArgs sFI) (defBody sFI) (defScope sFI) [] [("rows", .int 2), ("columns", .int 4)] f fd
theorem fi_binds {K : PySem.W.Frag} {f : Addr} {fd : FuncData} (F : FnFI K f fd) : ∃ mv : List Value, KBn K fd ["picture", "rows", "columns"] 1 ["rows", "columns"] (fun us ws => us ++ ws ++ mv.take 0) (fun vs zs => vs ++ zs ++ ([] : List V)) := by
  obtain ⟨mv, h⟩ := F.kbinds0 (ps := ["picture", "rows", "columns"]) 1 ["rows", "columns"] [] (fun us _ ws => us ++ ws) (by simp) (fun q h => nomatch h) (fun r _ z => r.append z)
    (fun D doc pm an cdv ct us mv ws h1 h2 h3 => match us, ws, mv, h1, h3, h2 with
      | [_], [_, _], [], _, _, _ => rfl)
  exact ⟨mv, ⟨fun s us ws X l1 l2 => by rw [List.take_zero, List.append_nil]; exact h.to s us ws X l1 l2, fun r z => by rw [List.take_zero, List.append_nil, List.append_nil]; exact h.rel r z⟩⟩
/-- what stands at each turn -/
structure FiW (K : PySem.W.Frag) (H0 : Hp) (D : Dots) (d c high wide : Nat) (H : Hp) (l la : Addr) (bs cs : List Bx) : Prop where
  sm : Same H0 H
  lx : ∃ xs, H l = some (.lst xs) ∧ Tin K H xs (bs.map bI)
  ly : ∃ ys, H la = some (.lst ys) ∧ Tin K H ys (cs.map bI)
  dim : Dim bs
  ar : areas bs ≤ high * wide
  itn : ∃ n, bs = it D d c n [whole high wide]
  fx : bs = cs → stepF D d c bs = bs
theorem flat_snoc {α β : Type} {f : α → List β} {bs : List α} {i : Nat} {b : α} (h : bs[i]? = some b) : (bs.take (i + 1)).flatMap f = (bs.take i).flatMap f ++ f b := by
  rw [take_snoc h, List.flatMap_append, List.flatMap_cons, List.flatMap_nil, List.append_nil]
def spFIX (K : PySem.W.Frag) (C CT : Addr) : Sp := fun vs H Q E => ∃ x z1 z2 : V, vs = [x, z1, z2] ∧ Kt K H z1 ∧ Kt K H z2 ∧
  ((Asked K H x false ∧ ∀ H', Same H H' → E (.ref C) none H') ∨ ∃ (a : Addr) (high wide : Nat) (rs : List (List Nat)), x = .ref a ∧ H a = some (.tup (rs.map rv)) ∧ PicR high wide rs ∧
    (((betw z1 1 60 && betw z2 1 60) = false ∧ RaiseM E CT (.int 60) H) ∨ ∃ d c : Nat, z1 = .int d ∧ z2 = .int c ∧ 1 ≤ d ∧ d ≤ 60 ∧ 1 ≤ c ∧ c ≤ 60 ∧ ∀ (l : Addr) H', Same H H' → Q (.ref l) H'))
/-- what a box within a page is -/
def BoxQ (K : PySem.W.Frag) (H : Hp) (high wide : Nat) (y : V) (ok : Bool) : Prop :=
  (∃ T, TyB K H y T ∧ tyOk T = true ∧ T ≠ "tuple" ∧ ok = false) ∨ (∃ t xs, y = .ref t ∧ SqT K H t xs ∧ xs.length ≠ 4 ∧ ok = false) ∨
  (∃ t x1 x2 x3 x4, y = .ref t ∧ SqT K H t [x1, x2, x3, x4] ∧ Kt K H x1 ∧ Kt K H x2 ∧ Kt K H x3 ∧ Kt K H x4 ∧ ok = (strB x1 x3 high && strB x2 x4 wide))
theorem tyB_s {K : PySem.W.Frag} {H H' : Hp} {x : V} {T : String} (t : TyB K H x T) (s : Same H H') : TyB K H' x T := by
  cases t with
  | non => exact .non
  | bl b => exact .bl b
  | int i => exact .int i
  | str x => exact .str x
  | byt b => exact .byt b
  | lst h => exact .lst (s.seq h)
  | tup h => exact .tup (sameT s h)
  | dK h => exact .dK (s _ _ h)
theorem BoxQ.same {K : PySem.W.Frag} {H H' : Hp} {high wide : Nat} {y : V} {ok : Bool} (h : BoxQ K H high wide y ok) (s : Same H H') : BoxQ K H' high wide y ok := by
  rcases h with ⟨T, t, o, n, e⟩ | ⟨t, xs, e, ht, n, e2⟩ | ⟨t, x1, x2, x3, x4, e, ht, k1, k2, k3, k4, e2⟩
  · exact .inl ⟨T, tyB_s t s, o, n, e⟩
  · exact .inr (.inl ⟨t, xs, e, sameT s ht, n, e2⟩)
  · exact .inr (.inr ⟨t, x1, x2, x3, x4, e, sameT s ht, k1.same s, k2.same s, k3.same s, k4.same s, e2⟩)
def spWBX (K : PySem.W.Frag) (C CP : Addr) : Sp := fun vs H Q E => ∃ x y : V, vs = [x, y] ∧
  ((Asked K H x false ∧ ∀ H', Same H H' → E (.ref C) none H') ∨ ∃ (a : Addr) (high wide : Nat) (rs : List (List Nat)) (ok : Bool), x = .ref a ∧ H a = some (.tup (rs.map rv)) ∧ PicR high wide rs ∧ BoxQ K H high wide y ok ∧
    (ok = true → ∀ H', Same H H' → Q .non H') ∧ (ok = false → ∀ H', Same H H' → E (.ref CP) none H'))
section
variable {P : Program} {w : World} {K : PySem.W.Frag} {mg : Str → Option Value} {base : Heap} {C CP CT : Addr}
theorem ok_fix {f : Addr} {fd : FuncData} {k : Nat} (F : FnFI K f fd) (T : Tx mg) (mb : ∃ t, mg "MOST_BAND" = some (.int 60 t)) (GW : GW P w K mg base C (k + 2)) (GB : Pm P w K mg base CX0 (k + 2) "is_between" ["thing", "least", "most"] (spBetw K))
    (GC : Pm P w K mg base CX0 (k + 2) "columns_of" ["rows"] spCO) (GP : Pm P w K mg base CX0 (k + 2) "_parted" ["page", "box", "least"] (spPT K)) (GF : Pm P w K mg base CX0 (k + 2) "_flipped" ["box"] spFP) (N : Ttm K mg CT) :
    FnOk P w K mg base (L2.CX P w) (k + 3) f fd ["picture", "rows", "columns"] (spFIX K C CT) := by
  obtain ⟨fW, fdW, GW, mW, kW, bW⟩ := GW.ex
  obtain ⟨fB, fdB, GB, mB, kB, bB⟩ := GB.ex
  obtain ⟨fC, fdC, GC, mC, kC, bC⟩ := GC.ex
  obtain ⟨fP, fdP, GP, mP, kP, bP⟩ := GP.ex
  obtain ⟨fF, fdF, GF, mF, kF, bF⟩ := GF.ex
  obtain ⟨tb, hmb⟩ := mb
  obtain ⟨fI, fdI, iC, tI, FI, bTM⟩ := N.fi
  have GI : FnOk P w K mg base CX0 (k + 1) fI fdI ["self", "most"] (spTM CT) := ok_tm FI N.o N.no
  refine F.ok scFI (fun vs H Q E h => ?_) (fun cdv A outer s H vs Q E hr h => ?_)
  · obtain ⟨x, y1, y2, rfl, _⟩ := h
    rfl
  · obtain ⟨x, z1, z2, rfl, k1, k2, h⟩ := h
    have nd := scFI.nd
    refine ⟨_, pss_cons (ps_expr (pe_callS GW hr (by rfl) mW kW bW (fun σ => passAt (takes_of rfl rfl rfl rfl) σ) (pa_cons (pv 0) pa_nil)))
      (pss_cons (ps_if (PW.pt (pw_or (pt_not (pt_val (pe_call GB hr (by rfl) mB kB bB .nil pass0 (pa_cons (pv 1) (pa_cons pe_int (pa_cons (pe_glob (v := .int 60) (by rfl) hmb ⟨_, rfl⟩) pa_nil)))))) (pw_or1 (pt_not (pt_val (pe_call GB hr (by rfl) mB kB bB .nil pass0 (pa_cons (pv 2) (pa_cons pe_int (pa_cons (pe_glob (v := .int 60) (by rfl) hmb ⟨_, rfl⟩) pa_nil))))))))) (pss_one (ps_raise rfl (takes_of rfl rfl rfl rfl) (pmk_oex N.o iC tI GI hr bTM .nil pass0 (by rfl) N.g (pa_cons (pe_glob (v := .int 60) (by rfl) hmb ⟨_, rfl⟩) pa_nil)))) pss_nil)
      (pss_cons (ps_set (i := 3) nd rfl (.inr rfl) (pe_call GC hr (by rfl) mC kC bC .nil pass0 (pa_cons (pv 0) pa_nil)))
      (pss_cons (ps_set (i := 4) nd rfl (.inl rfl) (pe_lst (pa_cons (pe_tup (pa_cons pe_int (pa_cons pe_int (pa_cons (pe_callB call_len_seq (by rfl) T.len PySem.boot_len (pa_cons (pv 0) pa_nil)) (pa_cons (pe_callB call_len_seq (by rfl) T.len PySem.boot_len (pa_cons (pv 3) pa_nil)) pa_nil))))) pa_nil)))
      (pss_cons (ps_set (i := 5) nd rfl (.inl rfl) (pe_lst pa_nil))
      (pss_cons (ps_while (passes_of rfl) (pt_cmpR (op_neD hr.units) (pv 4) (pv 5) (nomark _))
        (pss_cons (ps_set (i := 5) nd rfl (.inl rfl) (pv 4))
        (C8.pss_cut (ps_setLc2 (i := 6) (own := [("box", 7), ("part", 8)]) (vs1 := [8]) (g := gName 7) (tt := tYes) (g1 := gName 8) (tt1 := tYes) (by rfl) nd rfl rfl (sw_true rfl rfl rfl (by decide +kernel)) (pi_list (pv 4)) (blkOk_by (N := nFI) (sc := defScope sFI) (by decide +kernel)) (by decide)
            (fun _ _ _ _ _ => pg_name (i := 7) nd rfl (Or.inl rfl)) (fun _ _ _ _ _ => pts_nil) (fun _ _ _ _ _ => pi_listK (K := K) rfl (pe_call GP hr (by rfl) mP kP bP .nil pass0 (pa_cons (pv 0) (pa_cons (pv 7) (pa_cons (pv 1) pa_nil)))))
            (fun _ _ _ _ _ => pg_name (i := 8) nd rfl (Or.inl rfl)) (fun _ _ _ _ _ => pts_nil) (fun _ _ _ _ _ => pv 8))
        (pss_one (ps_setLc2 (i := 4) (own := [("box", 7), ("part", 8)]) (vs1 := [8]) (g := gName 7) (tt := tYes) (g1 := gName 8) (tt1 := tYes) (by rfl) nd rfl rfl (sw_true rfl rfl rfl (by decide +kernel)) (pi_list (pv 6)) (blkOk_by (N := nFI) (sc := defScope sFI) (by decide +kernel)) (by decide)
            (fun _ _ _ _ _ => pg_name (i := 7) nd rfl (Or.inl rfl)) (fun _ _ _ _ _ => pts_nil) (fun _ _ _ _ _ => pi_listK (K := K) rfl (pe_call GP hr (by rfl) mP kP bP .nil pass0 (pa_cons (pv 3) (pa_cons (pe_call GF hr (by rfl) mF kF bF .nil pass0 (pa_cons (pv 7) pa_nil)) (pa_cons (pv 2) pa_nil)))))
            (fun _ _ _ _ _ => pg_name (i := 8) nd rfl (Or.inl rfl)) (fun _ _ _ _ _ => pts_nil) (fun _ _ _ _ _ => pe_call GF hr (by rfl) mF kF bF .nil pass0 (pa_cons (pv 8) pa_nil)))))))
      (pss_one (ps_ret (pv 4)))))))), ?_⟩
    rcases h with ⟨ask, q⟩ | ⟨a, high, wide, rs, rfl, ha, pr, h⟩
    · exact ⟨x, rfl, x, false, rfl, ask, (fun e => nomatch e), fun _ H' sm => q H' sm⟩
    refine ⟨.ref a, rfl, .ref a, true, rfl, askPic pr ha, fun _ H1 s1 => ?_, fun e => nomatch e⟩
    rcases h with ⟨bad, q⟩ | ⟨d, c, rfl, rfl, d1, d60, c1, c60, q0⟩
    · refine ⟨z1, rfl, z1, 1, 60, rfl, k1.same s1, _, rfl, ?_⟩
      cases e1 : betw z1 1 60 with
      | false => exact iteT (iteT (raiseM_by (q.same s1)))
      | true =>
        rw [e1, Bool.true_and] at bad
        refine iteF ⟨z2, rfl, z2, 1, 60, rfl, k2.same s1, _, rfl, ?_⟩
        rw [bad]
        exact iteT (raiseM_by (q.same s1))
    have h0 := pr.h0
    have h1 := pr.h1
    have w0 := pr.w0
    have w1 := pr.w1
    have hlen := pr.len
    have br := pr.big
    have b1 : betw (.int d) 1 60 = true := by
      rw [betw_int, decide_eq_true (by omega), decide_eq_true (by omega)]
      rfl
    have b2 : betw (.int c) 1 60 = true := by
      rw [betw_int, decide_eq_true (by omega), decide_eq_true (by omega)]
      rfl
    have q : ∀ (l : Addr) (xs : List V) (bs : List Bx) H', Same H H' → H l = none → H' l = some (.lst xs) → Flds (DR rs) d c high wide bs → Tin K H' xs (bs.map bI) → Q (.ref l) H' := fun l _ _ H' s _ _ _ _ => q0 l H' s
    refine ⟨.int d, rfl, .int d, 1, 60, rfl, kt_int _, _, rfl, ?_⟩
    rw [b1]
    refine iteF ⟨.int c, rfl, .int c, 1, 60, rfl, kt_int _, _, rfl, ?_⟩
    rw [b2]
    refine iteF ⟨.ref a, rfl, a, high, wide, rs, rfl, s1 _ _ ha, br, fun A H2 s2 nA hA => ?_⟩
    have s12 := s1.trans s2
    have ha2 := s12 _ _ ha
    have lw : ((colsW wide rs).map rv).length = wide := by
      rw [List.length_map]
      unfold colsW
      rw [List.length_map, List.length_range]
    have lh : (rs.map rv).length = high := by rw [List.length_map, hlen]
    have brc := br.cols
    have edc := DR_cols br.r
    generalize eD : DR rs = D at edc q
    refine ⟨.ref a, rfl, a, _, rfl, .inr (SqT.of ha2), .ref A, rfl, A, _, rfl, .inl (SqL.of hA), by show 4 ≤ sizeLine; decide, fun t0 ht0 => ⟨by show 1 ≤ sizeLine; decide, fun l0 hl0 => ?_⟩⟩
    rw [lh, lw] at hl0 ⊢
    have sB := (same_upd (o := .tup [V.int 0, V.int 0, V.int (high : Int), V.int (wide : Int)]) ht0).trans (same_upd (o := .lst [V.ref t0]) hl0)
    have hl0' : (upd (upd H2 t0 (.tup [V.int 0, V.int 0, V.int (high : Int), V.int (wide : Int)])) l0 (.lst [V.ref t0])) l0 = some (.lst [V.ref t0]) := upd_same
    have tn0 : Tin K (upd (upd H2 t0 (.tup [V.int 0, V.int 0, V.int (high : Int), V.int (wide : Int)])) l0 (.lst [V.ref t0])) [V.ref t0] ([whole high wide].map bI) := by
      refine Tin.add (xs := []) (bs := []) Tin.nil ?_
      refine same_upd hl0 _ _ ?_
      rw [upd_same]
      rfl
    have nl0 : H l0 = none := (s12.trans (same_upd ht0)).free hl0
    generalize upd (upd H2 t0 (.tup [V.int 0, V.int 0, V.int (high : Int), V.int (wide : Int)])) l0 (.lst [V.ref t0]) = H3 at sB hl0' tn0
    refine ⟨by show 0 ≤ sizeLine; decide, fun la hla => ?_⟩
    have sC := sB.trans (same_upd (o := .lst []) hla)
    have sl := same_upd (o := .lst []) hla
    have hla' : (upd H3 la (.lst [])) la = some (.lst []) := upd_same
    generalize upd H3 la (.lst []) = H4 at sC sl hla'
    refine ⟨fun m σ H' => ∃ (l la : Addr) (y6 : Option V) (bs cs : List Bx), m = areas bs + (if bs = cs then 0 else 1) ∧ σ = [some (.ref a), some (.int d), some (.int c), some (.ref A), some (.ref l), some (.ref la), y6, none, none] ∧ H l = none ∧ FiW K H2 D d c high wide H' l la bs cs, ⟨_, l0, la, none, [whole high wide], [], rfl, rfl, nl0, ⟨sC, ⟨_, sl _ _ hl0', tn0.same sl⟩, ⟨[], hla', Tin.nil⟩, whole_dim h0 w0, by rw [whole_areas]; exact Nat.le_refl _, ⟨0, rfl⟩, fun z => nomatch z⟩⟩, ?_⟩
    rintro m σ H5 ⟨l, la, y6, bs, cs, rfl, rfl, nl, W⟩
    obtain ⟨xs, hl, tn⟩ := W.lx
    obtain ⟨ys, hly, ty⟩ := W.ly
    refine ⟨.ref l, rfl, .ref la, rfl, .list ((bs.map bI).map iD), .list ((cs.map bI).map iD), .lst (SqL.of hl) (dp_tin tn), .lst (SqL.of hly) (dp_tin ty), shaped_tins _, shaped_tins _, _, rfl, ?_⟩
    rw [ne_bs]
    have S5 := s12.trans W.sm
    have ha5 := W.sm _ _ ha2
    have hA5 := W.sm _ _ hA
    have dim := W.dim
    have ar := W.ar
    have fx := W.fx
    obtain ⟨nn, itn⟩ := W.itn
    have sm2 := W.sm
    clear W
    by_cases e : bs = cs
    · rw [decide_eq_true e]
      refine iteF ⟨.ref l, rfl, q l xs bs H5 S5 nl hl ⟨fx e, nn, itn⟩ tn⟩
    rw [decide_eq_false e, if_neg e]
    refine iteT ⟨fun σ' H' => ∃ m', m' < areas bs + 1 ∧ ∃ (l la : Addr) (y6 : Option V) (bs cs : List Bx), m' = areas bs + (if bs = cs then 0 else 1) ∧ σ' = [some (.ref a), some (.int d), some (.int c), some (.ref A), some (.ref l), some (.ref la), y6, none, none] ∧ H l = none ∧ FiW K H2 D d c high wide H' l la bs cs, fun _ _ h => h, ?_⟩
    have lay : Lay D (whole high wide) bs := by
      rw [itn]
      exact (Lay.one D (whole high wide)).it d c nn
    have lbs : bs.length ≤ 7200 := by
      have := dim_len dim
      have h2 : high * wide ≤ 60 * 120 := Nat.mul_le_mul h1 w1
      omega
    have lx : xs.length = bs.length := by rw [tn.len, List.length_map]
    refine ⟨.ref l, rfl, ?_⟩
    refine ⟨fun σ' H' => ∃ (lb : Addr) (zs : List V), σ' = [some (.ref a), some (.int d), some (.int c), some (.ref A), some (.ref l), some (.ref l), some (.ref lb), none, none] ∧ Same H5 H' ∧ H' lb = some (.lst zs) ∧ Tin K H' zs ((bs.flatMap (parted D d)).map bI), ?_, ?_⟩
    · refine ⟨.ref l, rfl, l, rfl, ⟨_, SqL.of hl⟩, fun D0 hD0 => lc2_by bs.length (fun i H4 => Same H5 H4 ∧ ∃ zs, H4 D0 = some (.lst zs) ∧ Tin K H4 zs (((bs.take i).flatMap (parted D d)).map bI) ∧ zs.length ≤ i * 120) ?_ ?_ ?_ ?_ ?_⟩
      · exact ⟨same_upd hD0, [], upd_same, Tin.nil, Nat.zero_le _⟩
      · rintro H6 ⟨sm, _⟩
        exact ⟨_, SqL.of (sm _ _ hl), by rw [lx]; exact Nat.le_refl _⟩
      · rintro i H6 hi ⟨sm, _⟩
        exact ⟨_, _, SqL.of (sm _ _ hl), List.getElem?_eq_getElem (by rw [lx]; exact hi)⟩
      · rintro i x H6 H7 hi ⟨sm, zs, h6, tz, lz⟩ ⟨rfl, hx⟩
        have eb : bs[i]? = some bs[i] := List.getElem?_eq_getElem hi
        have hb : bs[i] ∈ bs := List.getElem_mem hi
        generalize bs[i] = b at eb hb
        obtain ⟨t, rfl, ht⟩ := tn.at_ i x (bI b) (hx _ (SqL.of (sm _ _ hl))) (by rw [List.getElem?_map, eb]; rfl)
        obtain ⟨u1, u2, u3, u4⟩ := lay.sub b hb
        have bh : b.t + b.h ≤ high := by have : (whole high wide).t + (whole high wide).h = 0 + high := rfl; omega
        have bw : b.l + b.w ≤ wide := by have : (whole high wide).l + (whole high wide).w = 0 + wide := rfl; omega
        have pl := parted_len D d b
        refine ⟨rfl, .ref a, rfl, .ref t, rfl, .int d, rfl, false, a, t, high, wide, rs, b, d, rfl, sm _ _ ha5, br, sm _ _ ht, bh, bw, fun l1 ws H8 s8 n8 h8 t8 => ?_⟩
        rw [eD] at t8
        refine ⟨l1, rfl, ⟨_, SqL.of h8⟩, lc2_in (parted D d b).length (fun j H9 => Same H5 H9 ∧ H9 l1 = some (.lst ws) ∧ Tin K H9 ws ((parted D d b).map bI) ∧ ∃ zs, H9 D0 = some (.lst zs) ∧ Tin K H9 zs (((bs.take i).flatMap (parted D d) ++ (parted D d b).take j).map bI) ∧ zs.length ≤ i * 120 + j) ?_ ?_ ?_ ?_ ?_⟩
        · refine ⟨sm.trans s8, h8, t8, zs, s8 _ _ h6, ?_, lz⟩
          rw [List.take_zero, List.append_nil]
          exact tz.same s8
        · rintro H9 ⟨_, h9, t9, _⟩
          exact ⟨_, SqL.of h9, by rw [t9.len, List.length_map]; exact Nat.le_refl _⟩
        · rintro j H9 hj ⟨_, h9, t9, _⟩
          exact ⟨_, _, SqL.of h9, List.getElem?_eq_getElem (by rw [t9.len, List.length_map]; exact hj)⟩
        · rintro j y H9 H10 hj ⟨sm9, h9, t9, zs9, hz9, tz9, lz9⟩ ⟨rfl, hy⟩
          have ep : (parted D d b)[j]? = some (parted D d b)[j] := List.getElem?_eq_getElem hj
          generalize (parted D d b)[j] = p at ep
          obtain ⟨u, rfl, hu⟩ := t9.at_ j y (bI p) (hy _ (SqL.of h9)) (by rw [List.getElem?_map, ep]; rfl)
          have nuD : u ≠ D0 := ne_of hu hz9 (by intro z; cases z)
          have nlD : l1 ≠ D0 := by
            rintro rfl
            rw [n8] at h6
            cases h6
          refine ⟨rfl, .ref u, rfl, zs9, hz9, ?_, same_over sm9 hD0, ?_, t9.updl hz9, zs9 ++ [.ref u], upd_same, ?_, by rw [List.length_append]; exact Nat.add_le_add_right lz9 1⟩
          · rw [sizeLine_eq]
            omega
          · rw [upd_ne nlD]
            exact h9
          · rw [take_snoc ep, ← List.append_assoc, List.map_append]
            refine Tin.add (tz9.updl hz9) ?_
            rw [upd_ne nuD]
            exact hu
        · rintro H9 ⟨sm9, h9, t9, zs9, hz9, tz9, lz9⟩
          rw [List.take_length, ← flat_snoc eb] at tz9
          exact ⟨sm9, zs9, hz9, tz9, by omega⟩
      · rintro H6 ⟨sm, zs, h6, tz, lz⟩
        rw [List.take_length] at tz
        exact ⟨D0, zs, rfl, sm, h6, tz⟩
    rintro _ H6 ⟨lb, zb, rfl, s6, hlb, tb⟩
    have C1 := cut_rows D d
    have layB := lay.cut C1
    have dimB : Dim (bs.flatMap (parted D d)) := flat_dim fun b => parted_dim D d b
    have arB : areas (bs.flatMap (parted D d)) ≤ areas bs := (flat_area bs fun b hb => row_area d1 (dim b hb)).1
    have estep : stepF D d c bs = (bs.flatMap (parted D d)).flatMap (cols D c) := rfl
    generalize bs.flatMap (parted D d) = qs at tb layB dimB arB estep
    have lqs : qs.length ≤ 7200 := by
      have := dim_len dimB
      have h2 : high * wide ≤ 60 * 120 := Nat.mul_le_mul h1 w1
      omega
    have lzb : zb.length = qs.length := by rw [tb.len, List.length_map]
    have hA6 := s6 _ _ hA5
    refine ⟨.ref lb, rfl, lb, rfl, ⟨_, SqL.of hlb⟩, fun D0 hD0 => lc2_by qs.length (fun i H4 => Same H6 H4 ∧ ∃ zs, H4 D0 = some (.lst zs) ∧ Tin K H4 zs (((qs.take i).flatMap (cols D c)).map bI) ∧ zs.length ≤ i * 120) ?_ ?_ ?_ ?_ ?_⟩
    · exact ⟨same_upd hD0, [], upd_same, Tin.nil, Nat.zero_le _⟩
    · rintro H7 ⟨sm, _⟩
      exact ⟨_, SqL.of (sm _ _ hlb), by rw [lzb]; exact Nat.le_refl _⟩
    · rintro i H7 hi ⟨sm, _⟩
      exact ⟨_, _, SqL.of (sm _ _ hlb), List.getElem?_eq_getElem (by rw [lzb]; exact hi)⟩
    · rintro i x H7 H8 hi ⟨sm, zs, h7, tz, lz⟩ ⟨rfl, hx⟩
      have eb : qs[i]? = some qs[i] := List.getElem?_eq_getElem hi
      have hb : qs[i] ∈ qs := List.getElem_mem hi
      generalize qs[i] = b at eb hb
      obtain ⟨t, rfl, ht⟩ := tb.at_ i x (bI b) (hx _ (SqL.of (sm _ _ hlb))) (by rw [List.getElem?_map, eb]; rfl)
      obtain ⟨u1, u2, u3, u4⟩ := layB.sub b hb
      have bh : b.flip.l + b.flip.w ≤ high := by have : (whole high wide).t + (whole high wide).h = 0 + high := rfl; show b.t + b.h ≤ high; omega
      have bw : b.flip.t + b.flip.h ≤ wide := by have : (whole high wide).l + (whole high wide).w = 0 + wide := rfl; show b.l + b.w ≤ wide; omega
      have pl : (cols D c b).length ≤ b.flip.h := by
        show ((parted (tr D) c b.flip).map Bx.flip).length ≤ _
        rw [List.length_map]
        exact parted_len (tr D) c b.flip
      refine ⟨rfl, .ref A, rfl, .ref t, rfl, t, b, rfl, sm _ _ ht, fun p H9 s9 n9 hp => ?_⟩
      refine ⟨.int c, rfl, true, A, p, wide, high, colsW wide rs, b.flip, c, rfl, s9 _ _ (sm _ _ hA6), brc, hp, bw, bh, fun l1 ws H10 s10 n10 h10 t10 => ?_⟩
      rw [edc] at t10
      have s910 := s9.trans s10
      have lcol : (cols D c b).length = (parted (tr D) c b.flip).length := List.length_map _
      refine ⟨l1, rfl, ⟨_, SqL.of h10⟩, lc2_in (cols D c b).length (fun j H9 => Same H6 H9 ∧ H9 l1 = some (.lst ws) ∧ Tin K H9 ws ((parted (tr D) c b.flip).map bI) ∧ ∃ zs, H9 D0 = some (.lst zs) ∧ Tin K H9 zs (((qs.take i).flatMap (cols D c) ++ (cols D c b).take j).map bI) ∧ zs.length ≤ i * 120 + j) ?_ ?_ ?_ ?_ ?_⟩
      · refine ⟨sm.trans s910, h10, t10, zs, s910 _ _ h7, ?_, lz⟩
        rw [List.take_zero, List.append_nil]
        exact tz.same s910
      · rintro H9 ⟨_, h9, t9, _⟩
        exact ⟨_, SqL.of h9, by rw [t9.len, List.length_map, lcol]; exact Nat.le_refl _⟩
      · rintro j H9 hj ⟨_, h9, t9, _⟩
        exact ⟨_, _, SqL.of h9, List.getElem?_eq_getElem (by rw [t9.len, List.length_map, ← lcol]; exact hj)⟩
      · rintro j y H9' H10' hj ⟨sm9, h9, t9, zs9, hz9, tz9, lz9⟩ ⟨rfl, hy⟩
        have ep : (parted (tr D) c b.flip)[j]? = some (parted (tr D) c b.flip)[j] := List.getElem?_eq_getElem (by rw [← lcol]; exact hj)
        generalize (parted (tr D) c b.flip)[j] = p0 at ep
        have ec : (cols D c b)[j]? = some p0.flip := by
          show ((parted (tr D) c b.flip).map Bx.flip)[j]? = _
          rw [List.getElem?_map, ep]
          rfl
        obtain ⟨u, rfl, hu⟩ := t9.at_ j y (bI p0) (hy _ (SqL.of h9)) (by rw [List.getElem?_map, ep]; rfl)
        have nlD : l1 ≠ D0 := by
          rintro rfl
          rw [s9.free n10] at h7
          cases h7
        refine ⟨rfl, .ref u, rfl, u, p0, rfl, hu, fun pf H11 s11 n11 hpf => ?_⟩
        have hz11 := s11 _ _ hz9
        have npD : pf ≠ D0 := (ne_of_none hz9 n11).symm
        refine ⟨zs9, hz11, ?_, same_over (sm9.trans s11) hD0, ?_, (t9.same s11).updl hz11, zs9 ++ [.ref pf], upd_same, ?_, by rw [List.length_append]; exact Nat.add_le_add_right lz9 1⟩
        · rw [sizeLine_eq]
          have : b.flip.h ≤ wide := by omega
          omega
        · rw [upd_ne nlD]
          exact s11 _ _ h9
        · rw [take_snoc ec, ← List.append_assoc, List.map_append]
          refine Tin.add ((tz9.same s11).updl hz11) ?_
          rw [upd_ne npD]
          exact hpf
      · rintro H9' ⟨sm9, h9, t9, zs9, hz9, tz9, lz9⟩
        rw [List.take_length, ← flat_snoc eb] at tz9
        have : b.flip.h ≤ wide := by omega
        exact ⟨sm9, zs9, hz9, tz9, by omega⟩
    · rintro H7 ⟨sm, zs, h7, tz, lz⟩
      rw [List.take_length, ← estep] at tz
      obtain ⟨sa1, sa2⟩ := step_area (D := D) d1 c1 dim
      refine ⟨_, ?_, D0, l, some (.ref lb), stepF D d c bs, bs, rfl, rfl, (S5.trans s6).free hD0, ⟨(sm2.trans s6).trans sm, ⟨zs, h7, tz⟩, ⟨xs, (s6.trans sm) _ _ hl, tn.same (s6.trans sm)⟩, step_dim D d c bs, Nat.le_trans sa1 ar, ⟨nn + 1, by rw [it_succ, ← itn]⟩, fun z => by rw [z, z]⟩⟩
      by_cases es : stepF D d c bs = bs
      · rw [if_pos es, es]
        omega
      · rw [if_neg es]
        have : areas (stepF D d c bs) ≠ areas bs := fun z => es (step_same (sa2 (by omega)))
        omega
theorem ok_wbx {f : Addr} {fd : FuncData} {k : Nat} (F : Fun K "_want_box" "_want_box" sWB f fd) (NP : ExN K mg "NoPlace" CP) (GW : GW P w K mg base C (k + 1)) (GU : Pm P w K mg base CX0 (k + 1) "is_tuple" ["thing", "many"] (spIsTup K)) (GC : Pm P w K mg base (L2.CX P w) (k + 1) "cut_out" ["picture", "top", "left", "high", "wide"] (spCut K CP)) :
    FnOk P w K mg base (L2.CX P w) (k + 2) f fd ["picture", "thing"] (spWBX K C CP) := by
  obtain ⟨fW, fdW, GW, mW, kW, bW⟩ := GW.ex
  obtain ⟨fU, fdU, GU, mU, kU, bU⟩ := GU.ex
  obtain ⟨fC, fdC, GC, mC, kC, bC⟩ := GC.ex
  refine F.okX scWB (fun vs H Q E h => ?_) (fun cdv A outer s H vs Q E hr h => ?_)
  · obtain ⟨x, y, rfl, _⟩ := h
    rfl
  · obtain ⟨x, y, rfl, h⟩ := h
    have nd := scWB.nd
    refine ⟨_, pss_cons (ps_expr (pe_callS GW hr (by rfl) mW kW bW (fun σ => passAt (takes_of rfl rfl rfl rfl) σ) (pa_cons (pv 0) pa_nil)))
      (pss_cons (ps_if (pt_not (pt_val (pe_call GU hr (by rfl) mU kU bU .nil pass0 (pa_cons (pv 1) (pa_cons pe_int pa_nil))))) (pss_one (ps_raise rfl (takes_of rfl rfl rfl rfl) (pmk_own PySem.F.excBase_ValueError NP.x NP.g NP.k (raises_own NP.b NP.t) rfl))) pss_nil)
      (pss_one (ps_expr (pe_callS2 (GC.raw bC .nil) hr kC (by rfl) mC (passE (takes_of rfl rfl rfl rfl)) (pa_cons (pv 0) (pa_star (pv 1) pa_nil)))))), ?_⟩
    rcases h with ⟨ask, q⟩ | ⟨a, high, wide, rs, ok, rfl, ha, pr, bq, q1, q2⟩
    · exact ⟨x, rfl, x, false, rfl, ask, (fun e => nomatch e), fun _ H' sm => q H' sm⟩
    refine ⟨.ref a, rfl, .ref a, true, rfl, askPic pr ha, fun _ H1 s1 => ?_, fun e => nomatch e⟩
    rcases bq.same s1 with ⟨T, t, o, n, e⟩ | ⟨t, xs, rfl, ht, n, e⟩ | ⟨t, x1, x2, x3, x4, rfl, ht, k1, k2, k3, k4, e⟩
    · exact ⟨y, rfl, y, 4, rfl, .inl ⟨T, t, o, n, _, rfl, iteT (q2 e _ s1)⟩⟩
    · refine ⟨.ref t, rfl, .ref t, 4, rfl, .inr ⟨t, xs, rfl, ht, _, rfl, ?_⟩⟩
      rw [decide_eq_false (show ¬ ((xs.length : Int) = 4) by omega)]
      exact iteT (q2 e _ s1)
    · refine ⟨.ref t, rfl, .ref t, 4, rfl, .inr ⟨t, _, rfl, ht, _, rfl, iteF ?_⟩⟩
      refine ⟨.ref a, rfl, .ref t, rfl, t, _, rfl, .inl ht, a, high, wide, rs, x1, x2, x3, x4, rfl, s1 _ _ ha, pr, k1, k2, k3, k4, fun e3 x' y' h' w'' _ _ _ _ _ _ _ _ p H2 s2 np hp => ?_, fun e3 H2 s2 => ?_⟩
      · rw [← e] at e3
        exact q1 e3 H2 (s1.trans s2)
      · rw [← e] at e3
        exact q2 e3 H2 (s1.trans s2)
end
end Dt
namespace Dt
open PySem PySem.Spec PyProof.Rows L2 L2X
open SX (S)
open StX
open Fl
theorem mul_sign' (c n : Nat) : Txt.mul (S [c]) (n : Int) = S (List.replicate n c) := by
  by_cases h : 1 ≤ n
  · exact mul_sign c n h
  · have : n = 0 := by omega
    subst this
    rfl
theorem mul_ok' (c n : Nat) (h2 : n ≤ 120) : MulOk (S [c]) (n : Int) := by
  by_cases h : 1 ≤ n
  · exact mul_ok c n h h2
  · have : n = 0 := by omega
    subst this
    exact ⟨by decide, fun z => absurd (by decide) z, fun z => absurd (by decide) z⟩
theorem cutR_row {rs : List (List Nat)} {t l h w high wide : Nat} (R : RowsR high wide rs) (ht : t + h ≤ high) (hl : l + w ≤ wide) {q : List Nat} (hq : q ∈ cutR rs t l h w) : q.length = w := by
  obtain ⟨k, hk, rfl⟩ := (cutR_mem (by rw [R.len]; exact ht)).mp hq
  rw [List.length_take, List.length_drop, R.at_len (show t + k < high by omega)]
  omega
def spLOX (K : PySem.W.Frag) (C CP CT : Addr) : Sp := fun vs H Q E => ∃ x y z1 z2 z3 : V, vs = [x, y, z1, z2, z3] ∧ Kt K H z1 ∧ Kt K H z2 ∧ Kt K H z3 ∧
  ((Asked K H x false ∧ ∀ H', Same H H' → E (.ref C) none H') ∨ ∃ (a : Addr) (high wide : Nat) (rs : List (List Nat)) (ok : Bool), x = .ref a ∧ H a = some (.tup (rs.map rv)) ∧ PicR high wide rs ∧ BoxQ K H high wide y ok ∧
    ((ok = false ∧ ∀ H', Same H H' → E (.ref CP) none H') ∨ (ok = true ∧
      (((betw z1 1 9 = false ∨ (∃ tall : Int, z1 = .int tall ∧ betw z1 1 9 = true ∧ betw z2 tall 60 = false) ∨ (∃ tall : Int, z1 = .int tall ∧ betw z1 1 9 = true ∧ betw z2 tall 60 = true ∧ betw z3 0 (tall - 1) = false)) ∧ RaiseM E CT (.int 60) H) ∨
       ∃ (t : Addr) (top left down across tall far lead : Nat), y = .ref t ∧ z1 = .int tall ∧ z2 = .int far ∧ z3 = .int lead ∧ H t = some (.tup [.int top, .int left, .int down, .int across]) ∧ LnOk high wide top left down across tall far lead ∧ ∀ (l : Addr) H', Same H H' → Q (.ref l) H'))))
abbrev sLA : Stmt := topS 41
abbrev nLA : List Str := ["picture", "box", "high", "over", "part", "first", "last", "white", "below", "row"]
theorem scLA : FnScope nLA ["picture", "box", "high", "over"] (defScope sLA) := ⟨rfl, rfl, rfl, by decide +kernel, rfl, by decide +kernel, by decide +kernel⟩
def spLAX (K : PySem.W.Frag) (C CP CL : Addr) : Sp := fun vs H Q E => ∃ (x y : V) (tall lead : Int), vs = [x, y, .int tall, .int lead] ∧
  ((Asked K H x false ∧ ∀ H', Same H H' → E (.ref C) none H') ∨ ∃ (a : Addr) (high wide : Nat) (rs : List (List Nat)) (ok : Bool), x = .ref a ∧ H a = some (.tup (rs.map rv)) ∧ PicR high wide rs ∧ BoxQ K H high wide y ok ∧
    ((ok = false ∧ ∀ H', Same H H' → E (.ref CP) none H') ∨ ∃ (t : Addr) (x y' h' w' : Nat), ok = true ∧ y = .ref t ∧ H t = some (.tup [.int x, .int y', .int h', .int w']) ∧ x + h' ≤ high ∧ y' + w' ≤ wide ∧ 1 ≤ h' ∧ 1 ≤ w' ∧ w' ≤ 60 ∧
      (((betw (.int tall) 1 9 && betw (.int lead) 0 (tall - h')) = false ∧ ∀ H', Same H H' → E (.ref CL) none H') ∨
       ((betw (.int tall) 1 9 && betw (.int lead) 0 (tall - h')) = true ∧ hasD (cutR rs x y' h' w') = false ∧ ∀ H', Same H H' → E (.ref CL) none H') ∨
       ((betw (.int tall) 1 9 && betw (.int lead) 0 (tall - h')) = true ∧ hasD (cutR rs x y' h' w') = true ∧ ∀ (z : Addr) H', Same H H' → Q (.ref z) H'))))
abbrev FnLA (K : PySem.W.Frag) (f : Addr) (fd : FuncData) : Prop := FunD K "line_at" "line_at" (defArgs sLA) (defBody sLA) (defScope sLA) [] [("over", .int 0)] f fd
theorem la_binds {K : PySem.W.Frag} {f : Addr} {fd : FuncData} (F : FnLA K f fd) : ∃ mv : List Value, KBn K fd ["picture", "box", "high", "over"] 2 ["high", "over"] (fun us ws => us ++ ws ++ mv.take 0) (fun vs zs => vs ++ zs ++ ([] : List V)) := by
  obtain ⟨mv, h⟩ := F.kbinds0 (ps := ["picture", "box", "high", "over"]) 2 ["high", "over"] [] (fun us _ ws => us ++ ws) (by simp) (fun q h => nomatch h) (fun r _ z => r.append z)
    (fun D doc pm an cdv ct us mv ws h1 h2 h3 => match us, ws, mv, h1, h3, h2 with
      | [_, _], [_, _], [], _, _, _ => rfl)
  exact ⟨mv, ⟨fun s us ws X l1 l2 => by rw [List.take_zero, List.append_nil]; exact h.to s us ws X l1 l2, fun r z => by rw [List.take_zero, List.append_nil, List.append_nil]; exact h.rel r z⟩⟩
theorem rep_flat (k : Nat) (x : V) : (List.replicate k [x]).flatten = List.replicate k x := by
  induction k with
  | zero => rfl
  | succ k ih =>
    rw [List.replicate_succ, List.flatten_cons, ih, List.replicate_succ]
    rfl
section
variable {P : Program} {w : World} {K : PySem.W.Frag} {mg : Str → Option Value} {base : Heap} {C CP CT CL : Addr}
theorem ok_lox {f : Addr} {fd : FuncData} {k : Nat} (F : FnLO K f fd) (T : Tx mg) (mh : ∃ t, mg "MOST_HIGH" = some (.int 9 t)) (mb : ∃ t, mg "MOST_BAND" = some (.int 60 t)) (GW : Pm P w K mg base (L2.CX P w) (k + 2) "_want_box" ["picture", "thing"] (spWBX K C CP)) (N : Ttm K mg CT) (GB : Pm P w K mg base CX0 (k + 2) "is_between" ["thing", "least", "most"] (spBetw K))
    (GL : Pm P w K mg base CX0 (k + 2) "_line_box" ["box", "start", "behind"] spLB) (GH : Pm P w K mg base CX0 (k + 2) "_has_dots" ["rows"] spHD) (GC : Pm P w K mg base (L2.CX P w) (k + 2) "cut_out" ["picture", "top", "left", "high", "wide"] (spCut K CP)) :
    FnOk P w K mg base (L2.CX P w) (k + 3) f fd ["picture", "box", "high", "pitch", "above"] (spLOX K C CP CT) := by
  obtain ⟨fW, fdW, GW, mW, kW, bW⟩ := GW.ex
  obtain ⟨fB, fdB, GB, mB, kB, bB⟩ := GB.ex
  obtain ⟨fL, fdL, GL, mL, kL, bL⟩ := GL.ex
  obtain ⟨fH, fdH, GH, mH, kH, bH⟩ := GH.ex
  obtain ⟨fC, fdC, GC, mC, kC, bC⟩ := GC.ex
  obtain ⟨th, hmh⟩ := mh
  obtain ⟨tb, hmb⟩ := mb
  obtain ⟨fI, fdI, iC, tI, FI, bTM⟩ := N.fi
  have GI : FnOk P w K mg base CX0 (k + 1) fI fdI ["self", "most"] (spTM CT) := ok_tm FI N.o N.no
  refine F.ok scLO (fun vs H Q E h => ?_) (fun cdv A outer s H vs Q E hr h => ?_)
  · obtain ⟨_, _, _, _, _, rfl, _⟩ := h
    rfl
  · obtain ⟨x, y, z1, z2, z3, rfl, k1, k2, k3, h⟩ := h
    have nd := scLO.nd
    refine ⟨_, pss_cons (ps_expr (pe_callS GW hr (by rfl) mW kW bW (fun σ => passAt (takes_of rfl rfl rfl rfl) σ) (pa_cons (pv 0) (pa_cons (pv 1) pa_nil))))
      (pss_cons (ps_if (PW.pt (pw_or (pt_not (pt_val (pe_call GB hr (by rfl) mB kB bB .nil pass0 (pa_cons (pv 2) (pa_cons pe_int (pa_cons (pe_glob (v := .int 9) (by rfl) hmh ⟨_, rfl⟩) pa_nil)))))) (pw_or1 (pt_not (pt_val (pe_call GB hr (by rfl) mB kB bB .nil pass0 (pa_cons (pv 3) (pa_cons (pv 2) (pa_cons (pe_glob (v := .int 60) (by rfl) hmb ⟨_, rfl⟩) pa_nil))))))))) (pss_one (ps_raise rfl (takes_of rfl rfl rfl rfl) (pmk_oex N.o iC tI GI hr bTM .nil pass0 (by rfl) N.g (pa_cons (pe_glob (v := .int 60) (by rfl) hmb ⟨_, rfl⟩) pa_nil)))) pss_nil)
      (pss_cons (ps_if (pt_not (pt_val (pe_call GB hr (by rfl) mB kB bB .nil pass0 (pa_cons (pv 4) (pa_cons pe_int (pa_cons (pe_op op_sub (pv 2) pe_int) pa_nil)))))) (pss_one (ps_raise rfl (takes_of rfl rfl rfl rfl) (pmk_oex N.o iC tI GI hr bTM .nil pass0 (by rfl) N.g (pa_cons (pe_glob (v := .int 60) (by rfl) hmb ⟨_, rfl⟩) pa_nil)))) pss_nil)
      (pss_cons (ps_asg (pv 1) (pg_tup rfl (pgs_cons (pg_name (i := 5) nd rfl (Or.inl rfl)) (pgs_cons (pg_name (i := 6) nd rfl (Or.inl rfl)) (pgs_cons (pg_name (i := 7) nd rfl (Or.inl rfl)) (pgs_cons (pg_name (i := 8) nd rfl (Or.inl rfl)) pgs_nil))))))
      (pss_cons (ps_set (i := 9) nd rfl (.inl rfl) (pe_callTy cr_range3 (by rfl) T.range (by decide +kernel) (pa_cons (pe_op op_sub (pv 5) (pv 4)) (pa_cons (pe_op op_add (pv 5) (pv 7)) (pa_cons (pv 3) pa_nil)))))
      (C8.pss_cut (ps_setLc (i := 10) (own := [("start", 11)]) (g := gName 11) (tt := tYes) (by rfl) nd rfl rfl (sw_true rfl rfl rfl (by decide +kernel)) (pi_rngO (pv 9)) (blkOk_by (N := nLO) (sc := defScope sLO) (by decide +kernel)) (fun _ _ _ _ _ => pg_name (i := 11) nd rfl (Or.inl rfl)) (fun _ _ _ _ _ => pts_nil)
          (fun _ _ _ _ _ => pe_call GL hr (by rfl) mL kL bL .nil pass0 (pa_cons (pv 1) (pa_cons (pv 11) (pa_cons (pe_op op_add (pv 11) (pv 2)) pa_nil)))))
      (pss_one (ps_ret (pe_lc (own := [("line", 12)]) (g := gName 12) rfl nd (pi_list (pv 10)) (blkOk_by (N := nLO) (sc := defScope sLO) (by decide +kernel)) (fun _ _ _ _ _ => pg_name (i := 12) nd rfl (Or.inl rfl))
          (fun _ _ _ _ _ => pts_one (pt_val (pe_call GH hr (by rfl) mH kH bH .nil pass0 (pa_cons (pe_callS2 (GC.raw bC .nil) hr kC (by rfl) mC passX0 (pa_cons (pv 0) (pa_starK (K := K) rfl (pv 12) pa_nil))) pa_nil)))) (fun _ _ _ _ _ => pv 12))))))))), ?_⟩
    rcases h with ⟨ask, q⟩ | ⟨a, high, wide, rs, ok, rfl, ha, pr, bq, h⟩
    · exact ⟨x, rfl, y, rfl, x, y, rfl, .inl ⟨ask, q⟩⟩
    rcases h with ⟨e, q⟩ | ⟨e, h⟩
    · exact ⟨.ref a, rfl, y, rfl, .ref a, y, rfl, .inr ⟨a, high, wide, rs, ok, rfl, ha, pr, bq, (fun e2 => by rw [e] at e2; cases e2), fun _ => q⟩⟩
    refine ⟨.ref a, rfl, y, rfl, .ref a, y, rfl, .inr ⟨a, high, wide, rs, ok, rfl, ha, pr, bq, fun _ H1 s1 => ?_, fun e2 => by rw [e] at e2; cases e2⟩⟩
    rcases h with ⟨bad, q⟩ | ⟨t, top, left, down, across, tall, far, lead, rfl, rfl, rfl, rfl, ht, O, q0⟩
    · refine ⟨z1, rfl, z1, 1, 9, rfl, k1.same s1, _, rfl, ?_⟩
      rcases bad with e1 | ⟨tall, rfl, e1, e2⟩ | ⟨tall, rfl, e1, e2, e3⟩
      · rw [e1]
        exact iteT (iteT (raiseM_by (q.same s1)))
      · rw [e1]
        refine iteF ⟨z2, rfl, .int tall, rfl, z2, tall, 60, rfl, k2.same s1, _, rfl, ?_⟩
        rw [e2]
        exact iteT (raiseM_by (q.same s1))
      · rw [e1]
        refine iteF ⟨z2, rfl, .int tall, rfl, z2, tall, 60, rfl, k2.same s1, _, rfl, ?_⟩
        rw [e2]
        refine iteF ⟨z3, rfl, .int tall, rfl, tall, 1, rfl, rfl, z3, 0, _, rfl, k3.same s1, _, rfl, ?_⟩
        rw [e3]
        exact iteT (raiseM_by (q.same s1))
    have pb : PB H a t high wide rs top left down across := ⟨ha, pr, ht⟩
    have pb1 := pb.same s1
    have q : ∀ (l : Addr) (xs : List V) H', Same H H' → H l = none → H' l = some (.lst xs) → Tin K H' xs (lnL rs top left down across tall far lead (lnN down lead far)) → Q (.ref l) H' := fun l _ H' s _ _ _ => q0 l H' s
    have := O.h1
    have := O.h9
    have := O.f1
    have := O.f60
    have := O.le
    have := O.t
    have := O.l
    have := O.d1
    have := O.a1
    have := pb.pr.h1
    have := pb.pr.w1
    have b1 : betw (.int tall) 1 9 = true := by
      rw [betw_int, decide_eq_true (by omega), decide_eq_true (by omega)]
      rfl
    have b2 : betw (.int far) tall 60 = true := by
      rw [betw_int, decide_eq_true (by omega), decide_eq_true (by omega)]
      rfl
    have b3 : betw (.int lead) 0 ((tall : Int) - 1) = true := by
      rw [betw_int, decide_eq_true (by omega), decide_eq_true (by omega)]
      rfl
    refine ⟨.int tall, rfl, .int tall, 1, 9, rfl, kt_int _, _, rfl, ?_⟩
    rw [b1]
    refine iteF ⟨.int far, rfl, .int tall, rfl, .int far, tall, 60, rfl, kt_int _, _, rfl, ?_⟩
    rw [b2]
    refine iteF ⟨.int lead, rfl, .int tall, rfl, tall, 1, rfl, rfl, .int lead, 0, _, rfl, kt_int _, _, rfl, ?_⟩
    rw [b3]
    refine iteF ⟨.ref t, rfl, t, _, rfl, SqT.of pb1.b, rfl, _, _, rfl, _, _, rfl, _, _, rfl, _, _, rfl, rfl, ?_⟩
    refine ⟨.int top, rfl, .int lead, rfl, top, lead, rfl, rfl, .int top, rfl, .int down, rfl, top, down, rfl, rfl, .int far, rfl, _, _, far, rfl, by omega, by omega, fun p hp => ?_⟩
    have sp := same_upd (o := RngO p ((top : Int) - lead) ((top : Int) + down) far) hp
    have pb2 := pb1.same sp
    have hp2 : (upd H1 p (RngO p ((top : Int) - lead) ((top : Int) + down) far)) p = some (RngO p ((top : Int) - lead) ((top : Int) + down) far) := upd_same
    have s12 := s1.trans sp
    generalize upd H1 p (RngO p ((top : Int) - lead) ((top : Int) + down) far) = H2 at sp pb2 hp2 s12 ⊢
    refine ⟨fun σ' H' => ∃ (l : Addr) (xs : List V), σ' = [some (.ref a), some (.ref t), some (.int tall), some (.int far), some (.int lead), some (.int top), some (.int left), some (.int down), some (.int across), some (.ref p), some (.ref l), none, none] ∧ Same H2 H' ∧ H' l = some (.lst xs) ∧ Tin K H' xs ((List.range (lnN down lead far)).map (lnX top left down across tall far lead)), ?_, ?_⟩
    · refine ⟨.ref p, rfl, p, _, _, far, lnN down lead far, rfl, hp2, rgC_pos (by omega) (by omega) (by omega) (by omega) (by omega) (by omega) (fun k hk => ?_) ?_, fun D hD => lc_rangeC (fun i H3 => ∃ xs, Same H2 H3 ∧ H3 D = some (.lst xs) ∧ Tin K H3 xs ((List.range i).map (lnX top left down across tall far lead))) ⟨[], same_upd hD, upd_same, Tin.nil⟩ ?_ ?_⟩
      · have h := lnN_lt (lead := lead) (down := down) (by omega) hk
        have h2 : (k : Int) * far < (down : Int) + lead := by
          have : ((k * far : Nat) : Int) < ((down + lead : Nat) : Int) := Int.ofNat_lt.mpr h
          rw [Int.natCast_mul, Int.natCast_add] at this
          exact this
        omega
      · have h := lnN_le (lead := lead) (down := down) (show 1 ≤ far by omega)
        have h2 : (down : Int) + lead ≤ (lnN down lead far : Int) * far := by
          have : ((down + lead : Nat) : Int) ≤ ((lnN down lead far * far : Nat) : Int) := Int.ofNat_le.mpr h
          rw [Int.natCast_mul, Int.natCast_add] at this
          exact this
        omega
      · rintro i H3 hi ⟨xs, sm, h3, tn⟩
        refine ⟨rfl, .ref t, rfl, .int ((top : Int) - lead + i * far), rfl, .int ((top : Int) - lead + i * far), rfl, .int tall, rfl, _, _, rfl, rfl, t, _, _, _, _, _, _, rfl, sm _ _ pb2.b, fun z H4 s4 nz hz => ⟨xs, s4 _ _ h3, ?_, xs ++ [.ref z], ?_, upd_same, ?_⟩⟩
        · rw [tn.len, List.length_map, List.length_range]
          have h := lnN_lt (lead := lead) (down := down) (show 1 ≤ far by omega) hi
          have h0 : i * 1 ≤ i * far := Nat.mul_le_mul_left _ (by omega)
          exact small1000 (by omega)
        · exact same_over (sm.trans s4) hD
        · have nzD : z ≠ D := (ne_of_none h3 nz).symm
          rw [List.range_succ, List.map_append]
          refine Tin.add ((tn.same s4).updl (s4 _ _ h3)) ?_
          rw [upd_ne nzD]
          exact hz
      · rintro H3 ⟨xs, sm, h3, tn⟩
        exact ⟨D, xs, rfl, sm, h3, tn⟩
    rintro _ H3 ⟨l, xs, rfl, s3, hl, tn⟩
    have pb3 := pb2.same s3
    have lx : xs.length = lnN down lead far := by rw [tn.len, List.length_map, List.length_range]
    refine ⟨.ref l, rfl, l, rfl, ⟨_, SqL.of hl⟩, fun D hD => lc_list (K := K) (a := l) (xs := xs) (fun i H4 => ∃ ys, Same H3 H4 ∧ H4 D = some (.lst ys) ∧ ys.length ≤ i ∧ Tin K H4 ys (lnL rs top left down across tall far lead i)) ⟨[], same_upd hD, upd_same, Nat.le_refl _, Tin.nil⟩ (fun i H4 _ z => by
      obtain ⟨_, sm, _⟩ := z
      exact SqL.of (sm _ _ hl)) ?_ ?_⟩
    · rintro i x H4 hx ⟨ys, sm, h4, ly, ty⟩
      have hi : i < lnN down lead far := by
        rw [← lx]
        exact (List.getElem?_eq_some_iff.mp hx).1
      obtain ⟨z, rfl, hz⟩ := tn.at_ i x (lnX top left down across tall far lead i) hx (by rw [List.getElem?_map, List.getElem?_range hi]; rfl)
      obtain ⟨fi, n, L⟩ := ln_k O hi
      have ef := L.f
      have ee := L.e
      have := L.n1
      have := L.t0
      have := L.t1
      have ex : lnX top left down across tall far lead i = [(fi : Int), (left : Int), (n : Int), (across : Int)] := by
        unfold lnX
        rw [ef, ee, show (fi : Int) + n - fi = n by omega]
      rw [ex] at hz
      have ep : lnP rs top left down across tall far lead i = hasD (cutR rs fi left n across) := by
        unfold lnP
        rw [ef, ee, show ((fi : Int) + n - fi).toNat = n by omega, Int.toNat_natCast]
      have hb : (strB (.int fi) (.int n) high && strB (.int left) (.int across) wide) = true := by
        rw [strB_of (by omega) (by omega), strB_of (by omega) (by omega)]
        rfl
      have hz4 := sm _ _ hz
      refine ⟨rfl, .ref a, rfl, .ref z, rfl, z, _, rfl, .inl (SqT.of hz4), a, high, wide, rs, .int fi, .int left, .int n, .int across, rfl, sm _ _ pb3.p, pb3.pr, kt_int _, kt_int _, kt_int _, kt_int _, fun _ x1 x2 x3 x4 e1 e2 e3 e4 _ _ _ _ p5 H5 s5 np5 hp5 => ?_, fun e => ?_⟩
      · cases e1
        cases e2
        cases e3
        cases e4
        refine ⟨p5, _, rfl, hp5, ?_, fun H6 s6 => ⟨_, rfl, ?_⟩⟩
        · unfold cutR
          rw [List.length_map, List.length_take]
          omega
        have s56 := s5.trans s6
        rw [← ep]
        have es := lnL_succ rs top left down across tall far lead i
        cases ec : lnP rs top left down across tall far lead i with
        | true =>
          rw [ec, if_pos rfl] at es
          refine iteT ⟨.ref z, rfl, ys, s56 _ _ h4, small1000 (by have h := lnN_lt (lead := lead) (down := down) (show 1 ≤ far by omega) hi; have h0 : i * 1 ≤ i * far := Nat.mul_le_mul_left _ (by omega); omega), ys ++ [.ref z], same_over (sm.trans s56) hD, upd_same, by rw [List.length_append]; exact Nat.add_le_add_right ly 1, ?_⟩
          rw [es]
          refine Tin.add ((ty.same s56).updl (s56 _ _ h4)) ?_
          rw [upd_ne (ne_of (s56 _ _ hz4) (s56 _ _ h4) (by intro z; cases z)), ex]
          exact s56 _ _ hz4
        | false =>
          rw [ec, if_neg (by decide), List.append_nil] at es
          refine iteF ⟨ys, sm.trans s56, s56 _ _ h4, Nat.le_succ_of_le ly, ?_⟩
          rw [es]
          exact ty.same s56
      · rw [hb] at e
        cases e
    · rintro H4 ⟨ys, sm, h4, ly, ty⟩
      rw [lx] at ty
      exact q D ys H4 ((s12.trans s3).trans sm) ((s12.trans s3).free hD) h4 ty
theorem ok_lax {f : Addr} {fd : FuncData} {k : Nat} (F : FnLA K f fd) (T : Tx mg) (NL : ExN K mg "NoLine" CL) (mh : ∃ t, mg "MOST_HIGH" = some (.int 9 t)) (ml : ∃ t, mg "MOST_LINE_COLUMNS" = some (.int 60 t)) (GW : Pm P w K mg base (L2.CX P w) (k + 1) "_want_box" ["picture", "thing"] (spWBX K C CP)) (GB : Pm P w K mg base CX0 (k + 1) "is_between" ["thing", "least", "most"] (spBetw K))
    (GH : Pm P w K mg base CX0 (k + 1) "_has_dots" ["rows"] spHD) (GD : Pm P w K mg base CX0 (k + 1) "_dotted_columns" ["rows"] (spDC K)) (GC : Pm P w K mg base (L2.CX P w) (k + 1) "cut_out" ["picture", "top", "left", "high", "wide"] (spCut K CP)) :
    FnOk P w K mg base (L2.CX P w) (k + 2) f fd ["picture", "box", "high", "over"] (spLAX K C CP CL) := by
  obtain ⟨fW, fdW, GW, mW, kW, bW⟩ := GW.ex
  obtain ⟨fB, fdB, GB, mB, kB, bB⟩ := GB.ex
  obtain ⟨fH, fdH, GH, mH, kH, bH⟩ := GH.ex
  obtain ⟨fD, fdD, GD, mD, kD, bD⟩ := GD.ex
  obtain ⟨fC, fdC, GC, mC, kC, bC⟩ := GC.ex
  obtain ⟨th, hmh⟩ := mh
  obtain ⟨tl, hml⟩ := ml
  refine F.ok scLA (fun vs H Q E h => ?_) (fun cdv A outer s H vs Q E hr h => ?_)
  · obtain ⟨_, _, _, _, rfl, _⟩ := h
    rfl
  · obtain ⟨x, y, tall, lead, rfl, h⟩ := h
    have nd := scLA.nd
    refine ⟨_, pss_cons (ps_expr (pe_callS GW hr (by rfl) mW kW bW (fun σ => passAt (takes_of rfl rfl rfl rfl) σ) (pa_cons (pv 0) (pa_cons (pv 1) pa_nil))))
      (pss_cons (ps_set (i := 4) nd rfl (.inl rfl) (pe_callS2 (GC.raw bC .nil) hr kC (by rfl) mC passX0 (pa_cons (pv 0) (pa_star (pv 1) pa_nil))))
      (pss_cons (ps_if (PW.pt (pw_or (pt_not (pt_val (pe_call GB hr (by rfl) mB kB bB .nil pass0 (pa_cons (pv 2) (pa_cons pe_int (pa_cons (pe_glob (v := .int 9) (by rfl) hmh ⟨_, rfl⟩) pa_nil)))))) (pw_or1 (pt_not (pt_val (pe_call GB hr (by rfl) mB kB bB .nil pass0 (pa_cons (pv 3) (pa_cons pe_int (pa_cons (pe_op op_sub (pv 2) (pe_callB call_len_seq (by rfl) T.len PySem.boot_len (pa_cons (pv 4) pa_nil))) pa_nil)))))))))
        (pss_one (ps_raise rfl (takes_of rfl rfl rfl rfl) (pmk_own PySem.F.excBase_ValueError NL.x NL.g NL.k (raises_own NL.b NL.t) rfl))) pss_nil)
      (pss_cons (ps_if (pt_not (pt_val (pe_call GH hr (by rfl) mH kH bH .nil pass0 (pa_cons (pv 4) pa_nil)))) (pss_one (ps_raise rfl (takes_of rfl rfl rfl rfl) (pmk_own PySem.F.excBase_ValueError NL.x NL.g NL.k (raises_own NL.b NL.t) rfl))) pss_nil)
      (pss_cons (ps_asg (pe_call GD hr (by rfl) mD kD bD .nil pass0 (pa_cons (pv 4) pa_nil)) (pg_tup rfl (pgs_cons (pg_name (i := 5) nd rfl (Or.inr rfl)) (pgs_cons (pg_name (i := 6) nd rfl (Or.inr rfl)) pgs_nil))))
      (pss_cons (ps_if (pt_cmpR op_gt (pe_op op_sub (pe_op op_add (pv 6) pe_int) (pv 5)) (pe_glob (v := .int 60) (by rfl) hml ⟨_, rfl⟩) (nomark _)) (pss_one (ps_raise rfl (takes_of rfl rfl rfl rfl) (pmk_own PySem.F.excBase_ValueError NL.x NL.g NL.k (raises_own NL.b NL.t) rfl))) pss_nil)
      (pss_cons (ps_set (i := 7) nd rfl (.inl rfl) (pe_op op_mul_str pe_str (pe_op op_sub (pe_op op_add (pv 6) pe_int) (pv 5))))
      (pss_cons (ps_set (i := 8) nd rfl (.inl rfl) (pe_op op_sub (pe_op op_sub (pv 2) (pv 3)) (pe_callB call_len_seq (by rfl) T.len PySem.boot_len (pa_cons (pv 4) pa_nil))))
      (pss_one (ps_ret (pe_callTy call_tuple_of (by rfl) T.tuple (by decide +kernel) (pa_cons (pe_op op_cat (pe_op op_cat (pe_op op_rep (pe_lst (pa_cons (pv 7) pa_nil)) (pv 3)) (pe_lc (own := [("row", 9)]) (g := gName 9) (tt := tYes) rfl nd (pi_tup (pv 4)) (blkOk_by (N := nLA) (sc := defScope sLA) (by decide +kernel)) (fun _ _ _ _ _ => pg_name (i := 9) nd rfl (Or.inl rfl)) (fun _ _ _ _ _ => pts_nil) (fun _ _ _ _ _ => pe_slice sl_str (pv 9) (po_some (pv 5)) (po_some (pe_op op_add (pv 6) pe_int))))) (pe_op op_rep (pe_lst (pa_cons (pv 7) pa_nil)) (pv 8))) pa_nil))))))))))), ?_⟩
    rcases h with ⟨ask, q⟩ | ⟨a, high, wide, rs, ok, rfl, ha, pr, bq, h⟩
    · exact ⟨x, rfl, y, rfl, x, y, rfl, .inl ⟨ask, q⟩⟩
    rcases h with ⟨e, q⟩ | ⟨t, bx, bl, bh, bw, e, rfl, ht, xh, yw, h1, w1, w60, h⟩
    · exact ⟨.ref a, rfl, y, rfl, .ref a, y, rfl, .inr ⟨a, high, wide, rs, ok, rfl, ha, pr, bq, (fun e2 => by rw [e] at e2; cases e2), fun _ => q⟩⟩
    refine ⟨.ref a, rfl, .ref t, rfl, .ref a, .ref t, rfl, .inr ⟨a, high, wide, rs, ok, rfl, ha, pr, bq, fun _ H1 s1 => ?_, fun e2 => by rw [e] at e2; cases e2⟩⟩
    have hb : (strB (.int bx) (.int bh) high && strB (.int bl) (.int bw) wide) = true := by
      rw [strB_of h1 xh, strB_of w1 yw]
      rfl
    have ph1 := pr.h1
    have pw1 := pr.w1
    have plen := pr.len
    have ht1 := s1 _ _ ht
    refine ⟨.ref a, rfl, .ref t, rfl, t, _, rfl, .inl (SqT.of ht1), a, high, wide, rs, .int bx, .int bl, .int bh, .int bw, rfl, s1 _ _ ha, pr, kt_int _, kt_int _, kt_int _, kt_int _, fun _ x1 x2 x3 x4 e1 e2 e3 e4 _ _ _ _ p H2 s2 np hp => ?_, fun e => by rw [hb] at e; cases e⟩
    cases e1
    cases e2
    cases e3
    cases e4
    have s12 := s1.trans s2
    have lc : (cutR rs bx bl bh bw).length = bh := cutR_len (by omega)
    have rl : ∀ q ∈ cutR rs bx bl bh bw, q.length = bw := fun q hq => cutR_row pr.rows xh yw hq
    generalize ecs : cutR rs bx bl bh bw = cs at hp lc rl h
    have lcV : (cs.map rv).length = bh := by rw [List.length_map, lc]
    refine ⟨.int tall, rfl, .int tall, 1, 9, rfl, kt_int _, _, rfl, ?_⟩
    cases b1 : betw (.int tall) 1 9 with
    | false =>
      rw [b1, Bool.false_and] at h
      rcases h with ⟨_, q⟩ | ⟨e, _⟩ | ⟨e, _⟩
      · exact iteT (iteT (q _ s12))
      · cases e
      · cases e
    | true =>
    rw [b1, Bool.true_and] at h
    have t9 : 1 ≤ tall ∧ tall ≤ 9 := by
      rw [betw_int, Bool.and_eq_true, decide_eq_true_iff, decide_eq_true_iff] at b1
      exact b1
    refine iteF ⟨.int lead, rfl, .int tall, rfl, .ref p, rfl, p, _, rfl, .inr (SqT.of hp), ?_⟩
    rw [lcV]
    refine ⟨tall, bh, rfl, rfl, .int lead, 0, _, rfl, kt_int _, _, rfl, ?_⟩
    cases b2 : betw (.int lead) 0 (tall - bh) with
    | false =>
      rw [b2] at h
      rcases h with ⟨_, q⟩ | ⟨e, _⟩ | ⟨e, _⟩
      · exact iteT (q _ s12)
      · cases e
      · cases e
    | true =>
    rw [b2] at h
    have l9 : 0 ≤ lead ∧ lead ≤ tall - bh := by
      rw [betw_int, Bool.and_eq_true, decide_eq_true_iff, decide_eq_true_iff] at b2
      exact b2
    refine iteF ⟨.ref p, rfl, p, cs, rfl, hp, by omega, fun H3 s3 => ⟨_, rfl, ?_⟩⟩
    have s13 := s12.trans s3
    cases hd : hasD cs with
    | false =>
      rw [hd] at h
      rcases h with ⟨e, _⟩ | ⟨_, _, q⟩ | ⟨_, e, _⟩
      · cases e
      · exact iteT (q _ s13)
      · cases e
    | true =>
    rw [hd] at h
    have q : ∀ (z : Addr) H', Same H H' → Q (.ref z) H' := by
      rcases h with ⟨e, _⟩ | ⟨_, e, _⟩ | ⟨_, _, q⟩
      · cases e
      · cases e
      · exact q
    refine iteF ⟨.ref p, rfl, false, p, cs, rfl, SqT.of (s3 _ _ hp), by omega, ?_, fun p2 f0 r0 H4 s4 fl hp2 => ?_⟩
    · unfold hasD at hd
      obtain ⟨l, hl, e⟩ := List.any_eq_true.mp hd
      exact ⟨l, hl, of_decide_eq_true e⟩
    have s14 := s13.trans s4
    have hp4 := (s3.trans s4) _ _ hp
    have hfr : f0 ≤ r0 := by
      obtain ⟨q0, hq0, e0⟩ := fl.re
      exact fl.fm _ hq0 _ e0
    have hrw : r0 < bw := by
      obtain ⟨q0, hq0, e0⟩ := fl.re
      have := getD35 e0
      rw [rl _ hq0] at this
      exact this
    refine ⟨p2, _, rfl, SqT.of hp2, rfl, _, _, rfl, _, _, rfl, rfl, ?_⟩
    refine ⟨.int r0, rfl, r0, 1, rfl, rfl, .int f0, rfl, _, f0, rfl, rfl, _, 60, rfl, rfl, _, rfl, iteE (decide_eq_false (by omega)) ?_⟩
    have ew : (r0 : Int) + 1 - f0 = ((r0 + 1 - f0 : Nat) : Int) := by omega
    refine ⟨.int r0, rfl, r0, 1, rfl, rfl, .int f0, rfl, _, f0, rfl, rfl, ".", ((r0 + 1 - f0 : Nat) : Int), rfl, congrArg V.int ew, ?_, ?_⟩
    · rw [s_dot]
      exact mul_ok' 46 _ (by omega)
    rw [s_dot, mul_sign']
    obtain ⟨l0, rfl⟩ := Int.eq_ofNat_of_zero_le l9.1
    obtain ⟨t0, rfl⟩ := Int.eq_ofNat_of_zero_le (show 0 ≤ tall by omega)
    refine ⟨.int t0, rfl, .int l0, rfl, t0, l0, rfl, rfl, .ref p, rfl, p, _, rfl, .inr (SqT.of hp4), ?_⟩
    rw [lcV]
    refine ⟨_, bh, rfl, rfl, .str (S (List.replicate (r0 + 1 - f0) 46)), rfl, by show 1 ≤ sizeLine; decide, fun z1 hz1 => ?_⟩
    have sa := same_upd (o := .lst [V.str (S (List.replicate (r0 + 1 - f0) 46))]) hz1
    refine ⟨.int l0, rfl, z1, l0, _, rfl, rfl, upd_same, by omega, by omega, ?_, fun z2 hz2 => ?_⟩
    · rw [Int.toNat_natCast, sizeLine_eq]
      show 1 * l0 ≤ _
      omega
    rw [Int.toNat_natCast, rep_flat] at *
    have sb := sa.trans (same_upd (o := .lst (List.replicate l0 (V.str (S (List.replicate (r0 + 1 - f0) 46))))) hz2)
    have hz2' : (upd (upd H4 z1 (.lst [V.str (S (List.replicate (r0 + 1 - f0) 46))])) z2 (.lst (List.replicate l0 (V.str (S (List.replicate (r0 + 1 - f0) 46)))))) z2 = some (.lst (List.replicate l0 (V.str (S (List.replicate (r0 + 1 - f0) 46))))) := upd_same
    generalize upd (upd H4 z1 (.lst [V.str (S (List.replicate (r0 + 1 - f0) 46))])) z2 (.lst (List.replicate l0 (V.str (S (List.replicate (r0 + 1 - f0) 46))))) = H5 at sb hz2'
    have hp5 := sb _ _ hp4
    refine ⟨.ref p, rfl, p, rfl, ⟨_, SqT.of hp5⟩, fun D hD => lc_tup (K := K) (a := p) (xs := cs.map rv) (fun i H6 => ∃ ys : List V, Same H5 H6 ∧ H6 D = some (.lst ys) ∧ ys.length = i) ⟨[], same_upd hD, upd_same, rfl⟩ (fun i H6 _ z => by
      obtain ⟨_, sm, _⟩ := z
      exact SqT.of (sm _ _ hp5)) ?_ ?_⟩
    · rintro i x H6 hi ⟨ys, sm, h6, ly⟩
      obtain ⟨l, hl, rfl⟩ := map_at2 hi
      have hil := (List.getElem?_eq_some_iff.mp hl).1
      have ll := rl l (List.mem_of_getElem? hl)
      refine ⟨rfl, rv l, rfl, .int f0, rfl, f0, rfl, .int r0, rfl, r0, 1, rfl, rfl, _, rfl, S l, rfl, ?_, ys, h6, ?_, ys ++ [_], same_over sm hD, upd_same, by rw [List.length_append, ly]; rfl⟩
      · rw [SX.S_len]
        exact Nat.le_of_lt (small1000 (by omega))
      · rw [sizeLine_eq]
        omega
    rintro H6 ⟨ys, sm, h6, ly⟩
    rw [lcV] at ly
    refine ⟨z2, D, _, _, rfl, rfl, sm _ _ hz2', h6, ?_, fun z3 hz3 => ?_⟩
    · rw [List.length_replicate, sizeLine_eq]
      omega
    have sc := same_upd (o := .lst (List.replicate l0 (V.str (S (List.replicate (r0 + 1 - f0) 46))) ++ ys)) hz3
    have hz3' : (upd H6 z3 (.lst (List.replicate l0 (V.str (S (List.replicate (r0 + 1 - f0) 46))) ++ ys))) z3 = some (.lst (List.replicate l0 (V.str (S (List.replicate (r0 + 1 - f0) 46))) ++ ys)) := upd_same
    generalize upd H6 z3 (.lst (List.replicate l0 (V.str (S (List.replicate (r0 + 1 - f0) 46))) ++ ys)) = H7 at sc hz3'
    refine ⟨.str (S (List.replicate (r0 + 1 - f0) 46)), rfl, by show 1 ≤ sizeLine; decide, fun z4 hz4 => ?_⟩
    have sd := same_upd (o := .lst [V.str (S (List.replicate (r0 + 1 - f0) 46))]) hz4
    have eb : (t0 : Int) - l0 - bh = ((t0 - l0 - bh : Nat) : Int) := by omega
    refine ⟨_, rfl, z4, ((t0 - l0 - bh : Nat) : Int), _, rfl, congrArg V.int eb, upd_same, by omega, by omega, ?_, fun z5 hz5 => ?_⟩
    · rw [Int.toNat_natCast, sizeLine_eq]
      show 1 * (t0 - l0 - bh) ≤ _
      omega
    rw [Int.toNat_natCast, rep_flat] at *
    have se := sd.trans (same_upd (o := .lst (List.replicate (t0 - l0 - bh) (V.str (S (List.replicate (r0 + 1 - f0) 46))))) hz5)
    refine ⟨z3, z5, _, _, rfl, rfl, se _ _ hz3', upd_same, ?_, fun z6 hz6 => ?_⟩
    · rw [List.length_append, List.length_replicate, List.length_replicate, sizeLine_eq]
      omega
    refine ⟨z6, _, rfl, .inl ⟨SqL.of upd_same, fun p9 hp9 => ?_⟩⟩
    exact q p9 _ ((((s14.trans sb).trans sm).trans sc).trans (se.trans ((same_upd hz6).trans (same_upd hp9))))
end
end Dt
namespace Dt
open PySem PySem.Spec PyProof.Rows L2 L2X
open SX (S)
open StX
theorem kn_str {K : PySem.W.Frag} {H : Hp} {z : Str} (h : z.length ≤ sizeLine) : Kn K H (.str z) := ⟨⟨"str", .str z, rfl⟩, fun y e => by cases e; exact h⟩
theorem kn_of {K : PySem.W.Frag} {H : Hp} {x : V} {T : String} (t : TyB K H x T) (ok : tyOk T = true) (n : ∀ z, x ≠ .str z) : Kn K H x := ⟨⟨T, t, ok⟩, fun z e => absurd e (n z)⟩
/-! ### kinds stay over a draw -/
theorem tyB_do {K : PySem.W.Frag} {H H' : Hp} {d : Addr} {n m : Nat} {x : V} {T : String} (s : Do d H H') (D : Du H d n) (D' : Du H' d m) (t : TyB K H x T) : TyB K H' x T := by
  obtain ⟨a1, a2, a3, hd, _⟩ := D
  obtain ⟨b1, b2, b3, hd', _⟩ := D'
  cases t with
  | non => exact .non
  | bl b => exact .bl b
  | int i => exact .int i
  | str x => exact .str x
  | byt b => exact .byt b
  | @lst a xs h =>
    rcases h with (h | ⟨o, h⟩) | h
    · by_cases e : a = d
      · rw [e]
        exact .lst (SqL.of hd')
      · exact .lst (SqL.of (s _ _ h e))
    · exact .lst (.inl (.inr ⟨o, s _ _ h (ne_of h hd (by intro z; cases z))⟩))
    · exact .lst (.inr h)
  | @tup a xs h =>
    rcases h with (h | ⟨o, h⟩) | h
    · exact .tup (SqT.of (s _ _ h (ne_of h hd (by intro z; cases z))))
    · exact .tup (.inl (.inr ⟨o, s _ _ h (ne_of h hd (by intro z; cases z))⟩))
    · exact .tup (.inr h)
  | @dK a kvs h => exact .dK (s _ _ h (ne_of h hd (by intro z; cases z)))
theorem sqT_do {K : PySem.W.Frag} {H H' : Hp} {d a : Addr} {n : Nat} {xs : List V} (s : Do d H H') (D : Du H d n) (h : SqT K H a xs) : SqT K H' a xs := by
  obtain ⟨a1, a2, a3, hd, _⟩ := D
  rcases h with (h | ⟨o, h⟩) | h
  · exact SqT.of (s _ _ h (ne_of h hd (by intro z; cases z)))
  · exact .inl (.inr ⟨o, s _ _ h (ne_of h hd (by intro z; cases z))⟩)
  · exact .inr h
theorem Kt.do' {K : PySem.W.Frag} {H H' : Hp} {d : Addr} {n m : Nat} {x : V} (h : Kt K H x) (s : Do d H H') (D : Du H d n) (D' : Du H' d m) : Kt K H' x := by
  obtain ⟨T, t, ok⟩ := h
  exact ⟨T, tyB_do s D D' t, ok⟩
theorem Kn.do' {K : PySem.W.Frag} {H H' : Hp} {d : Addr} {n m : Nat} {x : V} (h : Kn K H x) (s : Do d H H') (D : Du H d n) (D' : Du H' d m) : Kn K H' x := by
  obtain ⟨⟨T, t, ok⟩, z⟩ := h
  exact ⟨⟨T, tyB_do s D D' t, ok⟩, z⟩
theorem Asked.do' {K : PySem.W.Frag} {H H' : Hp} {d : Addr} {n m : Nat} {x : V} {b : Bool} (h : Asked K H x b) (s : Do d H H') (D : Du H d n) (D' : Du H' d m) : Asked K H' x b := by
  rcases h with ⟨T, t, ok, ne, e⟩ | ⟨a, xs, e, h1, h2, e2⟩
  · exact .inl ⟨T, tyB_do s D D' t, ok, ne, e⟩
  · exact .inr ⟨a, xs, e, sqT_do s D h1, fun l y hy => (h2 l y hy).do' s D D', e2⟩
theorem Asked.sm {K : PySem.W.Frag} {H H' : Hp} {x : V} {b : Bool} (h : Asked K H x b) (s : Same H H') : Asked K H' x b := by
  rcases h with ⟨T, t, ok, ne, e⟩ | ⟨a, xs, e, h1, h2, e2⟩
  · exact .inl ⟨T, tyB_s t s, ok, ne, e⟩
  · exact .inr ⟨a, xs, e, sameT s h1, fun l y hy => (h2 l y hy).same s, e2⟩
theorem BoxQ.do' {K : PySem.W.Frag} {H H' : Hp} {d : Addr} {n m high wide : Nat} {y : V} {ok : Bool} (h : BoxQ K H high wide y ok) (s : Do d H H') (D : Du H d n) (D' : Du H' d m) : BoxQ K H' high wide y ok := by
  rcases h with ⟨T, t, o, n, e⟩ | ⟨t, xs, e, ht, n, e2⟩ | ⟨t, x1, x2, x3, x4, e, ht, k1, k2, k3, k4, e2⟩
  · exact .inl ⟨T, tyB_do s D D' t, o, n, e⟩
  · exact .inr (.inl ⟨t, xs, e, sqT_do s D ht, n, e2⟩)
  · exact .inr (.inr ⟨t, x1, x2, x3, x4, e, sqT_do s D ht, k1.do' s D D', k2.do' s D D', k3.do' s D D', k4.do' s D D', e2⟩)
/-- so for all of some things -/
def AllA (K : PySem.W.Frag) (H : Hp) (vs : List V) : Prop := ∀ y ∈ vs, Asked K H y false
def AllB (K : PySem.W.Frag) (high wide : Nat) (H : Hp) (vs : List V) : Prop := ∀ y ∈ vs, BoxQ K H high wide y false
theorem AllA.same {K : PySem.W.Frag} {H H' : Hp} {vs : List V} (h : AllA K H vs) (s : Same H H') : AllA K H' vs := fun y hy => (h y hy).sm s
theorem AllB.same {K : PySem.W.Frag} {high wide : Nat} {H H' : Hp} {vs : List V} (h : AllB K high wide H vs) (s : Same H H') : AllB K high wide H' vs := fun y hy => (h y hy).same s
theorem AllA.snoc {K : PySem.W.Frag} {H : Hp} {vs : List V} {v : V} (h : AllA K H vs) (a : Asked K H v false) : AllA K H (vs ++ [v]) := fun y hy => by
  rcases List.mem_append.mp hy with z | z
  · exact h y z
  · rw [List.mem_singleton.mp z]
    exact a
theorem AllB.snoc {K : PySem.W.Frag} {high wide : Nat} {H : Hp} {vs : List V} {v : V} (h : AllB K high wide H vs) (a : BoxQ K H high wide v false) : AllB K high wide H (vs ++ [v]) := fun y hy => by
  rcases List.mem_append.mp hy with z | z
  · exact h y z
  · rw [List.mem_singleton.mp z]
    exact a
theorem picOk_row {xs : List V} {y : V} (hy : y ∈ xs) (h : rowOk y = false) : picOk xs = false := by
  unfold picOk
  have e : xs.all rowOk = false := by
    rw [List.all_eq_false]
    exact ⟨y, hy, by rw [h]; decide⟩
  rw [e, Bool.and_false, Bool.false_and]
theorem picOk_un {xs : List V} {y : V} (hy : y ∈ xs) (h : lenV y ≠ lenV (xs.headD .non)) : picOk xs = false := by
  unfold picOk
  have e : (xs.all fun y => decide (lenV y = lenV (xs.headD .non))) = false := by
    rw [List.all_eq_false]
    exact ⟨y, hy, by rw [decide_eq_false h]; decide⟩
  rw [e, Bool.and_false]
theorem picOk_many {xs : List V} (h : 60 < xs.length) : picOk xs = false := by
  unfold picOk
  rw [decide_eq_false (show ¬ xs.length ≤ 60 by omega), Bool.and_false, Bool.false_and, Bool.false_and]
theorem ask_tup {K : PySem.W.Frag} {H : Hp} {a : Addr} {xs : List V} (h : H a = some (.tup xs)) (kn : ∀ y ∈ xs, Kn K H y) (e : picOk xs = false) : Asked K H (.ref a) false := .inr ⟨a, xs, rfl, SqT.of h, fun _ => kn, e.symm⟩
theorem kn_ref_t {K : PySem.W.Frag} {H : Hp} {a : Addr} {xs : List V} (h : H a = some (.tup xs)) : Kn K H (.ref a) := kn_of (.tup (SqT.of h)) rfl fun _ z => nomatch z
theorem kn_ref_l {K : PySem.W.Frag} {H : Hp} {a : Addr} {xs : List V} (h : H a = some (.lst xs)) : Kn K H (.ref a) := kn_of (.lst (SqL.of h)) rfl fun _ z => nomatch z
theorem kn_rv {K : PySem.W.Frag} {H : Hp} {l : List Nat} (h : l.length ≤ 1000) : Kn K H (rv l) := kn_str (by rw [SX.S_len]; exact Nat.le_of_lt (small1000 h))
theorem kn_1 {K : PySem.W.Frag} {H : Hp} {x : V} (k : Kn K H x) : ∀ y ∈ [x], Kn K H y := fun y hy => by
  rw [List.mem_singleton.mp hy]
  exact k
theorem boxq4 {K : PySem.W.Frag} {H : Hp} {t : Addr} {high wide : Nat} {x1 x2 x3 x4 : V} (h : H t = some (.tup [x1, x2, x3, x4])) (k1 : Kt K H x1) (k2 : Kt K H x2) (k3 : Kt K H x3) (k4 : Kt K H x4) (e : (strB x1 x3 high && strB x2 x4 wide) = false) : BoxQ K H high wide (.ref t) false :=
  .inr (.inr ⟨t, x1, x2, x3, x4, rfl, SqT.of h, k1, k2, k3, k4, e.symm⟩)
theorem kt_non {K : PySem.W.Frag} {H : Hp} : Kt K H .non := ⟨"NoneType", .non, rfl⟩
theorem kt_str {K : PySem.W.Frag} {H : Hp} {z : Str} : Kt K H (.str z) := ⟨"str", .str z, rfl⟩
theorem kt_lst {K : PySem.W.Frag} {H : Hp} {a : Addr} {xs : List V} (h : H a = some (.lst xs)) : Kt K H (.ref a) := ⟨"list", .lst (SqL.of h), rfl⟩
theorem strB_n1 {x y : V} {n : Int} (h : isInt y = true → ∃ m : Int, y = .int m ∧ (m < 1 ∨ betw x 0 (n - m) = false)) : strB x y n = false := by
  cases y with
  | int m =>
    obtain ⟨m', e, h⟩ := h rfl
    cases e
    show (decide (1 ≤ m) && betw x 0 (n - m)) = false
    rcases h with h | h
    · rw [decide_eq_false (by omega), Bool.false_and]
    · rw [h, Bool.and_false]
  | _ => rfl
theorem strB_i {x y n : Int} (h : y < 1 ∨ x < 0 ∨ n - y < x) : strB (.int x) (.int y) n = false := by
  refine strB_n1 fun _ => ⟨y, rfl, ?_⟩
  rcases h with h | h | h
  · exact .inl h
  · refine .inr ?_
    rw [betw_int, decide_eq_false (by omega), Bool.false_and]
  · refine .inr ?_
    rw [betw_int, decide_eq_false (p := x ≤ n - y) (by omega), Bool.and_false]
theorem b_or1 {a b : Bool} (h : a = false) : (a && b) = false := by rw [h, Bool.false_and]
theorem b_or2 {a b : Bool} (h : b = false) : (a && b) = false := by rw [h, Bool.and_false]
abbrev sNP : Stmt := topS 52
theorem scNP : FnScope ["draw", "picture", "some"] ["draw", "picture"] (defScope sNP) := ⟨rfl, rfl, rfl, by decide +kernel, rfl, by decide +kernel, by decide +kernel⟩
def spNP (K : PySem.W.Frag) : Sp := fun vs H Q _ => ∃ (d a : Addr) (n high wide : Nat) (rs : List (List Nat)), vs = [.ref d, .ref a] ∧ Du H d n ∧ n + 10 ≤ fuel ∧ H a = some (.tup (rs.map rv)) ∧ PicR high wide rs ∧ wide ≤ 50 ∧
  ∀ x H', Asked K H' x false → Du H' d (n + 1) → Do d H H' → Q x H'
abbrev sNB : Stmt := topS 53
abbrev nNB : List Str := ["draw", "picture", "deep", "wide", "some"]
theorem scNB : FnScope nNB ["draw", "picture"] (defScope sNB) := ⟨rfl, rfl, rfl, by decide +kernel, rfl, by decide +kernel, by decide +kernel⟩
def spNB (K : PySem.W.Frag) : Sp := fun vs H Q _ => ∃ (d a : Addr) (n high wide : Nat) (rs : List (List Nat)), vs = [.ref d, .ref a] ∧ Du H d n ∧ n + 10 ≤ fuel ∧ H a = some (.tup (rs.map rv)) ∧ PicR high wide rs ∧
  ∀ x H', BoxQ K H' high wide x false → Du H' d (n + 1) → Do d H H' → Q x H'
theorem StXcut (xs : List V) (n : Nat) : cutV xs none (some (n : Int)) = xs.take n := by
  unfold cutV
  rw [HT.sIx_nat]
  show (xs.drop 0).take (min n xs.length - 0) = _
  rw [List.drop_zero, Nat.sub_zero]
  by_cases h : n ≤ xs.length
  · rw [Nat.min_eq_left h]
  · rw [Nat.min_eq_right (by omega), List.take_length, List.take_of_length_le (by omega)]
theorem rep_anyI {K : PySem.W.Frag} {H : Hp} {a : Addr} {x : V} {i : Int} {k : Nat} {Q : VK} (e : i = (k : Int)) (h : H a = some (.tup [x])) (h1 : 1 ≤ k) (h2 : k ≤ 1000) (q : ∀ z H2, Same H H2 → H2 z = some (.tup (List.replicate k x)) → Q (.ref z) H2) :
    rRepA K (.ref a) (.int i) H Q := by
  rw [e]
  exact rep_any h h1 h2 q
theorem m121 : MulOk "#" 121 := by
  refine ⟨by decide, fun _ _ => by decide +kernel, fun _ _ => by decide +kernel⟩
section
variable {P : Program} {w : World} {K : PySem.W.Frag} {mg : Str → Option Value} {base : Heap}
theorem ok_nb {f : Addr} {fd : FuncData} {k : Nat} (F : Fun K "_law_no_box" "_law_no_box" sNB f fd) (T : Tx mg) (GK : Pm P w K mg base CX0 (k + 1) "_law_pick" ["draw", "some"] (spPk K)) : FnOk P w K mg base CX0 (k + 2) f fd ["draw", "picture"] (spNB K) := by
  obtain ⟨fK, fdK, GK, mK, kK, bK⟩ := GK.ex
  refine F.ok scNB (fun vs H Q E h => ?_) (fun cdv A outer s H vs Q E hr h => ?_)
  · obtain ⟨d, a, _, _, _, _, rfl, _⟩ := h
    rfl
  · obtain ⟨d, a, n, high, wide, rs, rfl, D, hn, ha, pr, q⟩ := h
    have nd := scNB.nd
    refine ⟨_, C8.pss_cut (ps_par (i := 2) (j := 3) (by rfl) nd rfl rfl (by decide) rfl rfl (pa_cons (pe_callB call_len_seq (by rfl) T.len PySem.boot_len (pa_cons (pv 1) pa_nil)) (pa_cons (pe_callB call_len_str (by rfl) T.len PySem.boot_len (pa_cons (pe_ix (r := rIxT K) ix_tup (pv 1) pe_int (fun _ _ => rfl)) pa_nil)) pa_nil)) (by rfl))
      (C8.pss_cut (ps_set (i := 4) nd rfl (.inl rfl) (pe_lst (pa_cons pe_non (pa_cons pe_int (pa_cons pe_str (pa_cons (pe_tup pa_nil) (pa_cons (pe_tup (pa_cons pe_int (pa_cons pe_int (pa_cons (pv 2) pa_nil)))) (pa_cons (pe_tup (pa_cons pe_int (pa_cons pe_int (pa_cons (pv 2) (pa_cons (pv 3) (pa_cons pe_int pa_nil)))))) (pa_cons (pe_lst (pa_cons pe_int (pa_cons pe_int (pa_cons (pv 2) (pa_cons (pv 3) pa_nil))))) (pa_cons (pe_tup (pa_cons pe_int (pa_cons pe_int (pa_cons (pe_op op_add (pv 2) pe_int) (pa_cons (pv 3) pa_nil))))) pa_nil))))))))))
      (C8.pss_cut (ps_set (i := 4) nd rfl (.inl rfl) (pe_op op_cat (pv 4) (pe_lst (pa_cons (pe_tup (pa_cons pe_int (pa_cons pe_int (pa_cons (pv 2) (pa_cons (pe_op op_add (pv 3) pe_int) pa_nil))))) (pa_cons (pe_tup (pa_cons pe_int (pa_cons pe_int (pa_cons (pv 2) (pa_cons (pv 3) pa_nil))))) (pa_cons (pe_tup (pa_cons pe_int (pa_cons pe_int (pa_cons (pv 2) (pa_cons (pv 3) pa_nil))))) (pa_cons (pe_tup (pa_cons (pe_un un_neg pe_int) (pa_cons pe_int (pa_cons pe_int (pa_cons pe_int pa_nil))))) (pa_cons (pe_tup (pa_cons pe_int (pa_cons (pe_un un_neg pe_int) (pa_cons pe_int (pa_cons pe_int pa_nil))))) pa_nil))))))))
      (C8.pss_cut (ps_set (i := 4) nd rfl (.inl rfl) (pe_op op_cat (pv 4) (pe_lst (pa_cons (pe_tup (pa_cons pe_int (pa_cons pe_int (pa_cons pe_int (pa_cons pe_int pa_nil))))) (pa_cons (pe_tup (pa_cons pe_int (pa_cons pe_int (pa_cons pe_int (pa_cons pe_int pa_nil))))) (pa_cons (pe_tup (pa_cons pe_bl (pa_cons pe_int (pa_cons pe_int (pa_cons pe_int pa_nil))))) (pa_cons (pe_tup (pa_cons pe_int (pa_cons pe_int (pa_cons pe_bl (pa_cons pe_int pa_nil))))) (pa_cons (pe_tup (pa_cons pe_int (pa_cons pe_str (pa_cons pe_int (pa_cons pe_int pa_nil))))) (pa_cons (pe_tup (pa_cons pe_non (pa_cons pe_int (pa_cons pe_int (pa_cons pe_int pa_nil))))) pa_nil)))))))))
      (pss_one (ps_ret (pe_call GK hr (by rfl) mK kK bK .nil pass0 (pa_cons (pv 0) (pa_cons (pe_op op_cat (pv 4) (pe_lst (pa_cons (pe_tup (pa_cons (pv 2) (pa_cons pe_int (pa_cons pe_int (pa_cons pe_int pa_nil))))) (pa_cons (pe_tup (pa_cons pe_int (pa_cons (pv 3) (pa_cons pe_int (pa_cons pe_int pa_nil))))) (pa_cons (pe_tup (pa_cons pe_int (pa_cons pe_int (pa_cons pe_int (pa_cons (pe_lst (pa_cons pe_int pa_nil)) pa_nil))))) (pa_cons (pe_tup (pa_cons pe_int (pa_cons pe_int (pa_cons (pe_un un_neg pe_int) (pa_cons pe_int pa_nil))))) pa_nil)))))) pa_nil)))))))), ?_⟩
    have hh0 := pr.h0
    have hw0 := pr.w0
    have hlr : (rs.map rv).length = high := by rw [List.length_map, pr.len]
    have h0' : 0 < rs.length := by rw [pr.len]; omega
    have er0 : rs[0]? = some rs[0] := List.getElem?_eq_getElem h0'
    have lr0 := (pr.row _ (List.getElem_mem h0')).len
    generalize rs[0] = r0 at er0 lr0
    have ix0 : atI (rs.map rv) 0 = some (rv r0) := atI_nat (j := 0) (by rw [List.getElem?_map, er0]; rfl)
    have lS : (S r0).length = wide := by rw [SX.S_len, lr0]
    have hw1 := pr.w1
    have lz : (S r0).length ≤ sizeLine := by rw [lS]; exact Nat.le_of_lt (small1000 (by omega))
    refine ⟨fun σ' H' => σ' = [some (.ref d), some (.ref a), some (.int high), some (.int wide), none] ∧ H' = H, ?_, ?_⟩
    · refine ⟨.ref a, rfl, a, _, rfl, .inr (SqT.of ha), .ref a, rfl, a, _, 0, rv r0, rfl, rfl, SqT.of ha, ix0, S r0, rfl, lz, ?_⟩
      rw [hlr, lS]
      exact ⟨_, _, rfl, rfl, rfl⟩
    rintro _ H0 ⟨rfl, rfl⟩
    refine ⟨fun σ' H' => ∃ (l : Addr) (xs : List V), σ' = [some (.ref d), some (.ref a), some (.int high), some (.int wide), some (.ref l)] ∧ Same H0 H' ∧ H' l = some (.lst xs) ∧ xs.length = 8 ∧ AllB K high wide H' xs, ?_, ?_⟩
    · have SS := Same.refl H0
      have AL : AllB K high wide H0 [] := fun y hy => nomatch hy
      have AL := AL.snoc (v := .non) (.inl ⟨"NoneType", .non, rfl, by decide, rfl⟩)
      have AL := AL.snoc (v := .int 5) (.inl ⟨"int", .int 5, rfl, by decide, rfl⟩)
      have AL := AL.snoc (v := .str "box") (.inl ⟨"str", .str "box", rfl, by decide, rfl⟩)
      refine ⟨by show 0 ≤ sizeLine; decide, fun t4 ht4 => ?_⟩
      have st4 := same_upd (o := .tup []) ht4
      have et4 : (upd H0 t4 (.tup [])) t4 = some (.tup []) := upd_same
      generalize upd H0 t4 (.tup []) = H4 at st4 et4 ⊢
      have SS := SS.trans st4
      have AL := (AL.same st4).snoc (v := .ref t4) (.inr (.inl ⟨t4, _, rfl, SqT.of et4, by simp, rfl⟩))
      refine ⟨.int high, rfl, by show 3 ≤ sizeLine; decide, fun t5 ht5 => ?_⟩
      have st5 := same_upd (o := .tup [V.int 0, V.int 0, V.int high]) ht5
      have et5 : (upd H4 t5 (.tup [V.int 0, V.int 0, V.int high])) t5 = some (.tup [V.int 0, V.int 0, V.int high]) := upd_same
      generalize upd H4 t5 (.tup [V.int 0, V.int 0, V.int high]) = H5 at st5 et5 ⊢
      have SS := SS.trans st5
      have AL := (AL.same st5).snoc (v := .ref t5) (.inr (.inl ⟨t5, _, rfl, SqT.of et5, by simp, rfl⟩))
      refine ⟨.int high, rfl, .int wide, rfl, by show 5 ≤ sizeLine; decide, fun t6 ht6 => ?_⟩
      have st6 := same_upd (o := .tup [V.int 0, V.int 0, V.int high, V.int wide, V.int 1]) ht6
      have et6 : (upd H5 t6 (.tup [V.int 0, V.int 0, V.int high, V.int wide, V.int 1])) t6 = some (.tup [V.int 0, V.int 0, V.int high, V.int wide, V.int 1]) := upd_same
      generalize upd H5 t6 (.tup [V.int 0, V.int 0, V.int high, V.int wide, V.int 1]) = H6 at st6 et6 ⊢
      have SS := SS.trans st6
      have AL := (AL.same st6).snoc (v := .ref t6) (.inr (.inl ⟨t6, _, rfl, SqT.of et6, by simp, rfl⟩))
      refine ⟨.int high, rfl, .int wide, rfl, by show 4 ≤ sizeLine; decide, fun t7 ht7 => ?_⟩
      have st7 := same_upd (o := .lst [V.int 0, V.int 0, V.int high, V.int wide]) ht7
      have et7 : (upd H6 t7 (.lst [V.int 0, V.int 0, V.int high, V.int wide])) t7 = some (.lst [V.int 0, V.int 0, V.int high, V.int wide]) := upd_same
      generalize upd H6 t7 (.lst [V.int 0, V.int 0, V.int high, V.int wide]) = H7 at st7 et7 ⊢
      have SS := SS.trans st7
      have AL := (AL.same st7).snoc (v := .ref t7) (.inl ⟨"list", .lst (SqL.of et7), rfl, by decide, rfl⟩)
      refine ⟨.int high, rfl, high, 1, rfl, rfl, .int wide, rfl, by show 4 ≤ sizeLine; decide, fun t8 ht8 => ?_⟩
      have st8 := same_upd (o := .tup [V.int 0, V.int 0, V.int ((high : Int) + 1), V.int wide]) ht8
      have et8 : (upd H7 t8 (.tup [V.int 0, V.int 0, V.int ((high : Int) + 1), V.int wide])) t8 = some (.tup [V.int 0, V.int 0, V.int ((high : Int) + 1), V.int wide]) := upd_same
      generalize upd H7 t8 (.tup [V.int 0, V.int 0, V.int ((high : Int) + 1), V.int wide]) = H8 at st8 et8 ⊢
      have SS := SS.trans st8
      have AL := (AL.same st8).snoc (v := .ref t8) (boxq4 et8 (kt_int _) (kt_int _) (kt_int _) (kt_int _) (b_or1 (strB_i (by omega))))
      refine ⟨by show 8 ≤ sizeLine; decide, fun l hl => ?_⟩
      exact ⟨l, [.non, .int 5, .str "box", .ref t4, .ref t5, .ref t6, .ref t7, .ref t8], rfl, SS.trans (same_upd hl), upd_same, rfl, AL.same (same_upd hl)⟩
    rintro _ Ga ⟨la, xa, rfl, SA, hla, lxa, AA⟩
    refine ⟨fun σ' H' => ∃ (l : Addr) (xs : List V), σ' = [some (.ref d), some (.ref a), some (.int high), some (.int wide), some (.ref l)] ∧ Same H0 H' ∧ H' l = some (.lst xs) ∧ xs.length = 13 ∧ AllB K high wide H' xs, ?_, ?_⟩
    · have SS := Same.refl Ga
      have AL : AllB K high wide Ga [] := fun y hy => nomatch hy
      refine ⟨.ref la, rfl, .int high, rfl, .int wide, rfl, wide, 1, rfl, rfl, by show 4 ≤ sizeLine; decide, fun t9 ht9 => ?_⟩
      have st9 := same_upd (o := .tup [V.int 0, V.int 0, V.int high, V.int ((wide : Int) + 1)]) ht9
      have et9 : (upd Ga t9 (.tup [V.int 0, V.int 0, V.int high, V.int ((wide : Int) + 1)])) t9 = some (.tup [V.int 0, V.int 0, V.int high, V.int ((wide : Int) + 1)]) := upd_same
      generalize upd Ga t9 (.tup [V.int 0, V.int 0, V.int high, V.int ((wide : Int) + 1)]) = H9 at st9 et9 ⊢
      have SS := SS.trans st9
      have AL := (AL.same st9).snoc (v := .ref t9) (boxq4 et9 (kt_int _) (kt_int _) (kt_int _) (kt_int _) (b_or2 (strB_i (by omega))))
      refine ⟨.int high, rfl, .int wide, rfl, by show 4 ≤ sizeLine; decide, fun t10 ht10 => ?_⟩
      have st10 := same_upd (o := .tup [V.int 1, V.int 0, V.int high, V.int wide]) ht10
      have et10 : (upd H9 t10 (.tup [V.int 1, V.int 0, V.int high, V.int wide])) t10 = some (.tup [V.int 1, V.int 0, V.int high, V.int wide]) := upd_same
      generalize upd H9 t10 (.tup [V.int 1, V.int 0, V.int high, V.int wide]) = H10 at st10 et10 ⊢
      have SS := SS.trans st10
      have AL := (AL.same st10).snoc (v := .ref t10) (boxq4 et10 (kt_int _) (kt_int _) (kt_int _) (kt_int _) (b_or1 (strB_i (by omega))))
      refine ⟨.int high, rfl, .int wide, rfl, by show 4 ≤ sizeLine; decide, fun t11 ht11 => ?_⟩
      have st11 := same_upd (o := .tup [V.int 0, V.int 1, V.int high, V.int wide]) ht11
      have et11 : (upd H10 t11 (.tup [V.int 0, V.int 1, V.int high, V.int wide])) t11 = some (.tup [V.int 0, V.int 1, V.int high, V.int wide]) := upd_same
      generalize upd H10 t11 (.tup [V.int 0, V.int 1, V.int high, V.int wide]) = H11 at st11 et11 ⊢
      have SS := SS.trans st11
      have AL := (AL.same st11).snoc (v := .ref t11) (boxq4 et11 (kt_int _) (kt_int _) (kt_int _) (kt_int _) (b_or2 (strB_i (by omega))))
      refine ⟨1, rfl, by show 4 ≤ sizeLine; decide, fun t12 ht12 => ?_⟩
      have st12 := same_upd (o := .tup [V.int (-1), V.int 0, V.int 1, V.int 1]) ht12
      have et12 : (upd H11 t12 (.tup [V.int (-1), V.int 0, V.int 1, V.int 1])) t12 = some (.tup [V.int (-1), V.int 0, V.int 1, V.int 1]) := upd_same
      generalize upd H11 t12 (.tup [V.int (-1), V.int 0, V.int 1, V.int 1]) = H12 at st12 et12 ⊢
      have SS := SS.trans st12
      have AL := (AL.same st12).snoc (v := .ref t12) (boxq4 et12 (kt_int _) (kt_int _) (kt_int _) (kt_int _) (b_or1 (strB_i (by omega))))
      refine ⟨1, rfl, by show 4 ≤ sizeLine; decide, fun t13 ht13 => ?_⟩
      have st13 := same_upd (o := .tup [V.int 0, V.int (-1), V.int 1, V.int 1]) ht13
      have et13 : (upd H12 t13 (.tup [V.int 0, V.int (-1), V.int 1, V.int 1])) t13 = some (.tup [V.int 0, V.int (-1), V.int 1, V.int 1]) := upd_same
      generalize upd H12 t13 (.tup [V.int 0, V.int (-1), V.int 1, V.int 1]) = H13 at st13 et13 ⊢
      have SS := SS.trans st13
      have AL := (AL.same st13).snoc (v := .ref t13) (boxq4 et13 (kt_int _) (kt_int _) (kt_int _) (kt_int _) (b_or2 (strB_i (by omega))))
      refine ⟨by show 5 ≤ sizeLine; decide, fun l hl => ?_⟩
      have sl := same_upd (o := .lst [V.ref t9, V.ref t10, V.ref t11, V.ref t12, V.ref t13]) hl
      have el : (upd H13 l (.lst [V.ref t9, V.ref t10, V.ref t11, V.ref t12, V.ref t13])) l = some (.lst [V.ref t9, V.ref t10, V.ref t11, V.ref t12, V.ref t13]) := upd_same
      generalize upd H13 l (.lst [V.ref t9, V.ref t10, V.ref t11, V.ref t12, V.ref t13]) = HL at sl el ⊢
      have SS := SS.trans sl
      refine ⟨la, l, _, _, rfl, rfl, SS _ _ hla, el, ?_, fun z hz => ?_⟩
      · rw [lxa, sizeLine_eq]
        show 8 + 5 ≤ _
        decide
      · refine ⟨z, xa ++ [.ref t9, .ref t10, .ref t11, .ref t12, .ref t13], rfl, SA.trans (SS.trans (same_upd hz)), upd_same, by rw [List.length_append, lxa]; rfl, ?_⟩
        have A1 := (AA.same SS).same (same_upd (o := .lst (xa ++ [V.ref t9, V.ref t10, V.ref t11, V.ref t12, V.ref t13])) hz)
        have A2 := (AL.same sl).same (same_upd (o := .lst (xa ++ [V.ref t9, V.ref t10, V.ref t11, V.ref t12, V.ref t13])) hz)
        exact fun y hy => (List.mem_append.mp hy).elim (A1 y) (A2 y)
    rintro _ Gb ⟨la, xa, rfl, SA, hla, lxa, AA⟩
    refine ⟨fun σ' H' => ∃ (l : Addr) (xs : List V), σ' = [some (.ref d), some (.ref a), some (.int high), some (.int wide), some (.ref l)] ∧ Same H0 H' ∧ H' l = some (.lst xs) ∧ xs.length = 19 ∧ AllB K high wide H' xs, ?_, ?_⟩
    · have SS := Same.refl Gb
      have AL : AllB K high wide Gb [] := fun y hy => nomatch hy
      refine ⟨.ref la, rfl, by show 4 ≤ sizeLine; decide, fun t14 ht14 => ?_⟩
      have st14 := same_upd (o := .tup [V.int 0, V.int 0, V.int 0, V.int 1]) ht14
      have et14 : (upd Gb t14 (.tup [V.int 0, V.int 0, V.int 0, V.int 1])) t14 = some (.tup [V.int 0, V.int 0, V.int 0, V.int 1]) := upd_same
      generalize upd Gb t14 (.tup [V.int 0, V.int 0, V.int 0, V.int 1]) = H14 at st14 et14 ⊢
      have SS := SS.trans st14
      have AL := (AL.same st14).snoc (v := .ref t14) (boxq4 et14 (kt_int _) (kt_int _) (kt_int _) (kt_int _) (b_or1 (strB_i (by omega))))
      refine ⟨by show 4 ≤ sizeLine; decide, fun t15 ht15 => ?_⟩
      have st15 := same_upd (o := .tup [V.int 0, V.int 0, V.int 1, V.int 0]) ht15
      have et15 : (upd H14 t15 (.tup [V.int 0, V.int 0, V.int 1, V.int 0])) t15 = some (.tup [V.int 0, V.int 0, V.int 1, V.int 0]) := upd_same
      generalize upd H14 t15 (.tup [V.int 0, V.int 0, V.int 1, V.int 0]) = H15 at st15 et15 ⊢
      have SS := SS.trans st15
      have AL := (AL.same st15).snoc (v := .ref t15) (boxq4 et15 (kt_int _) (kt_int _) (kt_int _) (kt_int _) (b_or2 (strB_i (by omega))))
      refine ⟨by show 4 ≤ sizeLine; decide, fun t16 ht16 => ?_⟩
      have st16 := same_upd (o := .tup [V.bl true, V.int 0, V.int 1, V.int 1]) ht16
      have et16 : (upd H15 t16 (.tup [V.bl true, V.int 0, V.int 1, V.int 1])) t16 = some (.tup [V.bl true, V.int 0, V.int 1, V.int 1]) := upd_same
      generalize upd H15 t16 (.tup [V.bl true, V.int 0, V.int 1, V.int 1]) = H16 at st16 et16 ⊢
      have SS := SS.trans st16
      have AL := (AL.same st16).snoc (v := .ref t16) (boxq4 et16 (kt_bl _) (kt_int _) (kt_int _) (kt_int _) (b_or1 (strB_n1 fun _ => ⟨1, rfl, .inr rfl⟩)))
      refine ⟨by show 4 ≤ sizeLine; decide, fun t17 ht17 => ?_⟩
      have st17 := same_upd (o := .tup [V.int 0, V.int 0, V.bl true, V.int 1]) ht17
      have et17 : (upd H16 t17 (.tup [V.int 0, V.int 0, V.bl true, V.int 1])) t17 = some (.tup [V.int 0, V.int 0, V.bl true, V.int 1]) := upd_same
      generalize upd H16 t17 (.tup [V.int 0, V.int 0, V.bl true, V.int 1]) = H17 at st17 et17 ⊢
      have SS := SS.trans st17
      have AL := (AL.same st17).snoc (v := .ref t17) (boxq4 et17 (kt_int _) (kt_int _) (kt_bl _) (kt_int _) (b_or1 rfl))
      refine ⟨by show 4 ≤ sizeLine; decide, fun t18 ht18 => ?_⟩
      have st18 := same_upd (o := .tup [V.int 0, V.str "0", V.int 1, V.int 1]) ht18
      have et18 : (upd H17 t18 (.tup [V.int 0, V.str "0", V.int 1, V.int 1])) t18 = some (.tup [V.int 0, V.str "0", V.int 1, V.int 1]) := upd_same
      generalize upd H17 t18 (.tup [V.int 0, V.str "0", V.int 1, V.int 1]) = H18 at st18 et18 ⊢
      have SS := SS.trans st18
      have AL := (AL.same st18).snoc (v := .ref t18) (boxq4 et18 (kt_int _) kt_str (kt_int _) (kt_int _) (b_or2 (strB_n1 fun _ => ⟨1, rfl, .inr rfl⟩)))
      refine ⟨by show 4 ≤ sizeLine; decide, fun t19 ht19 => ?_⟩
      have st19 := same_upd (o := .tup [V.non, V.int 0, V.int 1, V.int 1]) ht19
      have et19 : (upd H18 t19 (.tup [V.non, V.int 0, V.int 1, V.int 1])) t19 = some (.tup [V.non, V.int 0, V.int 1, V.int 1]) := upd_same
      generalize upd H18 t19 (.tup [V.non, V.int 0, V.int 1, V.int 1]) = H19 at st19 et19 ⊢
      have SS := SS.trans st19
      have AL := (AL.same st19).snoc (v := .ref t19) (boxq4 et19 kt_non (kt_int _) (kt_int _) (kt_int _) (b_or1 (strB_n1 fun _ => ⟨1, rfl, .inr rfl⟩)))
      refine ⟨by show 6 ≤ sizeLine; decide, fun l hl => ?_⟩
      have sl := same_upd (o := .lst [V.ref t14, V.ref t15, V.ref t16, V.ref t17, V.ref t18, V.ref t19]) hl
      have el : (upd H19 l (.lst [V.ref t14, V.ref t15, V.ref t16, V.ref t17, V.ref t18, V.ref t19])) l = some (.lst [V.ref t14, V.ref t15, V.ref t16, V.ref t17, V.ref t18, V.ref t19]) := upd_same
      generalize upd H19 l (.lst [V.ref t14, V.ref t15, V.ref t16, V.ref t17, V.ref t18, V.ref t19]) = HL at sl el ⊢
      have SS := SS.trans sl
      refine ⟨la, l, _, _, rfl, rfl, SS _ _ hla, el, ?_, fun z hz => ?_⟩
      · rw [lxa, sizeLine_eq]
        show 13 + 6 ≤ _
        decide
      · refine ⟨z, xa ++ [.ref t14, .ref t15, .ref t16, .ref t17, .ref t18, .ref t19], rfl, SA.trans (SS.trans (same_upd hz)), upd_same, by rw [List.length_append, lxa]; rfl, ?_⟩
        have A1 := (AA.same SS).same (same_upd (o := .lst (xa ++ [V.ref t14, V.ref t15, V.ref t16, V.ref t17, V.ref t18, V.ref t19])) hz)
        have A2 := (AL.same sl).same (same_upd (o := .lst (xa ++ [V.ref t14, V.ref t15, V.ref t16, V.ref t17, V.ref t18, V.ref t19])) hz)
        exact fun y hy => (List.mem_append.mp hy).elim (A1 y) (A2 y)
    rintro _ Gc ⟨la, xa, rfl, SA, hla, lxa, AA⟩
    have SS := Same.refl Gc
    have AL : AllB K high wide Gc [] := fun y hy => nomatch hy
    refine ⟨.ref d, rfl, .ref la, rfl, .int high, rfl, by show 4 ≤ sizeLine; decide, fun t20 ht20 => ?_⟩
    have st20 := same_upd (o := .tup [V.int high, V.int 0, V.int 1, V.int 1]) ht20
    have et20 : (upd Gc t20 (.tup [V.int high, V.int 0, V.int 1, V.int 1])) t20 = some (.tup [V.int high, V.int 0, V.int 1, V.int 1]) := upd_same
    generalize upd Gc t20 (.tup [V.int high, V.int 0, V.int 1, V.int 1]) = H20 at st20 et20 ⊢
    have SS := SS.trans st20
    have AL := (AL.same st20).snoc (v := .ref t20) (boxq4 et20 (kt_int _) (kt_int _) (kt_int _) (kt_int _) (b_or1 (strB_i (by omega))))
    refine ⟨.int wide, rfl, by show 4 ≤ sizeLine; decide, fun t21 ht21 => ?_⟩
    have st21 := same_upd (o := .tup [V.int 0, V.int wide, V.int 1, V.int 1]) ht21
    have et21 : (upd H20 t21 (.tup [V.int 0, V.int wide, V.int 1, V.int 1])) t21 = some (.tup [V.int 0, V.int wide, V.int 1, V.int 1]) := upd_same
    generalize upd H20 t21 (.tup [V.int 0, V.int wide, V.int 1, V.int 1]) = H21 at st21 et21 ⊢
    have SS := SS.trans st21
    have AL := (AL.same st21).snoc (v := .ref t21) (boxq4 et21 (kt_int _) (kt_int _) (kt_int _) (kt_int _) (b_or2 (strB_i (by omega))))
    refine ⟨by show 1 ≤ sizeLine; decide, fun u22 hu22 => ?_⟩
    have su22 := same_upd (o := .lst [V.int 1]) hu22
    have eu22 : (upd H21 u22 (.lst [V.int 1])) u22 = some (.lst [V.int 1]) := upd_same
    generalize upd H21 u22 (.lst [V.int 1]) = G22 at su22 eu22 ⊢
    have AL := AL.same su22
    have SS := SS.trans su22
    refine ⟨by show 4 ≤ sizeLine; decide, fun t22 ht22 => ?_⟩
    have st22 := same_upd (o := .tup [V.int 0, V.int 0, V.int 1, V.ref u22]) ht22
    have et22 : (upd G22 t22 (.tup [V.int 0, V.int 0, V.int 1, V.ref u22])) t22 = some (.tup [V.int 0, V.int 0, V.int 1, V.ref u22]) := upd_same
    generalize upd G22 t22 (.tup [V.int 0, V.int 0, V.int 1, V.ref u22]) = H22 at st22 et22 ⊢
    have SS := SS.trans st22
    have AL := (AL.same st22).snoc (v := .ref t22) (boxq4 et22 (kt_int _) (kt_int _) (kt_int _) (kt_lst (st22 _ _ eu22)) (b_or2 rfl))
    refine ⟨1, rfl, by show 4 ≤ sizeLine; decide, fun t23 ht23 => ?_⟩
    have st23 := same_upd (o := .tup [V.int 0, V.int 0, V.int (-1), V.int 1]) ht23
    have et23 : (upd H22 t23 (.tup [V.int 0, V.int 0, V.int (-1), V.int 1])) t23 = some (.tup [V.int 0, V.int 0, V.int (-1), V.int 1]) := upd_same
    generalize upd H22 t23 (.tup [V.int 0, V.int 0, V.int (-1), V.int 1]) = H23 at st23 et23 ⊢
    have SS := SS.trans st23
    have AL := (AL.same st23).snoc (v := .ref t23) (boxq4 et23 (kt_int _) (kt_int _) (kt_int _) (kt_int _) (b_or1 (strB_i (by omega))))
    refine ⟨by show 4 ≤ sizeLine; decide, fun l hl => ?_⟩
    have sl := same_upd (o := .lst [V.ref t20, V.ref t21, V.ref t22, V.ref t23]) hl
    have el : (upd H23 l (.lst [V.ref t20, V.ref t21, V.ref t22, V.ref t23])) l = some (.lst [V.ref t20, V.ref t21, V.ref t22, V.ref t23]) := upd_same
    generalize upd H23 l (.lst [V.ref t20, V.ref t21, V.ref t22, V.ref t23]) = HL at sl el ⊢
    have SS := SS.trans sl
    refine ⟨la, l, _, _, rfl, rfl, SS _ _ hla, el, ?_, fun z hz => ?_⟩
    · rw [lxa, sizeLine_eq]
      show 19 + 4 ≤ _
      decide
    have A1 := (AA.same SS).same (same_upd (o := .lst (xa ++ [V.ref t20, V.ref t21, V.ref t22, V.ref t23])) hz)
    have A2 := (AL.same sl).same (same_upd (o := .lst (xa ++ [V.ref t20, V.ref t21, V.ref t22, V.ref t23])) hz)
    have sz := SS.trans (same_upd (o := .lst (xa ++ [V.ref t20, V.ref t21, V.ref t22, V.ref t23])) hz)
    have ez : (upd HL z (.lst (xa ++ [V.ref t20, V.ref t21, V.ref t22, V.ref t23]))) z = some (.lst (xa ++ [V.ref t20, V.ref t21, V.ref t22, V.ref t23])) := upd_same
    generalize upd HL z (.lst (xa ++ [V.ref t20, V.ref t21, V.ref t22, V.ref t23])) = HZ at A1 A2 sz ez ⊢
    have SH := SA.trans sz
    have DZ := D.same SH
    have nzd : z ≠ d := by
      rintro rfl
      obtain ⟨_, _, _, hd, _⟩ := D.same (SA.trans SS)
      rw [hd] at hz
      cases hz
    have fu : n + 10 ≤ 1000000000000 := hn
    refine ⟨d, .ref z, n, rfl, DZ, (by show n ≤ 1000000000000; omega), .inl ⟨z, _, rfl, nzd, ez, (by rw [List.length_append, lxa]; exact Nat.succ_pos _), (by rw [List.length_append, lxa]; show 19 + 4 ≤ 1000; decide), fun j x H6 hx D6 dn6 => ?_⟩⟩
    have bx : BoxQ K HZ high wide x false := (List.mem_append.mp (List.mem_of_getElem? hx)).elim (A1 x) (A2 x)
    exact q x H6 (bx.do' dn6 DZ D6) D6 ((Do.same SH).trans dn6)
theorem ok_np {f : Addr} {fd : FuncData} {k : Nat} (F : Fun K "_law_no_picture" "_law_no_picture" sNP f fd) (T : Tx mg) (GK : Pm P w K mg base CX0 (k + 1) "_law_pick" ["draw", "some"] (spPk K)) : FnOk P w K mg base CX0 (k + 2) f fd ["draw", "picture"] (spNP K) := by
  obtain ⟨fK, fdK, GK, mK, kK, bK⟩ := GK.ex
  refine F.ok scNP (fun vs H Q E h => ?_) (fun cdv A outer s H vs Q E hr h => ?_)
  · obtain ⟨d, a, _, _, _, _, rfl, _⟩ := h
    rfl
  · obtain ⟨d, a, n, high, wide, rs, rfl, D, hn, ha, pr, w50, q⟩ := h
    have nd := scNP.nd
    refine ⟨_, C8.pss_cut (ps_set (i := 2) nd rfl (.inl rfl) (pe_lst (pa_cons pe_non (pa_cons pe_int (pa_cons pe_str (pa_cons (pe_callTy call_list_of (by rfl) T.list (by decide +kernel) (pa_cons (pv 1) pa_nil)) (pa_cons (pe_tup pa_nil) (pa_cons (pe_tup (pa_cons pe_str pa_nil)) (pa_cons (pe_op (r := rCatA K) op_catA (pv 1) (pe_tup (pa_cons (pe_op op_add_str (pe_ix (r := rIxT K) ix_tup (pv 1) pe_int (fun _ _ => rfl)) pe_str) pa_nil))) (pa_cons (pe_op (r := rCatA K) op_catA (pe_slice (r := rSlA K) sl_tupA (pv 1) po_none (po_some pe_int)) (pe_tup (pa_cons pe_int pa_nil))) (pa_cons (pe_tup (pa_cons (pe_lst (pa_cons pe_str pa_nil)) pa_nil)) pa_nil)))))))))))
      (C8.pss_cut (ps_set (i := 2) nd rfl (.inl rfl) (pe_op op_cat (pv 2) (pe_lst (pa_cons (pe_tup (pa_cons (pe_op op_add_str (pe_ix (r := rIxT K) ix_tup (pv 1) pe_int (fun _ _ => rfl)) pe_str) pa_nil)) (pa_cons (pe_tup (pa_cons (pe_op op_mul_str pe_str pe_int) pa_nil)) (pa_cons (pe_op (r := rRepA K) op_repA (pe_tup (pa_cons pe_str pa_nil)) pe_int) (pa_cons (pe_disp (pps_cons pe_str pe_int pps_nil) (by rfl) (by rfl) (fun z => by cases z) (by decide)) (pa_cons (pe_tup (pa_cons pe_non pa_nil)) (pa_cons pe_bl (pa_cons (pe_tup (pa_cons (pv 1) pa_nil)) pa_nil))))))))))
      (pss_one (ps_ret (pe_call GK hr (by rfl) mK kK bK .nil pass0 (pa_cons (pv 0) (pa_cons (pv 2) pa_nil)))))), ?_⟩
    have hh0 := pr.h0
    have hh1 := pr.h1
    have hw0 := pr.w0
    have hlr : (rs.map rv).length = high := by rw [List.length_map, pr.len]
    have h0' : 0 < rs.length := by rw [pr.len]; omega
    have er0 : rs[0]? = some rs[0] := List.getElem?_eq_getElem h0'
    have rr0 := pr.row _ (List.getElem_mem h0')
    generalize rs[0] = r0 at er0 rr0
    have lr0 := rr0.len
    have ix0 : atI (rs.map rv) 0 = some (rv r0) := atI_nat (j := 0) (by rw [List.getElem?_map, er0]; rfl)
    have hd0 : (rs.map rv).headD .non = rv r0 := by
      cases rs with
      | nil => cases er0
      | cons x r =>
        cases er0
        rfl
    have lS : (S r0).length = wide := by rw [SX.S_len, lr0]
    have knr : ∀ (H' : Hp) (y : V), y ∈ rs.map rv → Kn K H' y := fun H' y hy => by
      obtain ⟨l, hl, rfl⟩ := List.mem_map.mp hy
      exact kn_rv (by rw [(pr.row l hl).len]; omega)
    have z1 : ∀ x : Str, x.length = 1 → (S r0).length + x.length ≤ sizeLine := fun x hx => by
      rw [lS, hx, sizeLine_eq]
      omega
    have sx : ("x" : Str) = S [120] := by decide +kernel
    refine ⟨fun σ' H' => ∃ (l : Addr) (xs : List V), σ' = [some (.ref d), some (.ref a), some (.ref l)] ∧ Same H H' ∧ H' l = some (.lst xs) ∧ xs.length = 9 ∧ AllA K H' xs, ?_, ?_⟩
    · have SS := Same.refl H
      have AL : AllA K H [] := fun y hy => nomatch hy
      have AL := AL.snoc (v := .non) (.inl ⟨"NoneType", .non, rfl, by decide, rfl⟩)
      have AL := AL.snoc (v := .int 5) (.inl ⟨"int", .int 5, rfl, by decide, rfl⟩)
      have AL := AL.snoc (v := .str "#.") (.inl ⟨"str", .str "#.", rfl, by decide, rfl⟩)
      refine ⟨.ref a, rfl, a, _, rfl, .inr (SqT.of ha), fun t1 ht1 => ?_⟩
      have st1 := same_upd (o := .lst (rs.map rv)) ht1
      have et1 : (upd H t1 (.lst (rs.map rv))) t1 = some (.lst (rs.map rv)) := upd_same
      generalize upd H t1 (.lst (rs.map rv)) = H1 at st1 et1 ⊢
      have SS := SS.trans st1
      have AL := AL.same st1
      have AL := AL.snoc (v := .ref t1) (.inl ⟨"list", .lst (SqL.of et1), rfl, by decide, rfl⟩)
      refine ⟨by show 0 ≤ sizeLine; decide, fun t2 ht2 => ?_⟩
      have st2 := same_upd (o := .tup []) ht2
      have et2 : (upd H1 t2 (.tup [])) t2 = some (.tup []) := upd_same
      generalize upd H1 t2 (.tup []) = H2 at st2 et2 ⊢
      have SS := SS.trans st2
      have AL := AL.same st2
      have AL := AL.snoc (v := .ref t2) (ask_tup et2 (fun y hy => nomatch hy) rfl)
      refine ⟨by show 1 ≤ sizeLine; decide, fun t3 ht3 => ?_⟩
      have st3 := same_upd (o := .tup [V.str ""]) ht3
      have et3 : (upd H2 t3 (.tup [V.str ""])) t3 = some (.tup [V.str ""]) := upd_same
      generalize upd H2 t3 (.tup [V.str ""]) = H3 at st3 et3 ⊢
      have SS := SS.trans st3
      have AL := AL.same st3
      have AL := AL.snoc (v := .ref t3) (ask_tup et3 (kn_1 (kn_str (by decide +kernel))) (picOk_row (List.mem_singleton.mpr rfl) (by rw [s_empty]; exact rowOk_len (.inl rfl))))
      have ha3 := SS _ _ ha
      refine ⟨.ref a, rfl, .ref a, rfl, a, _, 0, rv r0, rfl, rfl, SqT.of ha3, ix0, S r0, ".", rfl, rfl, z1 _ (by decide +kernel), by show 1 ≤ sizeLine; decide, fun t4 ht4 => ?_⟩
      have st4 := same_upd (o := .tup [V.str (S r0 ++ ".")]) ht4
      have et4 : (upd H3 t4 (.tup [V.str (S r0 ++ ".")])) t4 = some (.tup [V.str (S r0 ++ ".")]) := upd_same
      generalize upd H3 t4 (.tup [V.str (S r0 ++ ".")]) = H4 at st4 et4 ⊢
      have SS := SS.trans st4
      have AL := AL.same st4
      refine cat_any (st4 _ _ ha3) et4 (by rw [hlr, sizeLine_eq]; show high + 1 ≤ _; omega) fun z5 H5 s5 h5 => ?_
      have SS := SS.trans s5
      have AL := AL.same s5
      have e5 : (S r0 ++ "." : Str) = S (r0 ++ [46]) := by rw [s_dot, SX.S_cat]
      have AL := AL.snoc (v := .ref z5) (ask_tup h5 (fun y hy => by
        rcases List.mem_append.mp hy with z | z
        · exact knr _ y z
        · rw [List.mem_singleton.mp z, e5]
          exact kn_rv (by rw [List.length_append, lr0]; show wide + 1 ≤ 1000; omega)) (picOk_un (y := .str (S r0 ++ ".")) (List.mem_append.mpr (.inr (List.mem_singleton.mpr rfl))) (by
        have eh : (rs.map rv ++ [V.str (S r0 ++ ".")]).headD .non = rv r0 := by
          cases rs with
          | nil => cases er0
          | cons x r => exact hd0
        rw [eh, e5, lenV_S]
        show _ ≠ lenV (.str (S r0))
        rw [lenV_S, List.length_append]
        show ((r0.length + 1 : Nat) : Int) ≠ _
        omega)))
      have ha5 := SS _ _ ha
      refine ⟨.ref a, rfl, 1, rfl, sl_any ha5 fun z6 H6 s6 h6 => ?_⟩
      have SS := SS.trans s6
      have AL := AL.same s6
      refine ⟨by show 1 ≤ sizeLine; decide, fun t7 ht7 => ?_⟩
      have st7 := same_upd (o := .tup [V.int 5]) ht7
      have et7 : (upd H6 t7 (.tup [V.int 5])) t7 = some (.tup [V.int 5]) := upd_same
      generalize upd H6 t7 (.tup [V.int 5]) = H7 at st7 et7 ⊢
      have SS := SS.trans st7
      have AL := AL.same st7
      have ecut : cutV (rs.map rv) none (some 1) = [rv r0] := by
        have e := StXcut (rs.map rv) 1
        rw [show ((1 : Nat) : Int) = 1 from rfl] at e
        rw [e]
        cases rs with
        | nil => cases er0
        | cons x r =>
          cases er0
          rfl
      rw [ecut] at h6
      refine cat_any (st7 _ _ h6) et7 (by show 1 + 1 ≤ sizeLine; decide) fun z8 H8 s8 h8 => ?_
      have SS := SS.trans s8
      have AL := AL.same s8
      have AL := AL.snoc (v := .ref z8) (ask_tup h8 (fun y hy => by
        rcases List.mem_append.mp hy with z | z
        · rw [List.mem_singleton.mp z]
          exact kn_rv (by omega)
        · rw [List.mem_singleton.mp z]
          exact kn_of (.int 5) rfl fun _ z => nomatch z) (picOk_row (y := .int 5) (List.mem_append.mpr (.inr (List.mem_singleton.mpr rfl))) rfl))
      refine ⟨by show 1 ≤ sizeLine; decide, fun t9 ht9 => ?_⟩
      have st9 := same_upd (o := .lst [V.str "#"]) ht9
      have et9 : (upd H8 t9 (.lst [V.str "#"])) t9 = some (.lst [V.str "#"]) := upd_same
      generalize upd H8 t9 (.lst [V.str "#"]) = H9 at st9 et9 ⊢
      have SS := SS.trans st9
      have AL := AL.same st9
      refine ⟨by show 1 ≤ sizeLine; decide, fun t10 ht10 => ?_⟩
      have st10 := same_upd (o := .tup [V.ref t9]) ht10
      have et10 : (upd H9 t10 (.tup [V.ref t9])) t10 = some (.tup [V.ref t9]) := upd_same
      generalize upd H9 t10 (.tup [V.ref t9]) = H10 at st10 et10 ⊢
      have SS := SS.trans st10
      have AL := AL.same st10
      have AL := AL.snoc (v := .ref t10) (ask_tup et10 (kn_1 (kn_ref_l (st10 _ _ et9))) (picOk_row (List.mem_singleton.mpr rfl) rfl))
      refine ⟨by show 9 ≤ sizeLine; decide, fun l hl => ?_⟩
      exact ⟨l, [.non, .int 5, .str "#.", .ref t1, .ref t2, .ref t3, .ref z5, .ref z8, .ref t10], rfl, SS.trans (same_upd hl), upd_same, rfl, AL.same (same_upd hl)⟩
    rintro _ G ⟨la, xa, rfl, SA, hla, lxa, AA⟩
    have haG := SA _ _ ha
    refine ⟨fun σ' H' => ∃ (l : Addr) (xs : List V), σ' = [some (.ref d), some (.ref a), some (.ref l)] ∧ Same G H' ∧ H' l = some (.lst xs) ∧ l ≠ d ∧ xs.length = 16 ∧ AllA K H' xs, ?_, ?_⟩
    · have SS := Same.refl G
      have AL : AllA K G [] := fun y hy => nomatch hy
      refine ⟨.ref la, rfl, .ref a, rfl, a, _, 0, rv r0, rfl, rfl, SqT.of haG, ix0, S r0, "x", rfl, rfl, z1 _ (by decide +kernel), by show 1 ≤ sizeLine; decide, fun t1 ht1 => ?_⟩
      have st1 := same_upd (o := .tup [V.str (S r0 ++ "x")]) ht1
      have et1 : (upd G t1 (.tup [V.str (S r0 ++ "x")])) t1 = some (.tup [V.str (S r0 ++ "x")]) := upd_same
      generalize upd G t1 (.tup [V.str (S r0 ++ "x")]) = H1 at st1 et1 ⊢
      have SS := SS.trans st1
      have AL := AL.same st1
      have e1 : (S r0 ++ "x" : Str) = S (r0 ++ [120]) := by rw [sx, SX.S_cat]
      have AL := AL.snoc (v := .ref t1) (ask_tup et1 (kn_1 (by rw [e1]; exact kn_rv (by rw [List.length_append, lr0]; show wide + 1 ≤ 1000; omega))) (picOk_row (List.mem_singleton.mpr rfl) (by rw [e1]; exact rowOk_bad (c := 120) (by simp) (by decide) (by decide))))
      refine ⟨"#", 121, rfl, rfl, ?_, by show 1 ≤ sizeLine; decide, fun t2 ht2 => ?_⟩
      · exact m121
      have st2 := same_upd (o := .tup [V.str (Txt.mul "#" 121)]) ht2
      have et2 : (upd H1 t2 (.tup [V.str (Txt.mul "#" 121)])) t2 = some (.tup [V.str (Txt.mul "#" 121)]) := upd_same
      generalize upd H1 t2 (.tup [V.str (Txt.mul "#" 121)]) = H2 at st2 et2 ⊢
      have SS := SS.trans st2
      have AL := AL.same st2
      have e2 : Txt.mul "#" 121 = S (List.replicate 121 35) := by
        rw [s_hash]
        exact mul_sign' 35 121
      have AL := AL.snoc (v := .ref t2) (ask_tup et2 (kn_1 (by rw [e2]; exact kn_rv (by rw [List.length_replicate]; decide))) (picOk_row (List.mem_singleton.mpr rfl) (by rw [e2]; exact rowOk_len (.inr (by rw [List.length_replicate]; decide)))))
      refine ⟨by show 1 ≤ sizeLine; decide, fun t3 ht3 => ?_⟩
      have st3 := same_upd (o := .tup [V.str "#"]) ht3
      have et3 : (upd H2 t3 (.tup [V.str "#"])) t3 = some (.tup [V.str "#"]) := upd_same
      generalize upd H2 t3 (.tup [V.str "#"]) = H3 at st3 et3 ⊢
      have SS := SS.trans st3
      have AL := AL.same st3
      dsimp only [tC]
      refine rep_anyI (i := 61) (k := 61) rfl et3 (by decide) (by decide) fun z4 H4 s4 h4 => ?_
      have SS := SS.trans s4
      have AL := AL.same s4
      have AL := AL.snoc (v := .ref z4) (.inr ⟨z4, _, rfl, SqT.of h4, fun l => absurd l (by rw [List.length_replicate]; decide), (picOk_many (by rw [List.length_replicate]; decide)).symm⟩)
      intro t5 ht5
      refine ⟨?_, ?_⟩
      · exact upd_same
      refine ⟨[(.inr "#", .int 1)], rfl, by decide, ?_⟩
      have ed : (upd (upd H4 t5 (.dK [])) t5 (.dK (mergeK [] [(Sum.inr "#", V.int 1)]))) = upd H4 t5 (.dK [(Sum.inr "#", V.int 1)]) := by
        rw [upd_upd]
        rfl
      rw [ed]
      have st5 := same_upd (o := .dK [(Sum.inr "#", V.int 1)]) ht5
      have et5 : (upd H4 t5 (.dK [(Sum.inr "#", V.int 1)])) t5 = some (.dK [(Sum.inr "#", V.int 1)]) := upd_same
      generalize upd H4 t5 (.dK [(Sum.inr "#", V.int 1)]) = H5 at st5 et5 ⊢
      have SS := SS.trans st5
      have AL := AL.same st5
      have AL := AL.snoc (v := .ref t5) (.inl ⟨"dict", .dK et5, rfl, by decide, rfl⟩)
      refine ⟨by show 1 ≤ sizeLine; decide, fun t6 ht6 => ?_⟩
      have st6 := same_upd (o := .tup [V.non]) ht6
      have et6 : (upd H5 t6 (.tup [V.non])) t6 = some (.tup [V.non]) := upd_same
      generalize upd H5 t6 (.tup [V.non]) = H6 at st6 et6 ⊢
      have SS := SS.trans st6
      have AL := AL.same st6
      have AL := AL.snoc (v := .ref t6) (ask_tup et6 (kn_1 (kn_of .non rfl fun _ z => nomatch z)) (picOk_row (List.mem_singleton.mpr rfl) rfl))
      have AL := AL.snoc (v := .bl true) (.inl ⟨"bool", .bl true, rfl, by decide, rfl⟩)
      have ha6 := SS _ _ haG
      refine ⟨.ref a, rfl, by show 1 ≤ sizeLine; decide, fun t7 ht7 => ?_⟩
      have st7 := same_upd (o := .tup [V.ref a]) ht7
      have et7 : (upd H6 t7 (.tup [V.ref a])) t7 = some (.tup [V.ref a]) := upd_same
      generalize upd H6 t7 (.tup [V.ref a]) = H7 at st7 et7 ⊢
      have SS := SS.trans st7
      have AL := AL.same st7
      have AL := AL.snoc (v := .ref t7) (ask_tup et7 (kn_1 (kn_ref_t (st7 _ _ ha6))) (picOk_row (List.mem_singleton.mpr rfl) rfl))
      refine ⟨by show 7 ≤ sizeLine; decide, fun t8 ht8 => ?_⟩
      have st8 := same_upd (o := .lst [V.ref t1, V.ref t2, V.ref z4, V.ref t5, V.ref t6, V.bl true, V.ref t7]) ht8
      have et8 : (upd H7 t8 (.lst [V.ref t1, V.ref t2, V.ref z4, V.ref t5, V.ref t6, V.bl true, V.ref t7])) t8 = some (.lst [V.ref t1, V.ref t2, V.ref z4, V.ref t5, V.ref t6, V.bl true, V.ref t7]) := upd_same
      generalize upd H7 t8 (.lst [V.ref t1, V.ref t2, V.ref z4, V.ref t5, V.ref t6, V.bl true, V.ref t7]) = H8 at st8 et8 ⊢
      have SS := SS.trans st8
      have AL := AL.same st8
      refine ⟨la, t8, _, _, rfl, rfl, SS _ _ hla, et8, ?_, fun z hz => ?_⟩
      · rw [lxa, sizeLine_eq]
        show 9 + 7 ≤ _
        decide
      have sz := same_upd (o := .lst (xa ++ [V.ref t1, V.ref t2, V.ref z4, V.ref t5, V.ref t6, V.bl true, V.ref t7])) hz
      have A1 := (AA.same SS).same sz
      have A2 := AL.same sz
      refine ⟨z, xa ++ [V.ref t1, V.ref t2, V.ref z4, V.ref t5, V.ref t6, V.bl true, V.ref t7], rfl, SS.trans sz, upd_same, ?_, by rw [List.length_append, lxa]; rfl, fun y hy => (List.mem_append.mp hy).elim (A1 y) (A2 y)⟩
      rintro rfl
      obtain ⟨_, _, _, hd, _⟩ := D.same (SA.trans SS)
      rw [hd] at hz
      cases hz
    rintro _ G2 ⟨l, xs, rfl, S2, hl, nld, lxs, AX⟩
    have SH := SA.trans S2
    have DZ := D.same SH
    have fu : n + 10 ≤ 1000000000000 := hn
    refine ⟨.ref d, rfl, .ref l, rfl, d, .ref l, n, rfl, DZ, (by show n ≤ 1000000000000; omega), .inl ⟨l, _, rfl, nld, hl, (by rw [lxs]; decide), (by rw [lxs]; decide), fun j x H6 hx D6 dn6 => ?_⟩⟩
    exact q x H6 ((AX x (List.mem_of_getElem? hx)).do' dn6 DZ D6) D6 ((Do.same SH).trans dn6)
end
end Dt
namespace Dt
open PySem PySem.Spec PyProof.Rows L2 L2X LamX
open SX (S)
open StX
/-! ### what the law makes of a refusal -/
def flg (j : Nat) : List Bool := [decide (0 = j), decide (1 = j), decide (2 = j), decide (3 = j)]
def wrd : List Str := ["picture", "place", "line", "many"]
theorem dp_bools {K : PySem.W.Frag} {H : Hp} : ∀ bs : List Bool, DpAll K H (bs.map V.bl) (bs.map PyData.bool)
  | [] => .nil
  | b :: r => .cons (.bl b) (dp_bools r)
theorem lay_bools : ∀ b : List Bool, PyData.canLayAll0 (b.map PyData.bool) = true ∧ PyData.depthAll (b.map PyData.bool) ≤ 1
  | [] => ⟨by simp [PyData.canLayAll0], by simp [PyData.depthAll]⟩
  | p :: r => by
    obtain ⟨h1, h2⟩ := lay_bools r
    refine ⟨?_, ?_⟩
    · rw [List.map_cons]
      simp [PyData.canLayAll0, PyData.canLay0, h1]
    · rw [List.map_cons]
      simp only [PyData.depthAll, PyData.depth]
      omega
theorem shaped_bools (b : List Bool) : SeqAt.shaped (.list (b.map PyData.bool)) = true := by
  obtain ⟨h1, h2⟩ := lay_bools b
  unfold SeqAt.shaped
  rw [Bool.and_eq_true, decide_eq_true_iff]
  refine ⟨by simp [PyData.canLay0, h1], ?_⟩
  simp only [PyData.depth]
  omega
theorem eqv_bt (b : Bool) : PyData.eqv (.bool b) (.bool true) = b := by
  rw [PyData.eqv]
  cases b <;> rfl
theorem cnt4 {j : Nat} (h : j < 4) : (((flg j).map PyData.bool).countP fun z => PyData.eqv z (.bool true)) = 1 := by
  rw [List.countP_map]
  have e : ((fun z => PyData.eqv z (.bool true)) ∘ PyData.bool) = id := by
    funext b
    exact eqv_bt b
  rw [e]
  match j, h with
  | 0, _ => rfl
  | 1, _ => rfl
  | 2, _ => rfl
  | 3, _ => rfl
theorem at4 {j : Nat} (h : j < 4) : (flg j)[j]? = some true ∧ ∀ m, m < j → (flg j)[m]? = some false := by
  match j, h with
  | 0, _ => exact ⟨rfl, fun m hm => by omega⟩
  | 1, _ => exact ⟨rfl, fun m hm => by
      obtain rfl : m = 0 := by omega
      rfl⟩
  | 2, _ => exact ⟨rfl, fun m hm => by
      rcases (show m = 0 ∨ m = 1 by omega) with rfl | rfl <;> rfl⟩
  | 3, _ => exact ⟨rfl, fun m hm => by
      rcases (show m = 0 ∨ m = 1 ∨ m = 2 by omega) with rfl | rfl | rfl <;> rfl⟩
abbrev sSd : Stmt := topS 51
abbrev nSd : List Str := ["work", "error", "e", "kinds", "other"]
theorem scSd : FnScope nSd ["work"] (defScope sSd) := ⟨rfl, rfl, rfl, by decide +kernel, rfl, by decide +kernel, by decide +kernel⟩
/-- the classes' names -/
structure Tcl (mg : Str → Option Value) (C CP CL CT CD : Addr) (cs : List Addr) : Prop where
  isi : mg "isinstance" = none
  ver : mg "ValueError" = none
  g0 : mg "NoPicture" = some (.ref C)
  g1 : mg "NoPlace" = some (.ref CP)
  g2 : mg "NoLine" = some (.ref CL)
  g3 : mg "TooMany" = some (.ref CT)
  gd : mg "DotError" = some (.ref CD)
  gs : ∃ c1 c2 c3 c4 c5 c6 c7 c8, cs = [c1, c2, c3, c4, c5, c6, c7, c8] ∧ mg "NoShape" = some (.ref c1) ∧ mg "NoSign" = some (.ref c2) ∧ mg "NoWord" = some (.ref c3) ∧ mg "NoReading" = some (.ref c4) ∧ mg "NoTable" = some (.ref c5) ∧ mg "NoDeed" = some (.ref c6) ∧ mg "NoBack" = some (.ref c7) ∧ mg "NoText" = some (.ref c8)
/-- an exception of the class at D, the j-th of the four -/
structure Tk (K : PySem.W.Frag) (C CP CL CT CD : Addr) (cs : List Addr) (D : Addr) (j : Nat) : Prop where
  lt : j < 4
  ex : ExcC K D
  vk : PySem.W.kitOne K (.ref D) (.type "ValueError") = some true
  te : PySem.W.exmOne K (.ref D) (.ref CD) = some true
  k0 : PySem.W.kitOne K (.ref D) (.ref C) = some (decide (0 = j))
  k1 : PySem.W.kitOne K (.ref D) (.ref CP) = some (decide (1 = j))
  k2 : PySem.W.kitOne K (.ref D) (.ref CL) = some (decide (2 = j))
  k3 : PySem.W.kitOne K (.ref D) (.ref CT) = some (decide (3 = j))
  an : PySem.W.kitAny K (.ref D) (cs.map Value.ref) = some false
/-- what _law_said makes of a work -/
def TSaid (C CP CL CT : Addr) : (XK → Hp → VK → Prop) → Hp → VK → Prop := fun tl H Q => ∀ R : VK, (∀ v H', (∀ H'', Same H' H'' → Q (.str "told") H'') → R v H') →
  tl (fun cls d H' => (∃ D j, (D, j) ∈ [(C, 0), (CP, 1), (CL, 2)] ∧ cls = .ref D ∧ d = none ∧ ∀ H'', Same H' H'' → Q (.str (wrd.getD j "")) H'') ∨
    (cls = .ref CT ∧ ∃ dd, d = some dd ∧ H' dd = some (.xd [("most", .int 60)]) ∧ ∀ t H'', Same H' H'' → H'' t = some (.tup [.str "many", .int 60]) → Q (.ref t) H'')) H R
/-- what stands behind the try -/
def SdM (K : PySem.W.Frag) (C CP CL CT CD : Addr) (cs : List Addr) (Q : VK) (y1 : Option V) (H : Hp) : Prop :=
  (y1 = some .non ∧ ∀ H', Same H H' → Q (.str "told") H') ∨ ∃ a D d j, y1 = some (.ref a) ∧ KX H a D d ∧ Tk K C CP CL CT CD cs D j ∧
    ((j < 3 ∧ ∀ H', Same H H' → Q (.str (wrd.getD j "")) H') ∨ (j = 3 ∧ D = CT ∧ ∃ dd, d = some dd ∧ H dd = some (.xd [("most", .int 60)]) ∧ ∀ t H', Same H H' → H' t = some (.tup [.str "many", .int 60]) → Q (.ref t) H'))
theorem said_gives {X : Cx} {k : Nat} {q : Str} {g C CP CL CT CD : Addr} {cs : List Addr} {cdg : Value} (T : Tcl X.mg C CP CL CT CD cs) (TX : XfC X.K CT) (no : PySem.W.findIn X.K (.ref CT) "most" = some none)
    (t0 : Tk X.K C CP CL CT CD cs C 0) (t1 : Tk X.K C CP CL CT CD cs CP 1) (t2 : Tk X.K C CP CL CT CD cs CL 2) (t3 : Tk X.K C CP CL CT CD cs CT 3) :
    GivesR X (k + 1) nSd "_law_said" (defScope sSd) g cdg (defBody sSd) "work" q (TSaid C CP CL CT) := by
  obtain ⟨c1, c2, c3, c4, c5, c6, c7, c8, ecs, h1, h2, h3, h4, h5, h6, h7, h8⟩ := T.gs
  intro f c s H Q tl hr act hc h
  have nd := scSd.nd
  have hu65 : (X.A.deeper (envOfC "_law_said" (defScope sSd) s.heap.objs.size g cdg)).units + 65 < cLine := by
    have := hr.un
    omega
  have h1' := h1
  refine ⟨_, pss_cons (ps_set (i := 1) nd rfl (.inl rfl) pe_non)
    (C8.pss_cut (ps_try_keep (i := 2) (c := .ref CD) (ts := fun a cls d => tAsg (tVar 2) (gName 1))
        (tb := fun W Dn σ H => ∃ Ech : XK, (∀ cls d σ' H', Ech cls d H' → σ'.length = 5 → W cls d σ' H') ∧ σ[0]? = some (some (.ref f)) ∧ H c = some (CodeO c q) ∧ tl Ech H (fun _ H' => Dn.nx σ H'))
        rfl rfl rfl nd rfl rfl ⟨rfl, by decide, .inl T.gd⟩ (fun W pn xe tk _ => ?_) (fun a oe cls d pn _ _ => pss_one (ps_set (i := 1) nd rfl (.inl rfl) (pv 2))))
    (pss_cons (ps_if (pt_cmp (pc_isN (pv 1))) (pss_one (ps_ret pe_str)) pss_nil)
    (C8.pss_cut (ps_set (i := 3) nd rfl (.inl rfl) (pe_lst (pa_cons (pe_callB call_isY (by rfl) T.isi PyProof.Rows.boot_isinstance (pa_cons (pv 1) (pa_cons (pe_glob (v := .ref C) (by rfl) T.g0 rfl) pa_nil))) (pa_cons (pe_callB call_isY (by rfl) T.isi PyProof.Rows.boot_isinstance (pa_cons (pv 1) (pa_cons (pe_glob (v := .ref CP) (by rfl) T.g1 rfl) pa_nil))) (pa_cons (pe_callB call_isY (by rfl) T.isi PyProof.Rows.boot_isinstance (pa_cons (pv 1) (pa_cons (pe_glob (v := .ref CL) (by rfl) T.g2 rfl) pa_nil))) pa_nil)))))
    (C8.pss_cut (ps_expr (pe_bm PySem.F.plainAttrs_list PySem.F.slot_list_append PySem.F.type_list_append mt_append (pv 3) (pa_cons (pe_callB call_isY (by rfl) T.isi PyProof.Rows.boot_isinstance (pa_cons (pv 1) (pa_cons (pe_glob (v := .ref CT) (by rfl) T.g3 rfl) pa_nil))) pa_nil)))
    (C8.pss_cut (ps_set (i := 4) nd rfl (.inl rfl) (pe_callB call_isYT (by rfl) T.isi PyProof.Rows.boot_isinstance (pa_cons (pv 1) (pa_cons (pe_tup (pa_cons (pe_glob (v := .ref c1) (by rfl) h1 rfl) (pa_cons (pe_glob (v := .ref c2) (by rfl) h2 rfl) (pa_cons (pe_glob (v := .ref c3) (by rfl) h3 rfl) (pa_cons (pe_glob (v := .ref c4) (by rfl) h4 rfl) (pa_cons (pe_glob (v := .ref c5) (by rfl) h5 rfl) (pa_cons (pe_glob (v := .ref c6) (by rfl) h6 rfl) (pa_cons (pe_glob (v := .ref c7) (by rfl) h7 rfl) (pa_cons (pe_glob (v := .ref c8) (by rfl) h8 rfl) pa_nil))))))))) pa_nil))))
    (pss_cons (ps_if (PW.pt (pw_or (pt_cmpR op_ne (pe_bm PySem.F.plainAttrs_list PySem.F.slot_list_count PySem.F.type_list_count (mt_countD hu65) (pv 3) (pa_cons pe_bl pa_nil)) pe_int (nomark _)) (pw_or (pt_val (pv 4)) (pw_or1 (pt_not (pt_val (pe_callB call_isY (by rfl) T.isi PyProof.Rows.boot_isinstance (pa_cons (pv 1) (pa_cons (pe_bltn (v := .ty "ValueError") (u := .type "ValueError") (by rfl) T.ver (by decide +kernel) rfl) pa_nil))))))))) (pss_one (ps_ret pe_str)) pss_nil)
    (pss_one (ps_ret (pe_ifExp (pt_not (pt_val (pe_ix ix_list (pv 3) pe_int (fun _ _ => rfl)))) (pe_ix ix_list (pe_lst (pa_cons pe_str (pa_cons pe_str (pa_cons pe_str (pa_cons pe_str pa_nil))))) (pe_bm PySem.F.plainAttrs_list PySem.F.slot_list_index PySem.F.type_list_index (mt_indexD hu65) (pv 3) (pa_cons pe_bl pa_nil)) (fun _ _ => rfl)) (pe_tup (pa_cons pe_str (pa_cons (pe_yf TX no (pv 1)) pa_nil)))))))))))), ?_⟩
  · constructor
    rintro pins s' σ H' Dn I ⟨Ech, hW, h1, h2, h3⟩
    exact (pss_one (ps_expr (act _ pn xe Ech _ _ (takesLen tk) hW))).run pins s' σ H' Dn I ⟨h1, h2, h3⟩
  · refine ⟨fun σ' H' => ∃ y0 y1 y3 y4, σ' = [y0, y1, none, y3, y4] ∧ SdM X.K C CP CL CT CD cs Q y1 H', ?_, ?_⟩
    · refine ⟨_, ?_, rfl, hc, h _ fun _ H' hq => ⟨_, _, _, _, rfl, .inl ⟨rfl, hq⟩⟩⟩
      rintro cls d σ' H' hE hlen
      rcases hE with ⟨D, j, hm, rfl, rfl, hq⟩ | ⟨rfl, dd, rfl, hdd, hq⟩
      · have tk : Tk X.K C CP CL CT CD cs D j ∧ j < 3 := by
          rcases List.mem_cons.mp hm with e | hm
          · cases e
            exact ⟨t0, by decide⟩
          rcases List.mem_cons.mp hm with e | hm
          · cases e
            exact ⟨t1, by decide⟩
          · cases List.mem_singleton.mp hm
            exact ⟨t2, by decide⟩
        refine ⟨tk.1.te, fun a ha => ?_⟩
        match σ', hlen with
        | [y0, y1, y2, y3, y4], _ =>
          refine ⟨.ref a, rfl, y0, some (.ref a), y3, y4, ?_, ?_⟩
          · rfl
          · exact .inr ⟨a, D, none, j, rfl, ⟨upd_same, .inl rfl⟩, tk.1, .inl ⟨tk.2, fun H'' sm => hq H'' ((same_upd ha).trans sm)⟩⟩
      · refine ⟨t3.te, fun a ha => ?_⟩
        match σ', hlen with
        | [y0, y1, y2, y3, y4], _ =>
          refine ⟨.ref a, rfl, y0, some (.ref a), y3, y4, ?_, ?_⟩
          · rfl
          · exact .inr ⟨a, CT, some dd, 3, rfl, ⟨upd_same, .inr ⟨dd, _, rfl, same_upd ha _ _ hdd⟩⟩, t3, .inr ⟨rfl, rfl, dd, rfl, same_upd ha _ _ hdd, fun t H'' sm => hq t H'' ((same_upd ha).trans sm)⟩⟩
    rintro _ H1 ⟨y0, y1, y3, y4, rfl, hm⟩
    rcases hm with ⟨rfl, q0⟩ | ⟨a, D, d, j, rfl, kx, tk, q0⟩
    · exact ⟨.non, rfl, _, rfl, iteT (q0 _ (Same.refl _))⟩
    refine ⟨.ref a, rfl, _, rfl, iteF ?_⟩
    have wk := fun (b : Bool) (Cx : Addr) => (fun u (r : RelV (.ref Cx) u) => (r : u = Value.ref Cx))
    refine ⟨fun σ' H' => ∃ l, σ' = [y0, some (.ref a), none, some (.ref l), y4] ∧ Same H1 H' ∧ H1 l = none ∧ H' l = some (.lst ([decide (0 = j), decide (1 = j), decide (2 = j)].map V.bl)), ?_, ?_⟩
    · refine ⟨.ref a, rfl, a, D, d, .ref C, .ref C, _, rfl, kx, tk.ex, (fun u r => r), tk.k0, .ref a, rfl, a, D, d, .ref CP, .ref CP, _, rfl, kx, tk.ex, (fun u r => r), tk.k1, .ref a, rfl, a, D, d, .ref CL, .ref CL, _, rfl, kx, tk.ex, (fun u r => r), tk.k2, by show 3 ≤ sizeLine; decide, fun l hl => ⟨l, rfl, same_upd hl, hl, upd_same⟩⟩
    rintro _ H2 ⟨l, rfl, s2, nl, hl⟩
    have kx2 := kx.same s2
    have nal : a ≠ l := ne_of_none kx.1 nl
    refine ⟨fun σ' H' => σ' = [y0, some (.ref a), none, some (.ref l), y4] ∧ Same H1 H' ∧ H' l = some (.lst ((flg j).map V.bl)), ?_, ?_⟩
    · refine ⟨.ref l, rfl, .inl ⟨rfl, _, SqL.of hl⟩, .ref a, rfl, a, D, d, .ref CT, .ref CT, _, rfl, kx2, tk.ex, (fun u r => r), tk.k3, l, _, .bl (decide (3 = j)), rfl, rfl, hl, by show 3 < sizeLine; decide, ?_⟩
      refine ⟨rfl, fun b o e => ?_, ?_⟩
      · rw [upd_ne (ne_of_none e nl)]
        exact s2 _ _ e
      · rw [upd_same]
        rfl
    rintro _ H3 ⟨rfl, s3, hl3⟩
    have kx3 := kx.same s3
    refine ⟨fun σ' H' => σ' = [y0, some (.ref a), none, some (.ref l), some (.bl false)] ∧ Same H1 H' ∧ H' l = some (.lst ((flg j).map V.bl)), ?_, ?_⟩
    · refine ⟨.ref a, rfl, by show 8 ≤ sizeLine; decide, fun t ht => ?_⟩
      have st := same_upd (o := .tup [V.ref c1, V.ref c2, V.ref c3, V.ref c4, V.ref c5, V.ref c6, V.ref c7, V.ref c8]) ht
      have an := tk.an
      rw [ecs] at an
      refine ⟨a, D, d, t, _, _, false, rfl, kx3.same st, tk.ex, upd_same, ?_, an, rfl, s3.trans st, st _ _ hl3⟩
      exact .cons (.own _) (.cons (.own _) (.cons (.own _) (.cons (.own _) (.cons (.own _) (.cons (.own _) (.cons (.own _) (.cons (.own _) .nil)))))))
    rintro _ H4 ⟨rfl, s4, hl4⟩
    have kx4 := kx.same s4
    have j4 := tk.lt
    obtain ⟨ia, ib⟩ := at4 j4
    have dpL : Dp X.K H4 (.ref l) (.list ((flg j).map PyData.bool)) := .lst (SqL.of hl4) (dp_bools _)
    refine ⟨.ref l, rfl, .inl ⟨rfl, _, SqL.of hl4⟩, l, .bl true, .bool true, _, rfl, rfl, dpL, .bl true, shaped_bools _, by decide +kernel, ?_⟩
    rw [cnt4 j4]
    refine ⟨rfl, _, rfl, iteF ⟨.bl false, rfl, _, rfl, iteF ⟨.ref a, rfl, a, D, d, .ty "ValueError", .type "ValueError", true, rfl, kx4, tk.ex, (fun u r => r), tk.vk, _, rfl, iteF ?_⟩⟩⟩
    refine ⟨.ref l, rfl, l, _, 3, .bl (decide (3 = j)), rfl, rfl, SqL.of hl4, rfl, _, rfl, ?_⟩
    rcases q0 with ⟨j3, q0⟩ | ⟨rfl, rfl, dd, rfl, hdd, q0⟩
    · have e3 : decide (3 = j) = false := decide_eq_false (by omega)
      rw [e3]
      refine iteT ⟨by show 4 ≤ sizeLine; decide, fun w hw => ?_⟩
      have sw := same_upd (o := .lst [V.str "picture", V.str "place", V.str "line", V.str "many"]) hw
      have dpL' : Dp X.K (upd H4 w (.lst [V.str "picture", V.str "place", V.str "line", V.str "many"])) (.ref l) (.list ((flg j).map PyData.bool)) := .lst (SqL.of (sw _ _ hl4)) (dp_bools _)
      refine ⟨.ref l, rfl, .inl ⟨rfl, _, SqL.of (sw _ _ hl4)⟩, l, .bl true, .bool true, _, j, .bool true, rfl, rfl, dpL', .bl true, shaped_bools _, by decide +kernel, by rw [List.getElem?_map, ia]; rfl, eqv_bt true, fun m z hm hz => ?_, ?_⟩
      · rw [List.getElem?_map, ib m hm] at hz
        cases hz
        exact eqv_bt false
      · have ew : ([V.str "picture", V.str "place", V.str "line", V.str "many"] : List V)[j]? = some (V.str (wrd.getD j "")) := by
          rcases (show j = 0 ∨ j = 1 ∨ j = 2 by omega) with rfl | rfl | rfl <;> rfl
        refine ⟨w, _, j, V.str (wrd.getD j ""), rfl, rfl, SqL.of upd_same, atI_nat ew, ?_⟩
        exact q0 _ (s4.trans sw)
    · refine iteF ⟨.ref a, rfl, a, dd, _, .int 60, rfl, kx4.1, s4 _ _ hdd, by simp [List.lookup], by show 2 ≤ sizeLine; decide, fun t ht => ?_⟩
      exact q0 t _ (s4.trans (same_upd ht)) upd_same
end Dt
namespace L2X
open PySem PySem.Spec PyProof.Rows L2
theorem for_enumG {K : PySem.W.Frag} {A : Src} {xs : List V} {g : TG} {tb : TS} {D : Ends} {σ : L2.St} {H : Hp} (Pv : Nat → L2.St → Hp → Prop) (h0 : Pv 0 σ H) (hl : ∀ i σ H, i ≤ xs.length → Pv i σ H → A.has K H xs)
    (hs : ∀ i x σ H T, xs[i]? = some x → Pv i σ H → H T = none → g (.ref T) σ (upd H T (.tup [.int (i : Nat), x])) fun σ2 H2 => tb { D with nx := Pv (i + 1), ct := Pv (i + 1), bk := D.nx } σ2 H2) (hd : ∀ σ H, Pv xs.length σ H → D.nx σ H) :
    ∃ W : Nat → Nat → L2.St → Hp → Prop, (∃ m, W 0 m σ H) ∧ ∀ i m σ H, W i m σ H →
      ((IteG K A).stop i H ∧ D.nx σ H) ∨ ((IteG K A).go i H ∧ ∃ N : L2.St → Hp → Prop, (∀ σ' H', N σ' H' → ∃ m', m' < m ∧ W (i + 1) m' σ' H') ∧ ∀ x H', (IteG K A).yld i H x H' → g x σ H' fun σ2 H2 => tb { D with nx := N, ct := N, bk := D.nx } σ2 H2) := by
  refine ⟨fun i m σ H => m = xs.length - i ∧ i ≤ xs.length ∧ Pv i σ H, ⟨xs.length, by simp, Nat.zero_le _, h0⟩, ?_⟩
  rintro i m σ H ⟨rfl, hi, p⟩
  have qx := hl i σ H hi p
  by_cases hlt : i < xs.length
  · have ex : xs[i]? = some xs[i] := List.getElem?_eq_getElem hlt
    refine .inr ⟨⟨xs, _, qx, ex⟩, Pv (i + 1), fun σ' H' p' => ⟨xs.length - (i + 1), by omega, rfl, hlt, p'⟩, fun x H' y => ?_⟩
    obtain ⟨T, u, rfl, nT, rfl, z1⟩ := y
    exact hs i u σ H T (z1 xs qx) p nT
  · have e : i = xs.length := by omega
    subst e
    exact .inl ⟨⟨xs, qx, rfl⟩, hd σ H p⟩
end L2X
namespace Dt
open PySem PySem.Spec PyProof.Rows L2 L2X LamX
open SX (S)
open StX
theorem or_by {K : PySem.W.Frag} {ta tb : TE} {σ : L2.St} {H : Hp} {Q : VK} {a : Addr} {ns : List Int} (hta : ∀ R : VK, R (.ref a) H → ta σ H R) (hS : SqL K H a (ns.map V.int)) (hl : ns.length ≤ 63)
    (hb : ∀ R : VK, (∀ l, H l = none → R (.ref l) (upd H l (.lst [V.int 5]))) → tb σ H R) (q : ∀ (H1 : Hp) (l0 : Addr) (ms : List Int), Same H H1 → SqL K H1 l0 (ms.map V.int) → ms.length ≤ 63 → Q (.ref l0) H1) : tOrT K ta tb σ H Q := by
  refine hta _ ⟨!(ns.map V.int).isEmpty, .inl ⟨_, hS, rfl⟩, ?_⟩
  cases ns with
  | nil => exact iteF (hb _ fun l hl => q _ l [5] (same_upd hl) (SqL.of upd_same) (by decide))
  | cons z zs => exact iteT (q H a (z :: zs) (Same.refl H) hS hl)

/-! ### what stays -/
/-- all but d and the tables of code stays -/
def Kp (d : Addr) (H H' : Hp) : Prop := ∀ b o, H b = some o → b ≠ d → (∀ ps, o ≠ .tbl ps) → H' b = some o
theorem Kp.same {d : Addr} {H H' : Hp} (s : Same H H') : Kp d H H' := fun b o e _ _ => s b o e
theorem Kp.of_do {d : Addr} {H H' : Hp} (s : Do d H H') : Kp d H H' := fun b o e n _ => s b o e n
theorem Kp.ext {d : Addr} {H H' : Hp} (s : ExtN H H') : Kp d H H' := fun b o e _ n => s b o e n
theorem Kp.trans {d : Addr} {H H1 H2 : Hp} (a : Kp d H H1) (b : Kp d H1 H2) : Kp d H H2 := fun x o e h n => b x o (a x o e h n) h n
theorem Kp.tup {d a : Addr} {H H' : Hp} {n : Nat} {xs : List V} (k : Kp d H H') (D : Du H d n) (h : H a = some (.tup xs)) : H' a = some (.tup xs) := by
  obtain ⟨_, _, _, hd, _⟩ := D
  exact k _ _ h (ne_of h hd (by intro z; cases z)) fun _ z => nomatch z
theorem Kp.lst {d a : Addr} {H H' : Hp} {xs : List V} (k : Kp d H H') (n : a ≠ d) (h : H a = some (.lst xs)) : H' a = some (.lst xs) := k _ _ h n fun _ z => nomatch z
theorem tyB_kp {K : PySem.W.Frag} {H H' : Hp} {d : Addr} {n m : Nat} {x : V} {T : String} (s : Kp d H H') (D : Du H d n) (D' : Du H' d m) (t : TyB K H x T) : TyB K H' x T := by
  obtain ⟨a1, a2, a3, hd, _⟩ := D
  obtain ⟨b1, b2, b3, hd', _⟩ := D'
  cases t with
  | non => exact .non
  | bl b => exact .bl b
  | int i => exact .int i
  | str x => exact .str x
  | byt b => exact .byt b
  | @lst a xs h =>
    rcases h with (h | ⟨o, h⟩) | h
    · by_cases e : a = d
      · rw [e]
        exact .lst (SqL.of hd')
      · exact .lst (SqL.of (s _ _ h e fun _ z => nomatch z))
    · exact .lst (.inl (.inr ⟨o, s _ _ h (ne_of h hd (by intro z; cases z)) fun _ z => nomatch z⟩))
    · exact .lst (.inr h)
  | @tup a xs h =>
    rcases h with (h | ⟨o, h⟩) | h
    · exact .tup (SqT.of (s _ _ h (ne_of h hd (by intro z; cases z)) fun _ z => nomatch z))
    · exact .tup (.inl (.inr ⟨o, s _ _ h (ne_of h hd (by intro z; cases z)) fun _ z => nomatch z⟩))
    · exact .tup (.inr h)
  | @dK a kvs h => exact .dK (s _ _ h (ne_of h hd (by intro z; cases z)) fun _ z => nomatch z)
theorem sqT_kp {K : PySem.W.Frag} {H H' : Hp} {d a : Addr} {n : Nat} {xs : List V} (s : Kp d H H') (D : Du H d n) (h : SqT K H a xs) : SqT K H' a xs := by
  obtain ⟨a1, a2, a3, hd, _⟩ := D
  rcases h with (h | ⟨o, h⟩) | h
  · exact SqT.of (s _ _ h (ne_of h hd (by intro z; cases z)) fun _ z => nomatch z)
  · exact .inl (.inr ⟨o, s _ _ h (ne_of h hd (by intro z; cases z)) fun _ z => nomatch z⟩)
  · exact .inr h
theorem Kt.kp {K : PySem.W.Frag} {H H' : Hp} {d : Addr} {n m : Nat} {x : V} (h : Kt K H x) (s : Kp d H H') (D : Du H d n) (D' : Du H' d m) : Kt K H' x := by
  obtain ⟨T, t, ok⟩ := h
  exact ⟨T, tyB_kp s D D' t, ok⟩
theorem Asked.kp {K : PySem.W.Frag} {H H' : Hp} {d : Addr} {n m : Nat} {x : V} {b : Bool} (h : Asked K H x b) (s : Kp d H H') (D : Du H d n) (D' : Du H' d m) : Asked K H' x b := by
  rcases h with ⟨T, t, ok, ne, e⟩ | ⟨a, xs, e, h1, h2, e2⟩
  · exact .inl ⟨T, tyB_kp s D D' t, ok, ne, e⟩
  · exact .inr ⟨a, xs, e, sqT_kp s D h1, fun l y hy => by
      obtain ⟨⟨T, t, ok⟩, z⟩ := h2 l y hy
      exact ⟨⟨T, tyB_kp s D D' t, ok⟩, z⟩, e2⟩
theorem BoxQ.kp {K : PySem.W.Frag} {H H' : Hp} {d : Addr} {n m high wide : Nat} {y : V} {ok : Bool} (h : BoxQ K H high wide y ok) (s : Kp d H H') (D : Du H d n) (D' : Du H' d m) : BoxQ K H' high wide y ok := by
  rcases h with ⟨T, t, o, n, e⟩ | ⟨t, xs, e, ht, n, e2⟩ | ⟨t, x1, x2, x3, x4, e, ht, k1, k2, k3, k4, e2⟩
  · exact .inl ⟨T, tyB_kp s D D' t, o, n, e⟩
  · exact .inr (.inl ⟨t, xs, e, sqT_kp s D ht, n, e2⟩)
  · exact .inr (.inr ⟨t, x1, x2, x3, x4, e, sqT_kp s D ht, k1.kp s D D', k2.kp s D D', k3.kp s D D', k4.kp s D D', e2⟩)
theorem tabs_do {T : List (Addr × Str)} {H H' : Hp} {d : Addr} {n : Nat} (h : Tabs T H) (D : Du H d n) (s : Do d H H') : Tabs T H' := by
  obtain ⟨_, _, _, hd, _⟩ := D
  intro p hp
  obtain ⟨ps, e1, e2, e3⟩ := h p hp
  refine ⟨ps, s _ _ e1 (ne_of e1 hd (by intro z; cases z)), e2, fun pos cv hc => ?_⟩
  obtain ⟨c0, e4, e5⟩ := e3 pos cv hc
  exact ⟨c0, e4, s _ _ e5 (ne_of e5 hd (by intro z; unfold LamX.CodeO at z; cases z))⟩
theorem tabs_updl {T : List (Addr × Str)} {H : Hp} {l : Addr} {xs ys : List V} (h : Tabs T H) (hl : H l = some (.lst xs)) : Tabs T (upd H l (.lst ys)) := by
  intro p hp
  obtain ⟨ps, e1, e2, e3⟩ := h p hp
  refine ⟨ps, by rw [upd_ne (ne_of e1 hl (by intro z; cases z))]; exact e1, e2, fun pos cv hc => ?_⟩
  obtain ⟨c0, e4, e5⟩ := e3 pos cv hc
  exact ⟨c0, e4, by rw [upd_ne (ne_of e5 hl (by intro z; unfold LamX.CodeO at z; cases z))]; exact e5⟩
theorem Du.ext {H H' : Hp} {d : Addr} {n : Nat} (D : Du H d n) (s : ExtN H H') : Du H' d n := by
  obtain ⟨a, b, t, h, r⟩ := D
  exact ⟨a, b, t, s _ _ h (fun _ z => nomatch z), r⟩
/-- an odd number -/
def OddN (d : Addr) (H : Hp) (x : V) : Prop := (∃ i : Int, x = .int i ∧ (i = 0 ∨ i = -1 ∨ i = 61 ∨ i = 10 ^ 30 ∨ i = 80)) ∨ x = .non ∨ x = .str "2" ∨ x = .bl true ∨ (∃ t, x = .ref t ∧ H t = some (.tup [.int 2])) ∨ ∃ t, x = .ref t ∧ t ≠ d ∧ H t = some (.lst [.int 2])
theorem OddN.kp {d : Addr} {H H' : Hp} {n : Nat} {x : V} (h : OddN d H x) (k : Kp d H H') (D : Du H d n) : OddN d H' x := by
  rcases h with h | h | h | h | ⟨t, e, h⟩ | ⟨t, e, n, h⟩
  · exact .inl h
  · exact .inr (.inl h)
  · exact .inr (.inr (.inl h))
  · exact .inr (.inr (.inr (.inl h)))
  · exact .inr (.inr (.inr (.inr (.inl ⟨t, e, k.tup D h⟩))))
  · exact .inr (.inr (.inr (.inr (.inr ⟨t, e, n, k.lst n h⟩))))
theorem OddN.kt {K : PySem.W.Frag} {d : Addr} {H : Hp} {x : V} (h : OddN d H x) : Kt K H x := by
  rcases h with ⟨i, rfl, _⟩ | rfl | rfl | rfl | ⟨t, rfl, h⟩ | ⟨t, rfl, _, h⟩
  · exact kt_int _
  · exact ⟨_, .non, rfl⟩
  · exact ⟨_, .str _, rfl⟩
  · exact kt_bl _
  · exact ⟨"tuple", .tup (SqT.of h), rfl⟩
  · exact ⟨"list", .lst (SqL.of h), rfl⟩
theorem OddN.b {d : Addr} {H : Hp} {x : V} (h : OddN d H x) {lo hi : Int} (h1 : 1 ≤ lo) (h2 : hi ≤ 60) : betw x lo hi = false := by
  rcases h with ⟨i, rfl, h⟩ | rfl | rfl | rfl | ⟨t, rfl, h⟩ | ⟨t, rfl, _, h⟩
  · rw [betw_int]
    by_cases a : lo ≤ i
    · have : ¬ i ≤ hi := by omega
      rw [decide_eq_false this, Bool.and_false]
    · rw [decide_eq_false a, Bool.false_and]
  all_goals rfl
theorem OddN.z {d : Addr} {H : Hp} {x : V} (h : OddN d H x) (n : x ≠ .int 0) : betw x 0 2 = false := by
  rcases h with ⟨i, rfl, h⟩ | rfl | rfl | rfl | ⟨t, rfl, h⟩ | ⟨t, rfl, _, h⟩
  · rw [betw_int]
    have n' : i ≠ 0 := fun z => n (by rw [z])
    by_cases a : 0 ≤ i
    · have : ¬ i ≤ 2 := by omega
      rw [decide_eq_false this, Bool.and_false]
    · rw [decide_eq_false a, Bool.false_and]
  all_goals rfl
theorem OddN.dp {K : PySem.W.Frag} {d : Addr} {H : Hp} {x : V} (h : OddN d H x) : ∃ dt, Dp K H x dt ∧ SeqAt.shaped dt = true ∧ PyData.eqv dt (.int 0) = decide (x = .int 0) := by
  rcases h with ⟨i, rfl, h⟩ | rfl | rfl | rfl | ⟨t, rfl, h⟩ | ⟨t, rfl, _, h⟩
  · refine ⟨.int i, .int i, ?_, ?_⟩
    · simp [SeqAt.shaped, PyData.canLay0, PyData.depth]
    · apply Bool.eq_iff_iff.mpr
      simp [PyData.eqv]
  · exact ⟨.none, .non, by decide +kernel, by simp [PyData.eqv]⟩
  · exact ⟨.str "2", .str _, by decide +kernel, by simp [PyData.eqv]⟩
  · exact ⟨.bool true, .bl _, by decide +kernel, by simp [PyData.eqv]⟩
  · exact ⟨.tuple [.int 2], .tup (SqT.of h) (.cons (.int 2) .nil), by decide +kernel, by simp [PyData.eqv]⟩
  · exact ⟨.list [.int 2], .lst (SqL.of h) (.cons (.int 2) .nil), by decide +kernel, by simp [PyData.eqv]⟩
/-- what is due, by its number: told, picture, place, line, many -/
def dueW : Nat → Str
  | 0 => "told"
  | 1 => "picture"
  | 2 => "place"
  | _ => "line"
def dueD : Nat → PyData
  | 4 => .tuple [.str "many", .int 60]
  | c => .str (dueW c)
def DueV (H : Hp) (v : V) (c : Nat) : Prop := (c < 4 ∧ v = .str (dueW c)) ∨ (c = 4 ∧ ∃ t, v = .ref t ∧ H t = some (.tup [.str "many", .int 60]))
theorem DueV.kp {d : Addr} {H H' : Hp} {n c : Nat} {v : V} (h : DueV H v c) (k : Kp d H H') (D : Du H d n) : DueV H' v c := by
  rcases h with h | ⟨e, t, e2, h⟩
  · exact .inl h
  · exact .inr ⟨e, t, e2, k.tup D h⟩
theorem DueV.dp {K : PySem.W.Frag} {H : Hp} {v : V} {c : Nat} (h : DueV H v c) : Dp K H v (dueD c) := by
  rcases h with ⟨e, rfl⟩ | ⟨rfl, t, rfl, h⟩
  · rcases (show c = 0 ∨ c = 1 ∨ c = 2 ∨ c = 3 by omega) with rfl | rfl | rfl | rfl <;> exact .str _
  · exact .tup (SqT.of h) (.cons (.str _) (.cons (.int _) .nil))
theorem due_sh : ∀ c, SeqAt.shaped (dueD c) = true
  | 0 => by decide +kernel
  | 1 => by decide +kernel
  | 2 => by decide +kernel
  | 3 => by decide +kernel
  | 4 => by decide +kernel
  | n + 5 => by
    show SeqAt.shaped (.str "line") = true
    decide +kernel
theorem due_ne {c : Nat} (h : c ≤ 4) : (!PyData.eqv (dueD c) (dueD c)) = false := by
  rcases (show c = 0 ∨ c = 1 ∨ c = 2 ∨ c = 3 ∨ c = 4 by omega) with rfl | rfl | rfl | rfl | rfl <;> simp [dueD, dueW, PyData.eqv, PyData.eqvAll]
theorem due_told {c : Nat} (h : c ≤ 4) : PyData.eqv (dueD c) (.str "told") = decide (c = 0) := by
  rcases (show c = 0 ∨ c = 1 ∨ c = 2 ∨ c = 3 ∨ c = 4 by omega) with rfl | rfl | rfl | rfl | rfl <;> (simp [dueD, dueW, PyData.eqv]; try decide +kernel)
theorem due_many {c : Nat} (h : c ≤ 4) : PyData.eqv (dueD c) (.tuple [.str "many", .int 60]) = decide (c = 4) := by
  rcases (show c = 0 ∨ c = 1 ∨ c = 2 ∨ c = 3 ∨ c = 4 by omega) with rfl | rfl | rfl | rfl | rfl <;> simp [dueD, dueW, PyData.eqv, PyData.eqvAll]
/-- the page and the box, right or not -/
def PgS (K : PySem.W.Frag) (pg : Addr) (w0 : Bool) (page : V) (H : Hp) : Prop := (w0 = true ∧ Asked K H page false) ∨ (w0 = false ∧ page = .ref pg)
def BxS (K : PySem.W.Frag) (high wide : Nat) (w1 : Bool) (box : V) (H : Hp) : Prop := (w1 = true ∧ BoxQ K H high wide box false) ∨ (w1 = false ∧ ∃ t, box = .ref t ∧ H t = some (.tup [.int 0, .int 0, .int 1, .int wide]))
theorem PgS.kp {K : PySem.W.Frag} {pg d : Addr} {w0 : Bool} {page : V} {H H' : Hp} {n m : Nat} (h : PgS K pg w0 page H) (k : Kp d H H') (D : Du H d n) (D' : Du H' d m) : PgS K pg w0 page H' := h.imp (fun ⟨e, a⟩ => ⟨e, a.kp k D D'⟩) id
theorem BxS.kp {K : PySem.W.Frag} {d : Addr} {high wide : Nat} {w1 : Bool} {box : V} {H H' : Hp} {n m : Nat} (h : BxS K high wide w1 box H) (k : Kp d H H') (D : Du H d n) (D' : Du H' d m) : BxS K high wide w1 box H' :=
  h.imp (fun ⟨e, a⟩ => ⟨e, a.kp k D D'⟩) fun ⟨e, t, e2, h⟩ => ⟨e, t, e2, k.tup D h⟩
/-! the same, of a list that changes -/
def IsL (H : Hp) (a : Addr) : Prop := ∃ xs, H a = some (.lst xs)
theorem Kp.tupl {d a : Addr} {H H' : Hp} {xs : List V} (k : Kp d H H') (D : IsL H d) (h : H a = some (.tup xs)) : H' a = some (.tup xs) := by
  obtain ⟨_, hd⟩ := D
  exact k _ _ h (ne_of h hd (by intro z; cases z)) fun _ z => nomatch z
theorem tyB_kl {K : PySem.W.Frag} {H H' : Hp} {d : Addr} {x : V} {T : String} (s : Kp d H H') (D : IsL H d) (D' : IsL H' d) (t : TyB K H x T) : TyB K H' x T := by
  obtain ⟨_, hd⟩ := D
  obtain ⟨_, hd'⟩ := D'
  cases t with
  | non => exact .non
  | bl b => exact .bl b
  | int i => exact .int i
  | str x => exact .str x
  | byt b => exact .byt b
  | @lst a xs h =>
    rcases h with (h | ⟨o, h⟩) | h
    · by_cases e : a = d
      · rw [e]
        exact .lst (SqL.of hd')
      · exact .lst (SqL.of (s _ _ h e fun _ z => nomatch z))
    · exact .lst (.inl (.inr ⟨o, s _ _ h (ne_of h hd (by intro z; cases z)) fun _ z => nomatch z⟩))
    · exact .lst (.inr h)
  | @tup a xs h =>
    rcases h with (h | ⟨o, h⟩) | h
    · exact .tup (SqT.of (s _ _ h (ne_of h hd (by intro z; cases z)) fun _ z => nomatch z))
    · exact .tup (.inl (.inr ⟨o, s _ _ h (ne_of h hd (by intro z; cases z)) fun _ z => nomatch z⟩))
    · exact .tup (.inr h)
  | @dK a kvs h => exact .dK (s _ _ h (ne_of h hd (by intro z; cases z)) fun _ z => nomatch z)
theorem sqT_kl {K : PySem.W.Frag} {H H' : Hp} {d a : Addr} {xs : List V} (s : Kp d H H') (D : IsL H d) (h : SqT K H a xs) : SqT K H' a xs := by
  obtain ⟨_, hd⟩ := D
  rcases h with (h | ⟨o, h⟩) | h
  · exact SqT.of (s _ _ h (ne_of h hd (by intro z; cases z)) fun _ z => nomatch z)
  · exact .inl (.inr ⟨o, s _ _ h (ne_of h hd (by intro z; cases z)) fun _ z => nomatch z⟩)
  · exact .inr h
theorem Kt.kl {K : PySem.W.Frag} {H H' : Hp} {d : Addr} {x : V} (h : Kt K H x) (s : Kp d H H') (D : IsL H d) (D' : IsL H' d) : Kt K H' x := by
  obtain ⟨T, t, ok⟩ := h
  exact ⟨T, tyB_kl s D D' t, ok⟩
theorem Asked.kl {K : PySem.W.Frag} {H H' : Hp} {d : Addr} {x : V} {b : Bool} (h : Asked K H x b) (s : Kp d H H') (D : IsL H d) (D' : IsL H' d) : Asked K H' x b := by
  rcases h with ⟨T, t, ok, ne, e⟩ | ⟨a, xs, e, h1, h2, e2⟩
  · exact .inl ⟨T, tyB_kl s D D' t, ok, ne, e⟩
  · exact .inr ⟨a, xs, e, sqT_kl s D h1, fun l y hy => by
      obtain ⟨⟨T, t, ok⟩, z⟩ := h2 l y hy
      exact ⟨⟨T, tyB_kl s D D' t, ok⟩, z⟩, e2⟩
theorem BoxQ.kl {K : PySem.W.Frag} {H H' : Hp} {d : Addr} {high wide : Nat} {y : V} {ok : Bool} (h : BoxQ K H high wide y ok) (s : Kp d H H') (D : IsL H d) (D' : IsL H' d) : BoxQ K H' high wide y ok := by
  rcases h with ⟨T, t, o, n, e⟩ | ⟨t, xs, e, ht, n, e2⟩ | ⟨t, x1, x2, x3, x4, e, ht, k1, k2, k3, k4, e2⟩
  · exact .inl ⟨T, tyB_kl s D D' t, o, n, e⟩
  · exact .inr (.inl ⟨t, xs, e, sqT_kl s D ht, n, e2⟩)
  · exact .inr (.inr ⟨t, x1, x2, x3, x4, e, sqT_kl s D ht, k1.kl s D D', k2.kl s D D', k3.kl s D D', k4.kl s D D', e2⟩)
theorem OddN.kl {d nl : Addr} {H H' : Hp} {x : V} (h : OddN d H x) (k : Kp nl H H') (D : IsL H nl) (n2 : H nl ≠ some (.lst [.int 2])) : OddN d H' x := by
  rcases h with h | h | h | h | ⟨t, e, h⟩ | ⟨t, e, n, h⟩
  · exact .inl h
  · exact .inr (.inl h)
  · exact .inr (.inr (.inl h))
  · exact .inr (.inr (.inr (.inl h)))
  · exact .inr (.inr (.inr (.inr (.inl ⟨t, e, k.tupl D h⟩))))
  · exact .inr (.inr (.inr (.inr (.inr ⟨t, e, n, k.lst (fun z => n2 (by rw [← z]; exact h)) h⟩))))
theorem DueV.kl {d : Addr} {H H' : Hp} {c : Nat} {v : V} (h : DueV H v c) (k : Kp d H H') (D : IsL H d) : DueV H' v c := by
  rcases h with h | ⟨e, t, e2, h⟩
  · exact .inl h
  · exact .inr ⟨e, t, e2, k.tupl D h⟩
theorem PgS.kl {K : PySem.W.Frag} {pg d : Addr} {w0 : Bool} {page : V} {H H' : Hp} (h : PgS K pg w0 page H) (k : Kp d H H') (D : IsL H d) (D' : IsL H' d) : PgS K pg w0 page H' := h.imp (fun ⟨e, a⟩ => ⟨e, a.kl k D D'⟩) id
theorem BxS.kl {K : PySem.W.Frag} {d : Addr} {high wide : Nat} {w1 : Bool} {box : V} {H H' : Hp} (h : BxS K high wide w1 box H) (k : Kp d H H') (D : IsL H d) (D' : IsL H' d) : BxS K high wide w1 box H' :=
  h.imp (fun ⟨e, a⟩ => ⟨e, a.kl k D D'⟩) fun ⟨e, t, e2, h⟩ => ⟨e, t, e2, k.tupl D h⟩
/-- what stays while one cell is gone through -/
structure Ls (TL : List (Addr × Str)) (d lc pg wl : Addr) (cs : List V) (rs : List (List Nat)) (w0 w1 w2 : Bool) (odd : V) (n : Nat) (H : Hp) : Prop where
  D : Du H d n
  T : Tabs TL H
  hl : H lc = some (.lst cs)
  nl : lc ≠ d
  hg : H pg = some (.tup (rs.map rv))
  hw : H wl = some (.lst [.bl w0, .bl w1, .bl w2])
  nw : wl ≠ d
  od : OddN d H odd
theorem Ls.kp {TL : List (Addr × Str)} {d lc pg wl : Addr} {cs : List V} {rs : List (List Nat)} {w0 w1 w2 : Bool} {odd : V} {n m : Nat} {H H' : Hp} (L : Ls TL d lc pg wl cs rs w0 w1 w2 odd n H) (k : Kp d H H') (D' : Du H' d m) (T' : Tabs TL H') : Ls TL d lc pg wl cs rs w0 w1 w2 odd m H' :=
  ⟨D', T', k.lst L.nl L.hl, L.nl, k.tup L.D L.hg, k.lst L.nw L.hw, L.nw, L.od.kp k L.D⟩
theorem Ls.same {TL : List (Addr × Str)} {d lc pg wl : Addr} {cs : List V} {rs : List (List Nat)} {w0 w1 w2 : Bool} {odd : V} {n : Nat} {H H' : Hp} (L : Ls TL d lc pg wl cs rs w0 w1 w2 odd n H) (s : Same H H') : Ls TL d lc pg wl cs rs w0 w1 w2 odd n H' := L.kp (.same s) (L.D.same s) (L.T.ext s)
theorem Ls.do' {TL : List (Addr × Str)} {d lc pg wl : Addr} {cs : List V} {rs : List (List Nat)} {w0 w1 w2 : Bool} {odd : V} {n m : Nat} {H H' : Hp} (L : Ls TL d lc pg wl cs rs w0 w1 w2 odd n H) (s : Do d H H') (D' : Du H' d m) : Ls TL d lc pg wl cs rs w0 w1 w2 odd m H' := L.kp (.of_do s) D' (tabs_do L.T L.D s)
theorem Ls.ex {TL : List (Addr × Str)} {d lc pg wl : Addr} {cs : List V} {rs : List (List Nat)} {w0 w1 w2 : Bool} {odd : V} {n : Nat} {H H' : Hp} (L : Ls TL d lc pg wl cs rs w0 w1 w2 odd n H) (s : ExtN H H') (T' : Tabs TL H') : Ls TL d lc pg wl cs rs w0 w1 w2 odd n H' := L.kp (.ext s) (L.D.ext s) T'
/-- the numbers for fields, lines_of, line_at -/
def NmF (w2 : Bool) (odd z1 z2 : V) : Prop := (w2 = true ∧ (z1 = odd ∧ z2 = .int 3 ∨ z1 = .int 3 ∧ z2 = odd)) ∨ (w2 = false ∧ z1 = .int 60 ∧ z2 = .int 1)
def NmL (K : PySem.W.Frag) (w2 : Bool) (z1 z2 z3 : V) (H : Hp) : Prop := Kt K H z1 ∧ Kt K H z2 ∧ Kt K H z3 ∧
  ((w2 = true ∧ (betw z1 1 9 = false ∨ (∃ tall : Int, z1 = .int tall ∧ betw z1 1 9 = true ∧ betw z2 tall 60 = false) ∨ (∃ tall : Int, z1 = .int tall ∧ betw z1 1 9 = true ∧ betw z2 tall 60 = true ∧ betw z3 0 (tall - 1) = false))) ∨ (w2 = false ∧ z1 = .int 9 ∧ z2 = .int 60 ∧ z3 = .int 8))
theorem NmL.kp {K : PySem.W.Frag} {d : Addr} {w2 : Bool} {z1 z2 z3 : V} {H H' : Hp} {n m : Nat} (h : NmL K w2 z1 z2 z3 H) (k : Kp d H H') (D : Du H d n) (D' : Du H' d m) : NmL K w2 z1 z2 z3 H' := ⟨h.1.kp k D D', h.2.1.kp k D D', h.2.2.1.kp k D D', h.2.2.2⟩
def NmA (w2 : Bool) (tl ld : Int) : Prop := (w2 = true ∧ (betw (.int tl) 1 9 && betw (.int ld) 0 (tl - 1)) = false) ∨ (w2 = false ∧ tl = 1 ∧ ld = 0)
abbrev sLaw : Stmt := topS 54
abbrev nLaw : List Str := ["script", "k", "cell", "draw", "wrong", "turn", "good", "odd", "page", "box", "due", "down", "across", "numbers", "tall", "far", "lead"]
theorem scLaw : FnScope nLaw ["script"] (defScope sLaw) := ⟨rfl, rfl, rfl, by decide +kernel, rfl, by decide +kernel, by decide +kernel⟩
def noSc : Scope := { kind := .function, names := [], isGenerator := false, isCoroutine := false }
def lamSc (n : Nat) : Scope := match (defBody sLaw).getD 0 (.Pass ⟨0, 0, 0, 0⟩) with
  | .For _ _ b _ _ => (match b.getD n (.Pass ⟨0, 0, 0, 0⟩) with
    | .If (.Compare (.Call _ [.Lambda _ _ sc _] _ _) _ _ _) _ _ _ => sc
    | _ => noSc)
  | _ => noSc
section
variable {P : Program} {w : World} {K : PySem.W.Frag} {mg : Str → Option Value} {base : Heap} {C CP CL CT CD fa cc PP : Addr} {cl8 : List Addr} {s : Shared} {H : Hp}
abbrev xLaw (P : Program) (w : World) (K : PySem.W.Frag) (mg : Str → Option Value) (base : Heap) (fa cc : Addr) (s : Shared) (H : Hp) : Cx := (cxOf CX0 P w K mg base nLaw "law" (defScope sLaw) fa (.ref cc) callerA [] s H E0).nox
structure LawFs (P : Program) (w : World) (K : PySem.W.Frag) (mg : Str → Option Value) (base : Heap) (C CP CL CT CD : Addr) (cl8 : List Addr) (fF fL fA : Addr) (fdF fdL fdA : FuncData) : Prop where
  tx : Tx mg
  en : mg "enumerate" = none
  B : Pm P w K mg base CX0 12 "_law_begun" ["cell", "k"] spBg
  N : Pm P w K mg base CX0 12 "_law_next" ["draw", "below"] spNx
  K' : Pm P w K mg base CX0 12 "_law_pick" ["draw", "some"] (spPk K)
  P' : Pm P w K mg base CX0 12 "_law_page" ["draw"] spPg
  NP : Pm P w K mg base CX0 12 "_law_no_picture" ["draw", "picture"] (spNP K)
  NB : Pm P w K mg base CX0 12 "_law_no_box" ["draw", "picture"] (spNB K)
  FF : FnFI K fF fdF
  GF : FnOk P w K mg base (L2.CX P w) 10 fF fdF ["picture", "rows", "columns"] (spFIX K C CT)
  mF : mg "fields" = some (.ref fF)
  FL : FnLO K fL fdL
  GL : FnOk P w K mg base (L2.CX P w) 10 fL fdL ["picture", "box", "high", "pitch", "above"] (spLOX K C CP CT)
  mL : mg "lines_of" = some (.ref fL)
  FA : FnLA K fA fdA
  GA : FnOk P w K mg base (L2.CX P w) 10 fA fdA ["picture", "box", "high", "over"] (spLAX K C CP CL)
  mA : mg "line_at" = some (.ref fA)
  cl : Tcl mg C CP CL CT CD cl8
  tx2 : XfC K CT
  no : PySem.W.findIn K (.ref CT) "most" = some none
  t0 : Tk K C CP CL CT CD cl8 C 0
  t1 : Tk K C CP CL CT CD cl8 CP 1
  t2 : Tk K C CP CL CT CD cl8 CL 2
  t3 : Tk K C CP CL CT CD cl8 CT 3
  R : Df K mg "_law_said" sSd ["work"]
theorem law_run {fF fL fA : Addr} {fdF fdL fdA : FuncData} {dV kV doc pm ct oc : Value} {an od : Option Addr} {osl : Array (Option Value)} {s : Shared} {H : Hp} {a : Addr} {ns : List Int}
    (lk : K.lookup fa = some ⟨oc, od, .func (PySem.W.fnOf "law" "law" (defArgs sLaw) (defBody sLaw) (defScope sLaw) dV kV doc pm an (.ref cc) ct), osl⟩) (hcd : PySem.W.codeIn K (.ref cc) "law" = true)
    (hb : ∀ (s : Shared) (u : Value), BindsTo s (PySem.W.fnOf "law" "law" (defArgs sLaw) (defBody sLaw) (defScope sLaw) dV kV doc pm an (.ref cc) ct) ⟨[u], []⟩ [("script", u)])
    (L : LawFs P w K mg base C CP CL CT CD cl8 fF fL fA fdF fdL fdA) (TB : TabB base mg cc PP) (hr13 : Room 13 callerA) (e0 : Env0 P w K mg base callerA [] s H) (hT : H PP = some (.tbl #[])) (hS : SqL K H a (ns.map V.int)) (hlen : ns.length ≤ 63) :
    codeAny (model P w) callerA (.call (.ref fa) ⟨[.ref a], []⟩) (CR CX0 [] P w H s (fun v _ => v = .bl true) E0) s := by
  refine run_ofS (N := nLaw) (ps := ["script"]) (us := [.ref a]) (vs := [.ref a]) lk hcd scLaw hr13 e0 (hb s (.ref a)) (.cons rfl .nil) rfl fun hr => ?_
  have nd := scLaw.nd
  have hu64 : (callerA.deeper (envOfC "law" (defScope sLaw) s.heap.objs.size fa (.ref cc))).units + 64 < cLine := by
    have := hr.un
    omega
  have T := L.tx
  have en := L.en
  obtain ⟨fB, fdB, GB, mB, kB, bB⟩ := L.B.ex
  obtain ⟨fN, fdN, GN, mN, kN, bN⟩ := L.N.ex
  obtain ⟨fK, fdK, GK, mK, kK, bK⟩ := L.K'.ex
  obtain ⟨fP, fdP, GP, mP, kP, bP⟩ := L.P'.ex
  obtain ⟨fU, fdU, GU, mU, kU, bU⟩ := L.NP.ex
  obtain ⟨fX, fdX, GX, mX, kX, bX⟩ := L.NB.ex
  obtain ⟨mvF, bF⟩ := fi_binds L.FF
  obtain ⟨mvL, bL⟩ := lo_binds3 L.FL
  obtain ⟨mvA, bA⟩ := la_binds L.FA
  have kF := L.FF.kp
  have kL := L.FL.kp
  have kA := L.FA.kp
  have GF := L.GF
  have GL := L.GL
  have GA := L.GA
  have mF := L.mF
  have mL := L.mL
  have mA := L.mA
  obtain ⟨fR, fdR, FR, mR, bR⟩ := L.R.ex
  have kR := FR.kp
  obtain ⟨ocR, odR, kVR, docR, pmR, anR, cdR, ctR, oslR, rfl, lkR, hcR⟩ := FR.ex
  have hG : GivesR (xLaw P w K mg base fa cc s H) 11 nSd "_law_said" (defScope sSd) fR cdR (defBody sSd) "work" (lamQ (xLaw P w K mg base fa cc s H)) (TSaid C CP CL CT) := said_gives (k := 10) L.cl L.tx2 L.no L.t0 L.t1 L.t2 L.t3
  refine ⟨_, PSs.nox (pss_cons (ps_for PassesOwn.never rfl (pi_enumG (by rfl) en (pa_cons (pe_slice sl_list (pe_orT (pv 0) (pe_one (pe_lst (pa_cons pe_int pa_nil)))) po_none (po_some pe_int)) pa_nil)) (pg_tup rfl (pgs_cons (pg_name (i := 1) nd rfl (Or.inl rfl)) (pgs_cons (pg_name (i := 2) nd rfl (Or.inl rfl)) pgs_nil)))
        (C8.pss_cut (ps_set (i := 3) nd rfl (.inr rfl) (pe_call GB hr (by rfl) mB kB bB .nil pass0 (pa_cons (pv 2) (pa_cons (pv 1) pa_nil))))
        (C8.pss_cut (ps_setLc (i := 4) (own := [("turn", 5)]) (g := gName 5) (tt := tYes) (by rfl) nd rfl rfl (sw_true rfl rfl rfl (by decide +kernel)) (pi_range1 rfl T.range (pa_cons pe_int pa_nil)) (blkOk_by (N := nLaw) (sc := defScope sLaw) (by decide +kernel)) (fun _ _ _ _ _ => pg_name (i := 5) nd rfl (Or.inl rfl)) (fun _ _ _ _ _ => pts_nil) (fun _ _ _ _ _ => pe_cmpR op_eq (pe_call GN hr (by rfl) mN kN bN .nil pass0 (pa_cons (pv 3) (pa_cons pe_int pa_nil))) pe_int (nomark _)))
        (C8.pss_cut (ps_set (i := 6) nd rfl (.inl rfl) (pe_call GP hr (by rfl) mP kP bP .nil pass0 (pa_cons (pv 3) pa_nil)))
        (C8.pss_cut (ps_set (i := 7) nd rfl (.inl rfl) (pe_call GK hr (by rfl) mK kK bK .nil pass0 (pa_cons (pv 3) (pa_cons (pe_lst (pa_cons pe_int (pa_cons (pe_un un_neg pe_int) (pa_cons pe_int (pa_cons (pe_op op_pow pe_int pe_int) (pa_cons pe_non (pa_cons pe_str (pa_cons pe_bl (pa_cons (pe_tup (pa_cons pe_int pa_nil)) (pa_cons (pe_lst (pa_cons pe_int pa_nil)) (pa_cons (pe_op op_mul pe_int pe_int) pa_nil))))))))))) pa_nil))))
        (C8.pss_cut (ps_set (i := 8) nd rfl (.inr rfl) (pe_ifExp (pt_val (pe_ix (r := rIxL K) ix_list (pv 4) pe_int (fun _ _ => rfl))) (pe_call GU hr (by rfl) mU kU bU .nil pass0 (pa_cons (pv 3) (pa_cons (pv 6) pa_nil))) (pv 6)))
        (C8.pss_cut (ps_set (i := 9) nd rfl (.inr rfl) (pe_ifExp (pt_val (pe_ix (r := rIxL K) ix_list (pv 4) pe_int (fun _ _ => rfl))) (pe_call GX hr (by rfl) mX kX bX .nil pass0 (pa_cons (pv 3) (pa_cons (pv 6) pa_nil))) (pe_tup (pa_cons pe_int (pa_cons pe_int (pa_cons pe_int (pa_cons (pe_callB call_len_str (by rfl) T.len PySem.boot_len (pa_cons (pe_ix (r := rIxT K) ix_tup (pv 6) pe_int (fun _ _ => rfl)) pa_nil)) pa_nil)))))))
        (C8.pss_cut (ps_set (i := 10) nd rfl (.inl rfl) (pe_ifExp (pt_val (pe_ix (r := rIxL K) ix_list (pv 4) pe_int (fun _ _ => rfl))) pe_str (pe_ifExp (pt_val (pe_ix (r := rIxL K) ix_list (pv 4) pe_int (fun _ _ => rfl))) (pe_tup (pa_cons pe_str (pa_cons pe_int pa_nil))) pe_str)))
        (C8.pss_cut (ps_asg (pe_ifExp (pt_val (pe_ix (r := rIxL K) ix_list (pv 4) pe_int (fun _ _ => rfl))) (pe_call GK hr (by rfl) mK kK bK .nil pass0 (pa_cons (pv 3) (pa_cons (pe_lst (pa_cons (pe_tup (pa_cons (pv 7) (pa_cons pe_int pa_nil))) (pa_cons (pe_tup (pa_cons pe_int (pa_cons (pv 7) pa_nil))) pa_nil))) pa_nil))) (pe_tup (pa_cons pe_int (pa_cons pe_int pa_nil)))) (pg_tup rfl (pgs_cons (pg_name (i := 11) nd rfl (Or.inr rfl)) (pgs_cons (pg_name (i := 12) nd rfl (Or.inr rfl)) pgs_nil))))
        (C8.pss_cut (ps_if (pt_cmpR (op_neD hu64) (pe_lamcallR (k := 10) (T := [(PP, lamQ (xLaw P w K mg base fa cc s H))]) (TT := TSaid C CP CL CT) (by rfl) mR kR lkR hcR bR scSd rfl (.inl rfl) hG TB rfl (List.mem_singleton.mpr rfl) (fun p hp _ => by rw [List.mem_singleton.mp hp]) hr (lamS_by (show lamSB (defScope sLaw) (lamSc 8) = true by decide +kernel)) rfl (fun _ _ _ _ _ => rfl) (fun A outer s H E f c hr => pe_callN GF hr (by rfl) mF kF bF (passE (takes_of rfl rfl rfl rfl)) (pa_cons (pv 8) pa_nil) (pk_cons (pv 11) (pk_cons (pv 12) pk_nil)))) (pv 10) (nomark _)) (pss_one (ps_ret pe_bl)) pss_nil)
        (C8.pss_cut (ps_set (i := 10) nd rfl (.inl rfl) (pe_ifExp (PW.pt (pw_and (pt_val (pe_ix (r := rIxL K) ix_list (pv 4) pe_int (fun _ _ => rfl))) (pw_and1 (pt_not (pt_val (pe_ix (r := rIxL K) ix_list (pv 4) pe_int (fun _ _ => rfl))))))) pe_str (pv 10)))
        (C8.pss_cut (ps_set (i := 13) nd rfl (.inl rfl) (pe_lst (pa_cons (pe_lst (pa_cons (pv 7) (pa_cons pe_int (pa_cons pe_int pa_nil)))) (pa_cons (pe_lst (pa_cons pe_int (pa_cons (pe_call GK hr (by rfl) mK kK bK .nil pass0 (pa_cons (pv 3) (pa_cons (pe_lst (pa_cons pe_int (pa_cons pe_int (pa_cons pe_int (pa_cons (pv 7) pa_nil))))) pa_nil))) (pa_cons pe_int pa_nil)))) pa_nil))))
        (C8.pss_cut (ps_expr (pe_bm PySem.F.plainAttrs_list PySem.F.slot_list_append PySem.F.type_list_append mt_append (pv 13) (pa_cons (pe_lst (pa_cons pe_int (pa_cons pe_int (pa_cons (pe_call GK hr (by rfl) mK kK bK .nil pass0 (pa_cons (pv 3) (pa_cons (pe_lst (pa_cons pe_int (pa_cons pe_int (pa_cons (pe_ifExp (pt_cmpR (op_neD hu64) (pv 7) pe_int (nomark _)) (pv 7) pe_int) pa_nil)))) pa_nil))) pa_nil)))) pa_nil)))
        (C8.pss_cut (ps_asg (pe_ifExp (pt_val (pe_ix (r := rIxL K) ix_list (pv 4) pe_int (fun _ _ => rfl))) (pe_call GK hr (by rfl) mK kK bK .nil pass0 (pa_cons (pv 3) (pa_cons (pv 13) pa_nil))) (pe_lst (pa_cons pe_int (pa_cons pe_int (pa_cons pe_int pa_nil))))) (pg_lst rfl (pgs_cons (pg_name (i := 14) nd rfl (Or.inr rfl)) (pgs_cons (pg_name (i := 15) nd rfl (Or.inr rfl)) (pgs_cons (pg_name (i := 16) nd rfl (Or.inr rfl)) pgs_nil)))))
        (C8.pss_cut (ps_if (pt_cmpR (op_neD hu64) (pe_lamcallR (k := 10) (T := [(PP, lamQ (xLaw P w K mg base fa cc s H))]) (TT := TSaid C CP CL CT) (by rfl) mR kR lkR hcR bR scSd rfl (.inl rfl) hG TB rfl (List.mem_singleton.mpr rfl) (fun p hp _ => by rw [List.mem_singleton.mp hp]) hr (lamS_by (show lamSB (defScope sLaw) (lamSc 13) = true by decide +kernel)) rfl (fun _ _ _ _ _ => rfl) (fun A outer s H E f c hr => pe_callN GL hr (by rfl) mL kL bL (passE (takes_of rfl rfl rfl rfl)) (pa_cons (pv 8) (pa_cons (pv 9) pa_nil)) (pk_cons (pv 14) (pk_cons (pv 15) (pk_cons (pv 16) pk_nil))))) (pv 10) (nomark _)) (pss_one (ps_ret pe_bl)) pss_nil)
        (C8.pss_cut (ps_if (PW.pt (pw_and (pt_cmpR (op_eqD hu64) (pv 10) pe_str (nomark _)) (pw_and1 (pt_cmpR op_notIn_sign pe_str (pe_ix (r := rIxT K) ix_tup (pv 6) pe_int (fun _ _ => rfl)) (by with_unfolding_all rfl))))) (pss_one (ps_set (i := 10) nd rfl (.inl rfl) pe_str)) pss_nil)
        (C8.pss_cut (ps_asg (pe_tup (pa_cons pe_int (pa_cons pe_int pa_nil))) (pg_tup rfl (pgs_cons (pg_name (i := 14) nd rfl (Or.inr rfl)) (pgs_cons (pg_name (i := 16) nd rfl (Or.inr rfl)) pgs_nil))))
        (C8.pss_cut (ps_if (pt_val (pe_ix (r := rIxL K) ix_list (pv 4) pe_int (fun _ _ => rfl))) (pss_one (ps_asg (pe_call GK hr (by rfl) mK kK bK .nil pass0 (pa_cons (pv 3) (pa_cons (pe_lst (pa_cons (pe_tup (pa_cons pe_int (pa_cons pe_int pa_nil))) (pa_cons (pe_tup (pa_cons (pe_un un_neg pe_int) (pa_cons pe_int pa_nil))) (pa_cons (pe_tup (pa_cons pe_int (pa_cons pe_int pa_nil))) (pa_cons (pe_tup (pa_cons pe_int (pa_cons pe_int pa_nil))) (pa_cons (pe_tup (pa_cons (pe_op op_pow pe_int pe_int) (pa_cons pe_int pa_nil))) (pa_cons (pe_tup (pa_cons pe_int (pa_cons pe_int pa_nil))) (pa_cons (pe_tup (pa_cons pe_int (pa_cons (pe_un un_neg pe_int) pa_nil))) pa_nil)))))))) pa_nil))) (pg_tup rfl (pgs_cons (pg_name (i := 14) nd rfl (Or.inr rfl)) (pgs_cons (pg_name (i := 16) nd rfl (Or.inr rfl)) pgs_nil))))) pss_nil)
        (C8.pss_cut (ps_set (i := 10) nd rfl (.inl rfl) (pe_ifExp (pt_cmpR (op_eqD hu64) (pv 10) (pe_tup (pa_cons pe_str (pa_cons pe_int pa_nil))) (nomark _)) pe_str (pv 10)))
        (pss_one (ps_if (pt_cmpR (op_neD hu64) (pe_lamcallR (k := 10) (T := [(PP, lamQ (xLaw P w K mg base fa cc s H))]) (TT := TSaid C CP CL CT) (by rfl) mR kR lkR hcR bR scSd rfl (.inl rfl) hG TB rfl (List.mem_singleton.mpr rfl) (fun p hp _ => by rw [List.mem_singleton.mp hp]) hr (lamS_by (show lamSB (defScope sLaw) (lamSc 18) = true by decide +kernel)) rfl (fun _ _ _ _ _ => rfl) (fun A outer s H E f c hr => pe_callN GA hr (by rfl) mA kA bA (passE (takes_of rfl rfl rfl rfl)) (pa_cons (pv 8) (pa_cons (pv 9) pa_nil)) (pk_cons (pv 14) (pk_cons (pv 16) pk_nil)))) (pv 10) (nomark _)) (pss_one (ps_ret pe_bl)) pss_nil)))))))))))))))))))))
      (pss_one (ps_ret pe_bl))), ?_⟩
  have hTb : Tabs [(PP, lamQ (xLaw P w K mg base fa cc s H))] H := fun p hp => by
    rw [List.mem_singleton.mp hp]
    exact TabS.nil hT
  generalize hTT : [(PP, lamQ (xLaw P w K mg base fa cc s H))] = TL at hTb ⊢
  refine or_by (a := a) (ns := ns) (fun R r => ⟨.ref a, rfl, r⟩) hS hlen (fun R r => ⟨by show 1 ≤ sizeLine; decide, fun l hl => r l hl⟩) fun H1 l0 ms s1 hq hm => ?_
  refine ⟨6, rfl, l0, _, rfl, hq, fun lc hlc => ?_⟩
  have scut : cutV (ms.map V.int) none (some 6) = (ms.take 6).map V.int := by
    rw [List.map_take]
    exact StXcut _ 6
  have hlc1 : (upd H1 lc (.lst (cutV (ms.map V.int) none (some 6)))) lc = some (.lst ((ms.take 6).map V.int)) := by rw [upd_same, scut]
  have TB' : Tabs TL (upd H1 lc (.lst (cutV (ms.map V.int) none (some 6)))) := (hTb.ext s1).ext (same_upd hlc)
  generalize upd H1 lc (.lst (cutV (ms.map V.int) none (some 6))) = HB at hlc1 TB' ⊢
  generalize hcs : (ms.take 6).map V.int = cs at hlc1
  refine ⟨.lst lc, cs, rfl, SqL.of hlc1, for_enumG (K := K) (A := .lst lc) (xs := cs) (fun i σ H2 => ∃ y1 y2 y3 y4 y5 y6 y7 y8 y9 y10 y11 y12 y13 y14 y15 y16, σ = [some (.ref a), y1, y2, y3, y4, y5, y6, y7, y8, y9, y10, y11, y12, y13, y14, y15, y16] ∧ H2 lc = some (.lst cs) ∧ Tabs TL H2) ⟨none, none, none, none, none, none, none, none, none, none, none, none, none, none, none, none, rfl, hlc1, TB'⟩ (fun i σ H2 _ z => by
    obtain ⟨_, _, _, _, _, _, _, _, _, _, _, _, _, _, _, _, _, hl, _⟩ := z
    exact SqL.of hl) ?_ ?_⟩
  · rintro kk x σ H2 T' hx ⟨y1, y2, y3, y4, y5, y6, y7, y8, y9, y10, y11, y12, y13, y14, y15, y16, rfl, hl2, T2⟩ hT'
    rw [← hcs] at hx
    have hkk : kk < 6 := by
      have := (List.getElem?_eq_some_iff.mp hx).1
      rw [List.length_map, List.length_take] at this
      omega
    obtain ⟨cell, _, rfl⟩ := map_at2 hx
    refine ⟨T', _, rfl, SqT.of upd_same, rfl, _, _, rfl, _, _, rfl, rfl, ?_⟩
    have sT := same_upd (o := .tup [V.int (kk : Nat), V.int cell]) hT'
    have hl3 := sT _ _ hl2
    have T3 := T2.ext sT
    generalize upd H2 T' (.tup [V.int (kk : Nat), V.int cell]) = H3 at hl3 T3
    -- the drawing list
    refine ⟨fun σ' H' => ∃ d, σ' = [some (.ref a), some (.int (kk : Nat)), some (.int cell), some (.ref d), y4, y5, y6, y7, y8, y9, y10, y11, y12, y13, y14, y15, y16] ∧ Du H' d 0 ∧ Tabs TL H' ∧ H' lc = some (.lst cs) ∧ lc ≠ d, ?_, ?_⟩
    · exact ⟨.int cell, rfl, .int kk, rfl, cell, kk, rfl, by omega, by omega, fun d H4 nd4 s4 D4 => ⟨d, rfl, D4, T3.ext s4, s4 _ _ hl3, ne_of_none hl3 nd4⟩⟩
    rintro _ H4 ⟨d, rfl, D4, T4, hl4, nlc⟩
    -- what is wrong
    refine ⟨fun σ' H' => ∃ (wl : Addr) (bs : List Bool), σ' = [some (.ref a), some (.int (kk : Nat)), some (.int cell), some (.ref d), some (.ref wl), y5, y6, y7, y8, y9, y10, y11, y12, y13, y14, y15, y16] ∧ Du H' d 3 ∧ Tabs TL H' ∧ H' lc = some (.lst cs) ∧ wl ≠ d ∧ H' wl = some (.lst (bs.map V.bl)) ∧ bs.length = 3, ?_, ?_⟩
    · refine ⟨3, rfl, by decide, by decide, fun Dl hDl => lc_range (lo := 0) (n := 3) (fun i H5 => ∃ bs : List Bool, H5 Dl = some (.lst (bs.map V.bl)) ∧ bs.length = i ∧ Du H5 d i ∧ Tabs TL H5 ∧ H5 lc = some (.lst cs)) ⟨[], upd_same, rfl, D4.same (same_upd hDl), T4.ext (same_upd hDl), same_upd hDl _ _ hl4⟩ ?_ ?_⟩
      · rintro i H5 hi ⟨bs, h5, lb, D5, T5, hl5⟩
        have nDd : Dl ≠ d := D4.new hDl
        have nDl : lc ≠ Dl := ne_of_none hl4 hDl
        refine ⟨rfl, .ref d, rfl, d, 3, i, rfl, D5, (by show i ≤ 1000000000000; omega), by decide, by decide, fun m H6 m0 m1 D6 dn6 => ⟨rfl, bs.map V.bl, dn6 _ _ h5 nDd, ?_, bs ++ [decide (V.int m = V.int 0)], ?_, by rw [List.length_append, lb]; rfl, D6.upd nDd, tabs_updl (tabs_do T5 D5 dn6) (dn6 _ _ h5 nDd), ?_⟩⟩
        · rw [List.length_map]
          exact small1000 (by omega)
        · rw [upd_same, List.map_append]
          rfl
        · rw [upd_ne nDl]
          exact dn6 _ _ hl5 nlc
      · rintro H5 ⟨bs, h5, lb, D5, T5, hl5⟩
        exact ⟨Dl, bs, rfl, D5, T5, hl5, D4.new hDl, h5, lb⟩
    rintro _ H5 ⟨wl, bs, rfl, D5, T5, hl5, nwl, hwl, lb⟩
    obtain ⟨w0, w1, w2, rfl⟩ : ∃ w0 w1 w2, bs = [w0, w1, w2] := by
      match bs, lb with
      | [x, y, z], _ => exact ⟨x, y, z, rfl⟩
    -- the page
    refine ⟨fun σ' H' => ∃ (pg : Addr) (high wide : Nat) (rs : List (List Nat)), σ' = [some (.ref a), some (.int (kk : Nat)), some (.int cell), some (.ref d), some (.ref wl), y5, some (.ref pg), y7, y8, y9, y10, y11, y12, y13, y14, y15, y16] ∧ PicR high wide rs ∧ high ≤ 30 ∧ wide ≤ 50 ∧ H' pg = some (.tup (rs.map rv)) ∧ Du H' d 20003 ∧ Tabs TL H' ∧ H' lc = some (.lst cs) ∧ H' wl = some (.lst [.bl w0, .bl w1, .bl w2]), ?_, ?_⟩
    · exact ⟨.ref d, rfl, d, 3, rfl, D5, (by show _ ≤ 1000000000000; decide), fun pa high wide rs H7 pr h1 w1 np hpa D7 dn7 => ⟨pa, high, wide, rs, rfl, pr, h1, w1, hpa, D7, tabs_do T5 D5 dn7, dn7 _ _ hl5 nlc, dn7 _ _ hwl nwl⟩⟩
    rintro _ H6 ⟨pg, high, wide, rs, rfl, pr, hi30, wi50, hpg, D6, T6, hl6, hwl6⟩
    have hh0 := pr.h0
    have hw0 := pr.w0
    have h0' : 0 < rs.length := by rw [pr.len]; omega
    have er0 : rs[0]? = some rs[0] := List.getElem?_eq_getElem h0'
    have lr0 := (pr.row _ (List.getElem_mem h0')).len
    generalize rs[0] = r0 at er0 lr0
    have ix0 : atI (rs.map rv) 0 = some (rv r0) := atI_nat (j := 0) (by rw [List.getElem?_map, er0]; rfl)
    have lS : (S r0).length = wide := by rw [SX.S_len, lr0]
    have lz : (S r0).length ≤ sizeLine := by rw [lS]; exact Nat.le_of_lt (small1000 (by omega))
    -- an odd number
    refine ⟨fun σ' H' => ∃ odd, σ' = [some (.ref a), some (.int (kk : Nat)), some (.int cell), some (.ref d), some (.ref wl), y5, some (.ref pg), some odd, y8, y9, y10, y11, y12, y13, y14, y15, y16] ∧ Ls TL d lc pg wl cs rs w0 w1 w2 odd 20004 H', ?_, ?_⟩
    · refine ⟨.ref d, rfl, 1, rfl, 10, 30, rfl, rfl, ⟨by decide, by decide, by decide⟩, by show 1 ≤ sizeLine; decide, fun t1 ht1 => ⟨by show 1 ≤ sizeLine; decide, fun t2 ht2 => ⟨2, 40, rfl, rfl, .inl ⟨by decide, by decide⟩, by show 10 ≤ sizeLine; decide, fun l hl => ?_⟩⟩⟩
      have e1 := same_upd (o := .lst [V.int 2]) ht2 _ _ (upd_same (H := H6) (a := t1) (o := .tup [V.int 2]))
      have n2d : t2 ≠ d := (D6.same (same_upd (o := .tup [V.int 2]) ht1)).new ht2
      have s2 := (same_upd (o := .tup [V.int 2]) ht1).trans (same_upd (o := .lst [V.int 2]) ht2)
      have e2 : (upd (upd H6 t1 (.tup [V.int 2])) t2 (.lst [V.int 2])) t2 = some (.lst [V.int 2]) := upd_same
      generalize upd (upd H6 t1 (.tup [V.int 2])) t2 (.lst [V.int 2]) = H7 at e1 e2 s2 hl ⊢
      generalize eL : ([V.int 0, V.int (-1), V.int 61, V.int (10 ^ Int.toNat 30), V.non, V.str "2", V.bl true, V.ref t1, V.ref t2, V.int (2 * 40)] : List V) = xs
      have sl := same_upd (o := .lst xs) hl
      have D7 := (D6.same s2).same sl
      have lxs : xs.length = 10 := by rw [← eL]; rfl
      refine ⟨d, .ref l, 20003, rfl, D7, (by show _ ≤ 1000000000000; decide), .inl ⟨l, xs, rfl, (D6.same s2).new hl, upd_same, by omega, by omega, fun j x H8 hx D8 dn8 => ?_⟩⟩
      have dn : Do d H6 H8 := (Do.same (s2.trans sl)).trans dn8
      have od : OddN d H8 x := by
        have hm := List.mem_of_getElem? hx
        rw [← eL] at hm
        simp only [List.mem_cons, List.not_mem_nil, or_false] at hm
        rcases hm with rfl | rfl | rfl | rfl | rfl | rfl | rfl | rfl | rfl | rfl
        · exact .inl ⟨0, rfl, .inl rfl⟩
        · exact .inl ⟨-1, rfl, .inr (.inl rfl)⟩
        · exact .inl ⟨61, rfl, .inr (.inr (.inl rfl))⟩
        · exact .inl ⟨10 ^ 30, rfl, .inr (.inr (.inr (.inl rfl)))⟩
        · exact .inr (.inl rfl)
        · exact .inr (.inr (.inl rfl))
        · exact .inr (.inr (.inr (.inl rfl)))
        · exact .inr (.inr (.inr (.inr (.inl ⟨t1, rfl, (Kp.of_do dn8).tup D7 (sl _ _ e1)⟩))))
        · exact .inr (.inr (.inr (.inr (.inr ⟨t2, rfl, n2d, dn8 _ _ (sl _ _ e2) n2d⟩))))
        · exact .inl ⟨80, rfl, .inr (.inr (.inr (.inr rfl)))⟩
      exact ⟨x, rfl, D8, tabs_do T6 D6 dn, dn _ _ hl6 nlc, nlc, (Kp.of_do dn).tup D6 hpg, dn _ _ hwl6 nwl, nwl, od⟩
    rintro _ H7 ⟨odd, rfl, L7⟩
    -- the page as it is handed in
    refine ⟨fun σ' H' => ∃ page, σ' = [some (.ref a), some (.int (kk : Nat)), some (.int cell), some (.ref d), some (.ref wl), y5, some (.ref pg), some odd, some page, y9, y10, y11, y12, y13, y14, y15, y16] ∧ Ls TL d lc pg wl cs rs w0 w1 w2 odd 20005 H' ∧ PgS K pg w0 page H', ?_, ?_⟩
    · refine ⟨.ref wl, rfl, wl, _, 0, .bl w0, rfl, rfl, SqL.of L7.hw, rfl, _, rfl, ?_⟩
      cases w0 with
      | true => exact iteT ⟨.ref d, rfl, .ref pg, rfl, d, pg, 20004, high, wide, rs, rfl, L7.D, (by show _ ≤ 1000000000000; decide), L7.hg, pr, wi50, fun x H8 ask D8 dn8 => ⟨x, rfl, L7.do' dn8 D8, .inl ⟨rfl, ask⟩⟩⟩
      | false => exact iteF ⟨.ref pg, rfl, .ref pg, rfl, ⟨L7.D.le (by decide), L7.T, L7.hl, L7.nl, L7.hg, L7.hw, L7.nw, L7.od⟩, .inr ⟨rfl, rfl⟩⟩
    rintro _ H8 ⟨page, rfl, L8, P8⟩
    -- the box
    refine ⟨fun σ' H' => ∃ box, σ' = [some (.ref a), some (.int (kk : Nat)), some (.int cell), some (.ref d), some (.ref wl), y5, some (.ref pg), some odd, some page, some box, y10, y11, y12, y13, y14, y15, y16] ∧ Ls TL d lc pg wl cs rs w0 w1 w2 odd 20006 H' ∧ PgS K pg w0 page H' ∧ BxS K high wide w1 box H', ?_, ?_⟩
    · refine ⟨.ref wl, rfl, wl, _, 1, .bl w1, rfl, rfl, SqL.of L8.hw, rfl, _, rfl, ?_⟩
      cases w1 with
      | true => exact iteT ⟨.ref d, rfl, .ref pg, rfl, d, pg, 20005, high, wide, rs, rfl, L8.D, (by show _ ≤ 1000000000000; decide), L8.hg, pr, fun x H9 bq D9 dn9 => ⟨x, rfl, L8.do' dn9 D9, P8.kp (.of_do dn9) L8.D D9, .inl ⟨rfl, bq⟩⟩⟩
      | false =>
        refine iteF ⟨.ref pg, rfl, pg, _, 0, rv r0, rfl, rfl, SqT.of L8.hg, ix0, S r0, rfl, lz, by show 4 ≤ sizeLine; decide, fun t ht => ?_⟩
        rw [lS]
        have st := same_upd (o := .tup [V.int 0, V.int 0, V.int 1, V.int (wide : Int)]) ht
        have L9 := L8.same st
        exact ⟨.ref t, rfl, ⟨L9.D.le (by decide), L9.T, L9.hl, L9.nl, L9.hg, L9.hw, L9.nw, L9.od⟩, P8.kp (.same st) L8.D L9.D, .inr ⟨rfl, t, rfl, upd_same⟩⟩
    rintro _ H9 ⟨box, rfl, L9, P9, B9⟩
    -- what is due
    generalize hc0 : (if w0 = true then 1 else if w2 = true then 4 else 0 : Nat) = c0
    refine ⟨fun σ' H' => ∃ due, σ' = [some (.ref a), some (.int (kk : Nat)), some (.int cell), some (.ref d), some (.ref wl), y5, some (.ref pg), some odd, some page, some box, some due, y11, y12, y13, y14, y15, y16] ∧ Ls TL d lc pg wl cs rs w0 w1 w2 odd 20006 H' ∧ PgS K pg w0 page H' ∧ BxS K high wide w1 box H' ∧ DueV H' due c0, ?_, ?_⟩
    · refine ⟨.ref wl, rfl, wl, _, 0, .bl w0, rfl, rfl, SqL.of L9.hw, rfl, _, rfl, ?_⟩
      cases w0 with
      | true => exact iteT ⟨.str "picture", rfl, L9, P9, B9, by rw [← hc0]; exact .inl ⟨by show 1 < 4; decide, rfl⟩⟩
      | false =>
        refine iteF ⟨.ref wl, rfl, wl, _, 2, .bl w2, rfl, rfl, SqL.of L9.hw, rfl, _, rfl, ?_⟩
        cases w2 with
        | true =>
          refine iteT ⟨by show 2 ≤ sizeLine; decide, fun t ht => ?_⟩
          have st := same_upd (o := .tup [V.str "many", V.int 60]) ht
          have LA := L9.same st
          exact ⟨.ref t, rfl, LA, P9.kp (.same st) L9.D LA.D, B9.kp (.same st) L9.D LA.D, by rw [← hc0]; exact .inr ⟨rfl, t, rfl, upd_same⟩⟩
        | false => exact iteF ⟨.str "told", rfl, L9, P9, B9, by rw [← hc0]; exact .inl ⟨by decide, rfl⟩⟩
    rintro _ HA ⟨due, rfl, LA, PA, BA, DA⟩
    have c04 : c0 ≤ 4 := by
      rw [← hc0]
      split
      · decide
      · split <;> decide
    -- the numbers for fields
    refine ⟨fun σ' H' => ∃ z1 z2, σ' = [some (.ref a), some (.int (kk : Nat)), some (.int cell), some (.ref d), some (.ref wl), y5, some (.ref pg), some odd, some page, some box, some due, some z1, some z2, y13, y14, y15, y16] ∧ Ls TL d lc pg wl cs rs w0 w1 w2 odd 20007 H' ∧ PgS K pg w0 page H' ∧ BxS K high wide w1 box H' ∧ DueV H' due c0 ∧ NmF w2 odd z1 z2, ?_, ?_⟩
    · refine ⟨.ref wl, rfl, wl, _, 2, .bl w2, rfl, rfl, SqL.of LA.hw, rfl, _, rfl, ?_⟩
      cases w2 with
      | true =>
        refine iteT ⟨.ref d, rfl, odd, rfl, by show 2 ≤ sizeLine; decide, fun t1 ht1 => ⟨odd, rfl, by show 2 ≤ sizeLine; decide, fun t2 ht2 => ⟨by show 2 ≤ sizeLine; decide, fun l hl => ?_⟩⟩⟩
        have e1 := same_upd (o := .tup [V.int 3, odd]) ht2 _ _ (upd_same (H := HA) (a := t1) (o := .tup [odd, V.int 3]))
        have s2 := (same_upd (o := .tup [odd, V.int 3]) ht1).trans (same_upd (o := .tup [V.int 3, odd]) ht2)
        have e2 : (upd (upd HA t1 (.tup [odd, V.int 3])) t2 (.tup [V.int 3, odd])) t2 = some (.tup [V.int 3, odd]) := upd_same
        generalize upd (upd HA t1 (.tup [odd, V.int 3])) t2 (.tup [V.int 3, odd]) = HB' at e1 e2 s2 hl ⊢
        have sl := same_upd (o := .lst [V.ref t1, V.ref t2]) hl
        have LB := (LA.same s2).same sl
        refine ⟨d, .ref l, 20006, rfl, LB.D, (by show _ ≤ 1000000000000; decide), .inl ⟨l, _, rfl, (LA.same s2).D.new hl, upd_same, (by show 0 < 2; decide), (by show 2 ≤ 1000; decide), fun j x H8 hx D8 dn8 => ?_⟩⟩
        have dn : Do d HA H8 := (Do.same (s2.trans sl)).trans dn8
        have LC := LA.do' dn D8
        have fin : ∀ (t : Addr) (z1 z2 : V), (upd HB' l (.lst [V.ref t1, V.ref t2])) t = some (.tup [z1, z2]) → H8 t = some (.tup [z1, z2]) := fun t z1 z2 h => (Kp.of_do dn8).tup LB.D h
        rcases j with _ | _ | j
        · cases hx
          exact ⟨t1, _, rfl, SqT.of (fin _ _ _ (sl _ _ e1)), rfl, _, _, rfl, _, _, rfl, rfl, odd, .int 3, rfl, LC, PA.kp (.of_do dn) LA.D D8, BA.kp (.of_do dn) LA.D D8, DA.kp (.of_do dn) LA.D, .inl ⟨rfl, .inl ⟨rfl, rfl⟩⟩⟩
        · cases hx
          exact ⟨t2, _, rfl, SqT.of (fin _ _ _ (sl _ _ e2)), rfl, _, _, rfl, _, _, rfl, rfl, .int 3, odd, rfl, LC, PA.kp (.of_do dn) LA.D D8, BA.kp (.of_do dn) LA.D D8, DA.kp (.of_do dn) LA.D, .inl ⟨rfl, .inr ⟨rfl, rfl⟩⟩⟩
        · cases hx
      | false =>
        refine iteF ⟨by show 2 ≤ sizeLine; decide, fun t ht => ?_⟩
        have st := same_upd (o := .tup [V.int 60, V.int 1]) ht
        have LB := LA.same st
        exact ⟨t, _, rfl, SqT.of upd_same, rfl, _, _, rfl, _, _, rfl, rfl, .int 60, .int 1, rfl, ⟨LB.D.le (by decide), LB.T, LB.hl, LB.nl, LB.hg, LB.hw, LB.nw, LB.od⟩, PA.kp (.same st) LA.D LB.D, BA.kp (.same st) LA.D LB.D, DA.kp (.same st) LA.D, .inr ⟨rfl, rfl, rfl⟩⟩
    rintro _ HC ⟨z1, z2, rfl, LC, PC, BC, DC, NC⟩
    -- fields
    refine ⟨fun σ' H' => σ' = [some (.ref a), some (.int (kk : Nat)), some (.int cell), some (.ref d), some (.ref wl), y5, some (.ref pg), some odd, some page, some box, some due, some z1, some z2, y13, y14, y15, y16] ∧ Ls TL d lc pg wl cs rs w0 w1 w2 odd 20007 H' ∧ PgS K pg w0 page H' ∧ BxS K high wide w1 box H' ∧ DueV H' due c0, ?_, ?_⟩
    · refine ⟨by first | exact LC.T | (rw [hTT]; exact LC.T), fun H1 ext T1 R hR => ?_⟩
      try rw [hTT] at T1
      have L1 := LC.ex ext T1
      have P1 := PC.kp (.ext ext) LC.D L1.D
      have B1 := BC.kp (.ext ext) LC.D L1.D
      have D1 := DC.kp (.ext ext) LC.D
      have k1 : Kt K H1 z1 ∧ Kt K H1 z2 := by
        rcases NC with ⟨_, ⟨rfl, rfl⟩ | ⟨rfl, rfl⟩⟩ | ⟨_, rfl, rfl⟩
        · exact ⟨L1.od.kt, kt_int _⟩
        · exact ⟨kt_int _, L1.od.kt⟩
        · exact ⟨kt_int _, kt_int _⟩
      have fin : ∀ H', Same H1 H' → Ls TL d lc pg wl cs rs w0 w1 w2 odd 20007 H' ∧ PgS K pg w0 page H' ∧ BxS K high wide w1 box H' ∧ DueV H' due c0 := fun H' s' => ⟨L1.same s', P1.kp (.same s') L1.D (L1.D.same s'), B1.kp (.same s') L1.D (L1.D.same s'), D1.kp (.same s') L1.D⟩
      refine ⟨page, rfl, z1, rfl, z2, rfl, rfl, rfl, page, z1, z2, rfl, k1.1, k1.2, ?_⟩
      rcases P1 with ⟨e0, ask⟩ | ⟨e0, e1⟩
      · have ec : c0 = 1 := by rw [← hc0, e0]; rfl
        refine .inl ⟨ask, fun H2 s2 => .inl ⟨C, 0, by simp, rfl, rfl, fun H3 s3 => ?_⟩⟩
        have dx : DueV H3 (.str "picture") c0 := by rw [ec]; exact .inl ⟨by decide, rfl⟩
        have f := fin H3 (s2.trans s3)
        exact ⟨due, rfl, _, _, dx.dp, f.2.2.2.dp, due_sh _, due_sh _, _, rfl, iteE (due_ne c04) ⟨rfl, f⟩⟩
      · refine .inr ⟨pg, high, wide, rs, e1, L1.hg, pr, ?_⟩
        rcases NC with ⟨e2, hz⟩ | ⟨e2, rfl, rfl⟩
        · have ec : c0 = 4 := by rw [← hc0, e0, e2]; rfl
          refine .inl ⟨?_, fun dd H2 s2 ndd hdd => .inr ⟨rfl, dd, rfl, hdd, fun t H3 s3 ht => ?_⟩⟩
          · rcases hz with ⟨rfl, rfl⟩ | ⟨rfl, rfl⟩
            · rw [L1.od.b (by decide) (by decide), Bool.false_and]
            · rw [L1.od.b (by decide) (by decide), Bool.and_false]
          · have dx : DueV H3 (.ref t) c0 := by rw [ec]; exact .inr ⟨rfl, t, rfl, ht⟩
            have f := fin H3 (s2.trans s3)
            exact ⟨due, rfl, _, _, dx.dp, f.2.2.2.dp, due_sh _, due_sh _, _, rfl, iteE (due_ne c04) ⟨rfl, f⟩⟩
        · have ec : c0 = 0 := by rw [← hc0, e0, e2]; rfl
          refine .inr ⟨60, 1, rfl, rfl, by decide, by decide, by decide, by decide, fun l H2 s2 => hR _ _ fun H3 s3 => ?_⟩
          have dx : DueV H3 (.str "told") c0 := by rw [ec]; exact .inl ⟨by decide, rfl⟩
          have f := fin H3 (s2.trans s3)
          exact ⟨due, rfl, _, _, dx.dp, f.2.2.2.dp, due_sh _, due_sh _, _, rfl, iteE (due_ne c04) ⟨rfl, f⟩⟩
    rintro _ HD ⟨rfl, LD, PD, BD, DD⟩
    -- what is due of the box
    generalize hc1 : (if (w1 && !w0) = true then 2 else c0 : Nat) = c1
    have c14 : c1 ≤ 4 := by
      rw [← hc1]
      split
      · decide
      · exact c04
    refine ⟨fun σ' H' => ∃ due, σ' = [some (.ref a), some (.int (kk : Nat)), some (.int cell), some (.ref d), some (.ref wl), y5, some (.ref pg), some odd, some page, some box, some due, some z1, some z2, y13, y14, y15, y16] ∧ Ls TL d lc pg wl cs rs w0 w1 w2 odd 20007 H' ∧ PgS K pg w0 page H' ∧ BxS K high wide w1 box H' ∧ DueV H' due c1, ?_, ?_⟩
    · refine ⟨.ref wl, rfl, wl, _, 1, .bl w1, rfl, rfl, SqL.of LD.hw, rfl, _, rfl, ?_⟩
      cases w1 with
      | false => exact iteF (iteF ⟨due, rfl, due, rfl, LD, PD, BD, by rw [← hc1]; exact DD⟩)
      | true =>
        refine iteT ⟨.ref wl, rfl, wl, _, 0, .bl w0, rfl, rfl, SqL.of LD.hw, rfl, _, rfl, ?_⟩
        cases w0 with
        | true => exact iteF ⟨due, rfl, due, rfl, LD, PD, BD, by rw [← hc1]; exact DD⟩
        | false => exact iteT ⟨.str "place", rfl, LD, PD, BD, by rw [← hc1]; exact .inl ⟨by show 2 < 4; decide, rfl⟩⟩
    clear DD
    rintro _ HE ⟨due, rfl, LE, PE', BE, DE⟩
    -- the numbers for lines_of
    refine ⟨fun σ' H' => ∃ (nl a1 a2 : Addr) (p : V), σ' = [some (.ref a), some (.int (kk : Nat)), some (.int cell), some (.ref d), some (.ref wl), y5, some (.ref pg), some odd, some page, some box, some due, some z1, some z2, some (.ref nl), y14, y15, y16] ∧ Ls TL d lc pg wl cs rs w0 w1 w2 odd 20008 H' ∧ PgS K pg w0 page H' ∧ BxS K high wide w1 box H' ∧ DueV H' due c1 ∧ nl ≠ d ∧ a1 ≠ d ∧ a2 ≠ d ∧ H' nl = some (.lst [.ref a1, .ref a2]) ∧ H' a1 = some (.lst [odd, .int 60, .int 0]) ∧ H' a2 = some (.lst [.int 3, p, .int 0]) ∧ Kt K H' p ∧ betw p 3 60 = false, ?_, ?_⟩
    · refine ⟨odd, rfl, by show 3 ≤ sizeLine; decide, fun a1 ha1 => ⟨.ref d, rfl, odd, rfl, by show 4 ≤ sizeLine; decide, fun l hl => ?_⟩⟩
      have sa := same_upd (o := .lst [odd, V.int 60, V.int 0]) ha1
      have n1 := LE.D.new ha1
      have ea : (upd HE a1 (.lst [odd, V.int 60, V.int 0])) a1 = some (.lst [odd, V.int 60, V.int 0]) := upd_same
      generalize upd HE a1 (.lst [odd, V.int 60, V.int 0]) = HE1 at sa ea hl ⊢
      have sl := same_upd (o := .lst [V.int 2, V.int 0, V.int 61, odd]) hl
      have LF := (LE.same sa).same sl
      refine ⟨d, .ref l, 20007, rfl, LF.D, (by show _ ≤ 1000000000000; decide), .inl ⟨l, _, rfl, (LE.same sa).D.new hl, upd_same, (by show 0 < 4; decide), (by show 4 ≤ 1000; decide), fun j x H8 hx D8 dn8 => ?_⟩⟩
      have dn : Do d HE H8 := (Do.same (sa.trans sl)).trans dn8
      have LG := LE.do' dn D8
      have ea8 := dn8 _ _ (sl _ _ ea) n1
      have px : Kt K H8 x ∧ betw x 3 60 = false := by
        have hm := List.mem_of_getElem? hx
        simp only [List.mem_cons, List.not_mem_nil, or_false] at hm
        rcases hm with rfl | rfl | rfl | rfl
        · exact ⟨kt_int _, by decide⟩
        · exact ⟨kt_int _, by decide⟩
        · exact ⟨kt_int _, by decide⟩
        · exact ⟨LG.od.kt, LG.od.b (by decide) (by decide)⟩
      refine ⟨by show 3 ≤ sizeLine; decide, fun a2 ha2 => ⟨by show 2 ≤ sizeLine; decide, fun nl hnl => ?_⟩⟩
      have s2 := same_upd (o := .lst [V.int 3, x, V.int 0]) ha2
      have s3 := s2.trans (same_upd (o := .lst [V.ref a1, V.ref a2]) hnl)
      have LH := LG.same s3
      have dn3 : Do d HE _ := dn.trans (Do.same s3)
      exact ⟨nl, a1, a2, x, rfl, LH, PE'.kp (.of_do dn3) LE.D LH.D, BE.kp (.of_do dn3) LE.D LH.D, DE.kp (.of_do dn3) LE.D, (LG.same s2).D.new hnl, n1, LG.D.new ha2, upd_same, s3 _ _ ea8, same_upd hnl _ _ upd_same, px.1.same s3, px.2⟩
    rintro _ HF ⟨nl, a1, a2, p, rfl, LF, PF, BF', DF, nnl, n1, n2, hnl, ha1, ha2, kp, bp⟩
    -- one more
    refine ⟨fun σ' H' => ∃ (a3 : Addr) (q : V), σ' = [some (.ref a), some (.int (kk : Nat)), some (.int cell), some (.ref d), some (.ref wl), y5, some (.ref pg), some odd, some page, some box, some due, some z1, some z2, some (.ref nl), y14, y15, y16] ∧ Ls TL d lc pg wl cs rs w0 w1 w2 odd 20009 H' ∧ PgS K pg w0 page H' ∧ BxS K high wide w1 box H' ∧ DueV H' due c1 ∧ a3 ≠ d ∧ H' nl = some (.lst [.ref a1, .ref a2, .ref a3]) ∧ H' a1 = some (.lst [odd, .int 60, .int 0]) ∧ H' a2 = some (.lst [.int 3, p, .int 0]) ∧ H' a3 = some (.lst [.int 3, .int 9, q]) ∧ Kt K H' p ∧ Kt K H' q ∧ betw q 0 2 = false, ?_, ?_⟩
    · have fin : ∀ (o4 : V), (o4 = .int 4 ∨ (o4 = odd ∧ betw odd 0 2 = false)) → ∀ H0', H0' = HF → (tCons (tLst (tCons (tC (.int 3)) (tCons (tC (.int 9)) (tCons (fun _ _ _ => True) tNil)))) tNil) = (tCons (tLst (tCons (tC (.int 3)) (tCons (tC (.int 9)) (tCons (fun _ _ _ => True) tNil)))) tNil) := fun _ _ _ _ => rfl
      clear fin
      obtain ⟨dt, dp, sd, eo⟩ := LF.od.dp (K := K)
      refine ⟨.ref nl, rfl, .inl ⟨rfl, _, SqL.of hnl⟩, .ref d, rfl, odd, rfl, dt, .int 0, dp, .int 0, sd, by decide +kernel, _, rfl, ?_⟩
      have bz : ∀ {H' : Hp}, OddN d H' odd → decide (odd = V.int 0) = false → betw odd 0 2 = false := fun o e => o.z (of_decide_eq_false e)
      rw [eo]
      cases eq0 : decide (odd = V.int 0) with
      | true =>
        refine iteF ?_
        refine ⟨by show 3 ≤ sizeLine; decide, fun l hl => ?_⟩
        have sl := same_upd (o := .lst [V.int 3, V.int 9, V.int 4]) hl
        have LX := LF.same sl
        refine ⟨d, .ref l, 20008, rfl, LX.D, (by show _ ≤ 1000000000000; decide), .inl ⟨l, _, rfl, LF.D.new hl, upd_same, (by show 0 < 3; decide), (by show 3 ≤ 1000; decide), fun j x H8 hx D8 dn8 => ?_⟩⟩
        have dn : Do d HF H8 := (Do.same sl).trans dn8
        have LY := LF.do' dn D8
        have px : Kt K H8 x ∧ betw x 0 2 = false := by
          have hm := List.mem_of_getElem? hx
          simp only [List.mem_cons, List.not_mem_nil, or_false] at hm
          rcases hm with rfl | rfl | rfl
          · exact ⟨kt_int _, by decide⟩
          · exact ⟨kt_int _, by decide⟩
          · exact ⟨kt_int _, by decide⟩
        refine ⟨by show 3 ≤ sizeLine; decide, fun a3 ha3 => ?_⟩
        have s3 := same_upd (o := .lst [V.int 3, V.int 9, x]) ha3
        have LZ := LY.same s3
        have hnl8 := s3 _ _ (dn _ _ hnl nnl)
        have n3l : a3 ≠ nl := (ne_of_none (dn _ _ hnl nnl) ha3).symm
        have dn3 : Do d HF _ := dn.trans (Do.same s3)
        have n1l : a1 ≠ nl := fun z => by
          rw [z, hnl] at ha1
          cases ha1
        have n2l : a2 ≠ nl := fun z => by
          rw [z, hnl] at ha2
          cases ha2
        refine ⟨nl, [.ref a1, .ref a2], .ref a3, rfl, rfl, hnl8, by show 2 < sizeLine; decide, ?_⟩
        have h93 : (upd H8 a3 (.lst [V.int 3, V.int 9, x])) a3 = some (.lst [V.int 3, V.int 9, x]) := upd_same
        have n3 := LY.D.new ha3
        generalize upd H8 a3 (.lst [V.int 3, V.int 9, x]) = H9 at s3 LZ hnl8 dn3 h93 ⊢
        have h91 := dn3 _ _ ha1 n1
        have h92 := dn3 _ _ ha2 n2
        have kw : Kp nl H9 (upd H9 nl (.lst [V.ref a1, V.ref a2, V.ref a3])) := fun b o e n _ => by
          rw [upd_ne n]
          exact e
        have il : IsL H9 nl := ⟨_, hnl8⟩
        have il' : IsL (upd H9 nl (.lst [V.ref a1, V.ref a2, V.ref a3])) nl := ⟨_, upd_same⟩
        have e2 : (upd H9 nl (.lst [V.ref a1, V.ref a2, V.ref a3])) nl = some (.lst [V.ref a1, V.ref a2, V.ref a3]) := upd_same
        have nlc2 : lc ≠ nl := ne_of LZ.hl hnl8 (by
          intro z
          injection z with z
          have hm : V.ref a1 ∈ cs := by
            rw [z]
            exact List.mem_cons_self
          rw [← hcs] at hm
          obtain ⟨_, _, e⟩ := List.mem_map.mp hm
          cases e)
        have nwl2 : wl ≠ nl := ne_of LZ.hw hnl8 (by intro z; cases z)
        have LW : Ls TL d lc pg wl cs rs w0 w1 w2 odd 20009 (upd H9 nl (.lst [V.ref a1, V.ref a2, V.ref a3])) := ⟨LZ.D.upd nnl, tabs_updl LZ.T hnl8, by rw [upd_ne nlc2]; exact LZ.hl, LZ.nl, kw.tupl il LZ.hg, by rw [upd_ne nwl2]; exact LZ.hw, LZ.nw, LZ.od.kl kw il (by rw [hnl8]; intro z; cases z)⟩
        exact ⟨a3, x, rfl, LW, (PF.kp (.of_do dn3) LF.D LZ.D).kl kw il il', (BF'.kp (.of_do dn3) LF.D LZ.D).kl kw il il', (DF.kp (.of_do dn3) LF.D).kl kw il, n3, e2, by rw [upd_ne n1l]; exact h91, by rw [upd_ne n2l]; exact h92, by rw [upd_ne n3l]; exact h93, (kp.kp (.of_do dn3) LF.D LZ.D).kl kw il il', (px.1.same s3).kl kw il il', px.2⟩
      | false =>
        refine iteT ⟨odd, rfl, ?_⟩
        refine ⟨by show 3 ≤ sizeLine; decide, fun l hl => ?_⟩
        have sl := same_upd (o := .lst [V.int 3, V.int 9, odd]) hl
        have LX := LF.same sl
        refine ⟨d, .ref l, 20008, rfl, LX.D, (by show _ ≤ 1000000000000; decide), .inl ⟨l, _, rfl, LF.D.new hl, upd_same, (by show 0 < 3; decide), (by show 3 ≤ 1000; decide), fun j x H8 hx D8 dn8 => ?_⟩⟩
        have dn : Do d HF H8 := (Do.same sl).trans dn8
        have LY := LF.do' dn D8
        have px : Kt K H8 x ∧ betw x 0 2 = false := by
          have hm := List.mem_of_getElem? hx
          simp only [List.mem_cons, List.not_mem_nil, or_false] at hm
          rcases hm with rfl | rfl | rfl
          · exact ⟨kt_int _, by decide⟩
          · exact ⟨kt_int _, by decide⟩
          · exact ⟨LY.od.kt, bz LY.od eq0⟩
        refine ⟨by show 3 ≤ sizeLine; decide, fun a3 ha3 => ?_⟩
        have s3 := same_upd (o := .lst [V.int 3, V.int 9, x]) ha3
        have LZ := LY.same s3
        have hnl8 := s3 _ _ (dn _ _ hnl nnl)
        have n3l : a3 ≠ nl := (ne_of_none (dn _ _ hnl nnl) ha3).symm
        have dn3 : Do d HF _ := dn.trans (Do.same s3)
        have n1l : a1 ≠ nl := fun z => by
          rw [z, hnl] at ha1
          cases ha1
        have n2l : a2 ≠ nl := fun z => by
          rw [z, hnl] at ha2
          cases ha2
        refine ⟨nl, [.ref a1, .ref a2], .ref a3, rfl, rfl, hnl8, by show 2 < sizeLine; decide, ?_⟩
        have h93 : (upd H8 a3 (.lst [V.int 3, V.int 9, x])) a3 = some (.lst [V.int 3, V.int 9, x]) := upd_same
        have n3 := LY.D.new ha3
        generalize upd H8 a3 (.lst [V.int 3, V.int 9, x]) = H9 at s3 LZ hnl8 dn3 h93 ⊢
        have h91 := dn3 _ _ ha1 n1
        have h92 := dn3 _ _ ha2 n2
        have kw : Kp nl H9 (upd H9 nl (.lst [V.ref a1, V.ref a2, V.ref a3])) := fun b o e n _ => by
          rw [upd_ne n]
          exact e
        have il : IsL H9 nl := ⟨_, hnl8⟩
        have il' : IsL (upd H9 nl (.lst [V.ref a1, V.ref a2, V.ref a3])) nl := ⟨_, upd_same⟩
        have e2 : (upd H9 nl (.lst [V.ref a1, V.ref a2, V.ref a3])) nl = some (.lst [V.ref a1, V.ref a2, V.ref a3]) := upd_same
        have nlc2 : lc ≠ nl := ne_of LZ.hl hnl8 (by
          intro z
          injection z with z
          have hm : V.ref a1 ∈ cs := by
            rw [z]
            exact List.mem_cons_self
          rw [← hcs] at hm
          obtain ⟨_, _, e⟩ := List.mem_map.mp hm
          cases e)
        have nwl2 : wl ≠ nl := ne_of LZ.hw hnl8 (by intro z; cases z)
        have LW : Ls TL d lc pg wl cs rs w0 w1 w2 odd 20009 (upd H9 nl (.lst [V.ref a1, V.ref a2, V.ref a3])) := ⟨LZ.D.upd nnl, tabs_updl LZ.T hnl8, by rw [upd_ne nlc2]; exact LZ.hl, LZ.nl, kw.tupl il LZ.hg, by rw [upd_ne nwl2]; exact LZ.hw, LZ.nw, LZ.od.kl kw il (by rw [hnl8]; intro z; cases z)⟩
        exact ⟨a3, x, rfl, LW, (PF.kp (.of_do dn3) LF.D LZ.D).kl kw il il', (BF'.kp (.of_do dn3) LF.D LZ.D).kl kw il il', (DF.kp (.of_do dn3) LF.D).kl kw il, n3, e2, by rw [upd_ne n1l]; exact h91, by rw [upd_ne n2l]; exact h92, by rw [upd_ne n3l]; exact h93, (kp.kp (.of_do dn3) LF.D LZ.D).kl kw il il', (px.1.same s3).kl kw il il', px.2⟩
    rintro _ HG ⟨a3, q, rfl, LG, PG, BG, DG, n3, hnl3, ha1, ha2, ha3, kp, kq, bq⟩
    -- tall, far, lead
    refine ⟨fun σ' H' => ∃ u1 u2 u3, σ' = [some (.ref a), some (.int (kk : Nat)), some (.int cell), some (.ref d), some (.ref wl), y5, some (.ref pg), some odd, some page, some box, some due, some z1, some z2, some (.ref nl), some u1, some u2, some u3] ∧ Ls TL d lc pg wl cs rs w0 w1 w2 odd 20010 H' ∧ PgS K pg w0 page H' ∧ BxS K high wide w1 box H' ∧ DueV H' due c1 ∧ NmL K w2 u1 u2 u3 H', ?_, ?_⟩
    · refine ⟨.ref wl, rfl, wl, _, 2, .bl w2, rfl, rfl, SqL.of LG.hw, rfl, _, rfl, ?_⟩
      cases w2 with
      | true =>
        refine iteT ⟨.ref d, rfl, .ref nl, rfl, d, .ref nl, 20009, rfl, LG.D, (by show _ ≤ 1000000000000; decide), .inl ⟨nl, _, rfl, nnl, hnl3, (by show 0 < 3; decide), (by show 3 ≤ 1000; decide), fun j x H8 hx D8 dn8 => ?_⟩⟩
        have LH := LG.do' dn8 D8
        have kpp := fun (x : V) (k : Kt K HG x) => k.kp (.of_do dn8) LG.D D8
        have rest : ∀ u1 u2 u3, NmL K true u1 u2 u3 H8 → _ := fun u1 u2 u3 h => (⟨LH, PG.kp (.of_do dn8) LG.D D8, BG.kp (.of_do dn8) LG.D D8, DG.kp (.of_do dn8) LG.D, h⟩ : Ls TL d lc pg wl cs rs w0 w1 true odd 20010 H8 ∧ PgS K pg w0 page H8 ∧ BxS K high wide w1 box H8 ∧ DueV H8 due c1 ∧ NmL K true u1 u2 u3 H8)
        have b39 : betw (.int 3) 1 9 = true := by decide
        have b93 : betw (.int 9) 3 60 = true := by decide
        rcases j with _ | _ | _ | j
        · cases hx
          exact ⟨a1, _, rfl, SqL.of (dn8 _ _ ha1 n1), rfl, _, _, rfl, _, _, rfl, _, _, rfl, rfl, odd, .int 60, .int 0, rfl, rest _ _ _ ⟨LH.od.kt, kt_int _, kt_int _, .inl ⟨rfl, .inl (LH.od.b (by decide) (by decide))⟩⟩⟩
        · cases hx
          exact ⟨a2, _, rfl, SqL.of (dn8 _ _ ha2 n2), rfl, _, _, rfl, _, _, rfl, _, _, rfl, rfl, .int 3, p, .int 0, rfl, rest _ _ _ ⟨kt_int _, kpp _ kp, kt_int _, .inl ⟨rfl, .inr (.inl ⟨3, rfl, b39, bp⟩)⟩⟩⟩
        · cases hx
          exact ⟨a3, _, rfl, SqL.of (dn8 _ _ ha3 n3), rfl, _, _, rfl, _, _, rfl, _, _, rfl, rfl, .int 3, .int 9, q, rfl, rest _ _ _ ⟨kt_int _, kt_int _, kpp _ kq, .inl ⟨rfl, .inr (.inr ⟨3, rfl, b39, b93, bq⟩)⟩⟩⟩
        · cases hx
      | false =>
        refine iteF ⟨by show 3 ≤ sizeLine; decide, fun t ht => ?_⟩
        have st := same_upd (o := .lst [V.int 9, V.int 60, V.int 8]) ht
        have LH := LG.same st
        exact ⟨t, _, rfl, SqL.of upd_same, rfl, _, _, rfl, _, _, rfl, _, _, rfl, rfl, .int 9, .int 60, .int 8, rfl, ⟨LH.D.le (by decide), LH.T, LH.hl, LH.nl, LH.hg, LH.hw, LH.nw, LH.od⟩, PG.kp (.same st) LG.D LH.D, BG.kp (.same st) LG.D LH.D, DG.kp (.same st) LG.D, kt_int _, kt_int _, kt_int _, .inr ⟨rfl, rfl, rfl, rfl⟩⟩
    rintro _ HH ⟨u1, u2, u3, rfl, LH, PH, BH, DH, NH⟩
    -- lines_of
    refine ⟨fun σ' H' => σ' = [some (.ref a), some (.int (kk : Nat)), some (.int cell), some (.ref d), some (.ref wl), y5, some (.ref pg), some odd, some page, some box, some due, some z1, some z2, some (.ref nl), some u1, some u2, some u3] ∧ Ls TL d lc pg wl cs rs w0 w1 w2 odd 20010 H' ∧ PgS K pg w0 page H' ∧ BxS K high wide w1 box H' ∧ DueV H' due c1, ?_, ?_⟩
    · refine ⟨by first | exact LH.T | (rw [hTT]; exact LH.T), fun H1 ext T1 R hR => ?_⟩
      try rw [hTT] at T1
      have L1 := LH.ex ext T1
      have P1 := PH.kp (.ext ext) LH.D L1.D
      have B1 := BH.kp (.ext ext) LH.D L1.D
      have D1 := DH.kp (.ext ext) LH.D
      obtain ⟨k1, k2, k3, hz⟩ := NH.kp (.ext ext) LH.D L1.D
      have fin : ∀ H', Same H1 H' → Ls TL d lc pg wl cs rs w0 w1 w2 odd 20010 H' ∧ PgS K pg w0 page H' ∧ BxS K high wide w1 box H' ∧ DueV H' due c1 := fun H' s' => ⟨L1.same s', P1.kp (.same s') L1.D (L1.D.same s'), B1.kp (.same s') L1.D (L1.D.same s'), D1.kp (.same s') L1.D⟩
      refine ⟨page, rfl, box, rfl, u1, rfl, u2, rfl, u3, rfl, rfl, rfl, page, box, u1, u2, u3, rfl, k1, k2, k3, ?_⟩
      rcases P1 with ⟨e0, ask⟩ | ⟨e0, e1⟩
      · have ec : c1 = 1 := by rw [← hc1, ← hc0, e0]; cases w1 <;> rfl
        refine .inl ⟨ask, fun H2 s2 => .inl ⟨C, 0, by simp, rfl, rfl, fun H3 s3 => ?_⟩⟩
        have dx : DueV H3 (.str "picture") c1 := by rw [ec]; exact .inl ⟨by decide, rfl⟩
        have f := fin H3 (s2.trans s3)
        exact ⟨due, rfl, _, _, dx.dp, f.2.2.2.dp, due_sh _, due_sh _, _, rfl, iteE (due_ne c14) ⟨rfl, f⟩⟩
      rcases B1 with ⟨eb, bq⟩ | ⟨eb, t, e2, ht⟩
      · have ec : c1 = 2 := by rw [← hc1, e0, eb]; rfl
        refine .inr ⟨pg, high, wide, rs, false, e1, L1.hg, pr, bq, .inl ⟨rfl, fun H2 s2 => .inl ⟨CP, 1, by simp, rfl, rfl, fun H3 s3 => ?_⟩⟩⟩
        have dx : DueV H3 (.str "place") c1 := by rw [ec]; exact .inl ⟨by decide, rfl⟩
        have f := fin H3 (s2.trans s3)
        exact ⟨due, rfl, _, _, dx.dp, f.2.2.2.dp, due_sh _, due_sh _, _, rfl, iteE (due_ne c14) ⟨rfl, f⟩⟩
      have bq : BoxQ K H1 high wide box true := .inr (.inr ⟨t, .int 0, .int 0, .int 1, .int wide, e2, SqT.of ht, kt_int _, kt_int _, kt_int _, kt_int _, by
        have a1 : strB (.int 0) (.int 1) high = true := strB_of (t := 0) (m := 1) (by decide) (by omega)
        have a2 : strB (.int 0) (.int wide) wide = true := strB_of (t := 0) (m := wide) (by omega) (by omega)
        rw [a1, a2]
        rfl⟩)
      refine .inr ⟨pg, high, wide, rs, true, e1, L1.hg, pr, bq, .inr ⟨rfl, ?_⟩⟩
      rcases hz with ⟨e3, bad⟩ | ⟨e3, rfl, rfl, rfl⟩
      · have ec : c1 = 4 := by rw [← hc1, ← hc0, e0, eb, e3]; rfl
        refine .inl ⟨bad, fun dd H2 s2 ndd hdd => .inr ⟨rfl, dd, rfl, hdd, fun t H3 s3 ht => ?_⟩⟩
        have dx : DueV H3 (.ref t) c1 := by rw [ec]; exact .inr ⟨rfl, t, rfl, ht⟩
        have f := fin H3 (s2.trans s3)
        exact ⟨due, rfl, _, _, dx.dp, f.2.2.2.dp, due_sh _, due_sh _, _, rfl, iteE (due_ne c14) ⟨rfl, f⟩⟩
      · have ec : c1 = 0 := by rw [← hc1, ← hc0, e0, eb, e3]; rfl
        refine .inr ⟨t, 0, 0, 1, wide, 9, 60, 8, e2, rfl, rfl, rfl, ht, ⟨by omega, by omega, by decide, hw0, by decide, by decide, by decide, by decide, by decide⟩, fun l H2 s2 => hR _ _ fun H3 s3 => ?_⟩
        have dx : DueV H3 (.str "told") c1 := by rw [ec]; exact .inl ⟨by decide, rfl⟩
        have f := fin H3 (s2.trans s3)
        exact ⟨due, rfl, _, _, dx.dp, f.2.2.2.dp, due_sh _, due_sh _, _, rfl, iteE (due_ne c14) ⟨rfl, f⟩⟩
    rintro _ HI ⟨rfl, LI, PI', BI, DI⟩
    -- a white row
    generalize hc2 : (if c1 = 0 ∧ 35 ∉ r0 then 3 else c1 : Nat) = c2
    have c24 : c2 ≤ 4 := by
      rw [← hc2]
      split
      · decide
      · exact c14
    refine ⟨fun σ' H' => ∃ due, σ' = [some (.ref a), some (.int (kk : Nat)), some (.int cell), some (.ref d), some (.ref wl), y5, some (.ref pg), some odd, some page, some box, some due, some z1, some z2, some (.ref nl), some u1, some u2, some u3] ∧ Ls TL d lc pg wl cs rs w0 w1 w2 odd 20010 H' ∧ PgS K pg w0 page H' ∧ BxS K high wide w1 box H' ∧ DueV H' due c2, ?_, ?_⟩
    · refine ⟨due, rfl, _, _, DI.dp, .str "told", due_sh _, by decide +kernel, _, rfl, ?_⟩
      rw [due_told c14]
      by_cases e0 : c1 = 0
      · rw [decide_eq_true e0]
        refine iteT ⟨.ref pg, rfl, pg, _, 0, rv r0, rfl, rfl, SqT.of LI.hg, ix0, 35, S r0, congrArg V.str s_hash, rfl, _, rfl, ?_⟩
        have es : (S r0).cps.toList = r0 := by simp [S]
        rw [es]
        by_cases hd : 35 ∈ r0
        · rw [decide_eq_true hd]
          exact iteF ⟨due, rfl, LI, PI', BI, by rw [← hc2, if_neg (fun z => z.2 hd)]; exact DI⟩
        · rw [decide_eq_false hd]
          exact iteT ⟨.str "line", rfl, LI, PI', BI, by rw [← hc2, if_pos ⟨e0, hd⟩]; exact .inl ⟨by decide, rfl⟩⟩
      · rw [decide_eq_false e0]
        exact iteF (iteF ⟨due, rfl, LI, PI', BI, by rw [← hc2, if_neg (fun z => e0 z.1)]; exact DI⟩)
    clear DI
    rintro _ HJ ⟨due, rfl, LJ, PJ, BJ, DJ⟩
    -- tall, lead
    refine ⟨fun σ' H' => σ' = [some (.ref a), some (.int (kk : Nat)), some (.int cell), some (.ref d), some (.ref wl), y5, some (.ref pg), some odd, some page, some box, some due, some z1, some z2, some (.ref nl), some (.int 1), some u2, some (.int 0)] ∧ Ls TL d lc pg wl cs rs w0 w1 w2 odd 20010 H' ∧ PgS K pg w0 page H' ∧ BxS K high wide w1 box H' ∧ DueV H' due c2, ?_, ?_⟩
    · refine ⟨by show 2 ≤ sizeLine; decide, fun t ht => ⟨t, _, rfl, SqT.of upd_same, rfl, _, _, rfl, _, _, rfl, rfl, ?_⟩⟩
      have st := same_upd (o := .tup [V.int 1, V.int 0]) ht
      exact ⟨rfl, LJ.same st, PJ.kp (.same st) LJ.D (LJ.D.same st), BJ.kp (.same st) LJ.D (LJ.D.same st), DJ.kp (.same st) LJ.D⟩
    clear LJ PJ BJ DJ
    rintro _ HK ⟨rfl, LK, PK, BK, DK⟩
    refine ⟨fun σ' H' => ∃ tl ld : Int, σ' = [some (.ref a), some (.int (kk : Nat)), some (.int cell), some (.ref d), some (.ref wl), y5, some (.ref pg), some odd, some page, some box, some due, some z1, some z2, some (.ref nl), some (.int tl), some u2, some (.int ld)] ∧ Ls TL d lc pg wl cs rs w0 w1 w2 odd 20011 H' ∧ PgS K pg w0 page H' ∧ BxS K high wide w1 box H' ∧ DueV H' due c2 ∧ NmA w2 tl ld, ?_, ?_⟩
    · refine ⟨.ref wl, rfl, wl, _, 2, .bl w2, rfl, rfl, SqL.of LK.hw, rfl, _, rfl, ?_⟩
      cases w2 with
      | false => exact iteF ⟨1, 0, rfl, ⟨LK.D.le (by decide), LK.T, LK.hl, LK.nl, LK.hg, LK.hw, LK.nw, LK.od⟩, PK, BK, DK, .inr ⟨rfl, rfl, rfl⟩⟩
      | true =>
        refine iteT ⟨.ref d, rfl, by show 2 ≤ sizeLine; decide, fun t1 ht1 => ?_⟩
        have st1 := same_upd (o := .tup [V.int (0), V.int (0)]) ht1
        have s7 := st1
        have e1 : (upd HK t1 (.tup [V.int (0), V.int (0)])) t1 = some (.tup [V.int (0), V.int (0)]) := upd_same
        clear st1
        generalize upd HK t1 (.tup [V.int (0), V.int (0)]) = K1 at s7 e1 ⊢
        refine ⟨1, rfl, by show 2 ≤ sizeLine; decide, fun t2 ht2 => ?_⟩
        have st2 := same_upd (o := .tup [V.int (-1), V.int (0)]) ht2
        have e1 := st2 _ _ e1
        have s7 := s7.trans st2
        have e2 : (upd K1 t2 (.tup [V.int (-1), V.int (0)])) t2 = some (.tup [V.int (-1), V.int (0)]) := upd_same
        clear st2
        generalize upd K1 t2 (.tup [V.int (-1), V.int (0)]) = K2 at s7 e1 e2 ⊢
        refine ⟨by show 2 ≤ sizeLine; decide, fun t3 ht3 => ?_⟩
        have st3 := same_upd (o := .tup [V.int (10), V.int (0)]) ht3
        have e1 := st3 _ _ e1
        have e2 := st3 _ _ e2
        have s7 := s7.trans st3
        have e3 : (upd K2 t3 (.tup [V.int (10), V.int (0)])) t3 = some (.tup [V.int (10), V.int (0)]) := upd_same
        clear st3
        generalize upd K2 t3 (.tup [V.int (10), V.int (0)]) = K3 at s7 e1 e2 e3 ⊢
        refine ⟨by show 2 ≤ sizeLine; decide, fun t4 ht4 => ?_⟩
        have st4 := same_upd (o := .tup [V.int (61), V.int (0)]) ht4
        have e1 := st4 _ _ e1
        have e2 := st4 _ _ e2
        have e3 := st4 _ _ e3
        have s7 := s7.trans st4
        have e4 : (upd K3 t4 (.tup [V.int (61), V.int (0)])) t4 = some (.tup [V.int (61), V.int (0)]) := upd_same
        clear st4
        generalize upd K3 t4 (.tup [V.int (61), V.int (0)]) = K4 at s7 e1 e2 e3 e4 ⊢
        refine ⟨10, 30, rfl, rfl, ⟨by decide, by decide, by decide⟩, by show 2 ≤ sizeLine; decide, fun t5 ht5 => ?_⟩
        have st5 := same_upd (o := .tup [V.int (10 ^ Int.toNat 30), V.int (0)]) ht5
        have e1 := st5 _ _ e1
        have e2 := st5 _ _ e2
        have e3 := st5 _ _ e3
        have e4 := st5 _ _ e4
        have s7 := s7.trans st5
        have e5 : (upd K4 t5 (.tup [V.int (10 ^ Int.toNat 30), V.int (0)])) t5 = some (.tup [V.int (10 ^ Int.toNat 30), V.int (0)]) := upd_same
        clear st5
        generalize upd K4 t5 (.tup [V.int (10 ^ Int.toNat 30), V.int (0)]) = K5 at s7 e1 e2 e3 e4 e5 ⊢
        refine ⟨by show 2 ≤ sizeLine; decide, fun t6 ht6 => ?_⟩
        have st6 := same_upd (o := .tup [V.int (3), V.int (3)]) ht6
        have e1 := st6 _ _ e1
        have e2 := st6 _ _ e2
        have e3 := st6 _ _ e3
        have e4 := st6 _ _ e4
        have e5 := st6 _ _ e5
        have s7 := s7.trans st6
        have e6 : (upd K5 t6 (.tup [V.int (3), V.int (3)])) t6 = some (.tup [V.int (3), V.int (3)]) := upd_same
        clear st6
        generalize upd K5 t6 (.tup [V.int (3), V.int (3)]) = K6 at s7 e1 e2 e3 e4 e5 e6 ⊢
        refine ⟨1, rfl, by show 2 ≤ sizeLine; decide, fun t7 ht7 => ?_⟩
        have st7 := same_upd (o := .tup [V.int (3), V.int (-1)]) ht7
        have e1 := st7 _ _ e1
        have e2 := st7 _ _ e2
        have e3 := st7 _ _ e3
        have e4 := st7 _ _ e4
        have e5 := st7 _ _ e5
        have e6 := st7 _ _ e6
        have s7 := s7.trans st7
        have e7 : (upd K6 t7 (.tup [V.int (3), V.int (-1)])) t7 = some (.tup [V.int (3), V.int (-1)]) := upd_same
        clear st7
        generalize upd K6 t7 (.tup [V.int (3), V.int (-1)]) = K7 at s7 e1 e2 e3 e4 e5 e6 e7 ⊢
        refine ⟨by show 7 ≤ sizeLine; decide, fun l hl => ?_⟩
        have sl := same_upd (o := .lst [V.ref t1, V.ref t2, V.ref t3, V.ref t4, V.ref t5, V.ref t6, V.ref t7]) hl
        have LX := (LK.same s7).same sl
        refine ⟨d, .ref l, 20010, rfl, LX.D, (by show _ ≤ 1000000000000; decide), .inl ⟨l, _, rfl, (LK.same s7).D.new hl, upd_same, (by show 0 < 7; decide), (by show 7 ≤ 1000; decide), fun j x H8 hx D8 dn8 => ?_⟩⟩
        have dn : Do d HK H8 := (Do.same (s7.trans sl)).trans dn8
        have LY := LK.do' dn D8
        obtain ⟨t, tl, ld, rfl, et, bad⟩ : ∃ (t : Addr) (tl ld : Int), x = .ref t ∧ K7 t = some (.tup [.int tl, .int ld]) ∧ (betw (.int tl) 1 9 && betw (.int ld) 0 (tl - 1)) = false := by
          have hm := List.mem_of_getElem? hx
          simp only [List.mem_cons, List.not_mem_nil, or_false] at hm
          rcases hm with rfl | rfl | rfl | rfl | rfl | rfl | rfl
          · exact ⟨t1, (0), (0), rfl, e1, by rw [betw_int, betw_int]; decide⟩
          · exact ⟨t2, (-1), (0), rfl, e2, by rw [betw_int, betw_int]; decide⟩
          · exact ⟨t3, (10), (0), rfl, e3, by rw [betw_int, betw_int]; decide⟩
          · exact ⟨t4, (61), (0), rfl, e4, by rw [betw_int, betw_int]; decide⟩
          · exact ⟨t5, (10 ^ 30), (0), rfl, e5, by rw [betw_int, betw_int]; decide⟩
          · exact ⟨t6, (3), (3), rfl, e6, by rw [betw_int, betw_int]; decide⟩
          · exact ⟨t7, (3), (-1), rfl, e7, by rw [betw_int, betw_int]; decide⟩
        exact ⟨t, _, rfl, SqT.of ((Kp.of_do dn8).tup LX.D (sl _ _ et)), rfl, _, _, rfl, _, _, rfl, rfl, tl, ld, rfl, LY, PK.kp (.of_do dn) LK.D D8, BK.kp (.of_do dn) LK.D D8, DK.kp (.of_do dn) LK.D, .inl ⟨rfl, bad⟩⟩
    rintro _ HL ⟨tl, ld, rfl, LL, PL, BL, DL, NL⟩
    -- what is due of line_at
    generalize hc3 : (if c2 = 4 then 3 else c2 : Nat) = c3
    have c34 : c3 ≤ 4 := by
      rw [← hc3]
      split
      · decide
      · exact c24
    refine ⟨fun σ' H' => ∃ due, σ' = [some (.ref a), some (.int (kk : Nat)), some (.int cell), some (.ref d), some (.ref wl), y5, some (.ref pg), some odd, some page, some box, some due, some z1, some z2, some (.ref nl), some (.int tl), some u2, some (.int ld)] ∧ Ls TL d lc pg wl cs rs w0 w1 w2 odd 20011 H' ∧ PgS K pg w0 page H' ∧ BxS K high wide w1 box H' ∧ DueV H' due c3, ?_, ?_⟩
    · refine ⟨due, rfl, by show 2 ≤ sizeLine; decide, fun t ht => ?_⟩
      have st := same_upd (o := .tup [V.str "many", V.int 60]) ht
      have LM := LL.same st
      have DM := DL.kp (.same st) LL.D
      refine ⟨_, _, DM.dp, .tup (SqT.of upd_same) (.cons (.str _) (.cons (.int _) .nil)), due_sh _, due_sh 4, _, rfl, ?_⟩
      rw [due_many c24]
      by_cases e4 : c2 = 4
      · rw [decide_eq_true e4]
        exact iteT ⟨.str "line", rfl, LM, PL.kp (.same st) LL.D LM.D, BL.kp (.same st) LL.D LM.D, by rw [← hc3, if_pos e4]; exact .inl ⟨by decide, rfl⟩⟩
      · rw [decide_eq_false e4]
        exact iteF ⟨due, rfl, due, rfl, LM, PL.kp (.same st) LL.D LM.D, BL.kp (.same st) LL.D LM.D, by rw [← hc3, if_neg e4]; exact DM⟩
    clear DL LL PL BL
    rintro _ HM ⟨due, rfl, LM, PM, BM, DM⟩
    -- line_at
    refine ⟨by first | exact LM.T | (rw [hTT]; exact LM.T), fun H1 ext T1 R hR => ?_⟩
    try rw [hTT] at T1
    have L1 := LM.ex ext T1
    have P1 := PM.kp (.ext ext) LM.D L1.D
    have B1 := BM.kp (.ext ext) LM.D L1.D
    have D1 := DM.kp (.ext ext) LM.D
    have fin : ∀ H', Same H1 H' → H' lc = some (.lst cs) ∧ Tabs TL H' ∧ DueV H' due c3 := fun H' s' => ⟨(L1.same s').hl, (L1.same s').T, D1.kp (.same s') L1.D⟩
    refine ⟨page, rfl, box, rfl, .int tl, rfl, .int ld, rfl, rfl, rfl, page, box, tl, ld, rfl, ?_⟩
    rcases P1 with ⟨e0, ask⟩ | ⟨e0, e1⟩
    · have ec : c3 = 1 := by
        have : c1 = 1 := by rw [← hc1, ← hc0, e0]; cases w1 <;> rfl
        rw [← hc3, ← hc2, this]
        rfl
      refine .inl ⟨ask, fun H2 s2 => .inl ⟨C, 0, by simp, rfl, rfl, fun H3 s3 => ?_⟩⟩
      have dx : DueV H3 (.str "picture") c3 := by rw [ec]; exact .inl ⟨by decide, rfl⟩
      have f := fin H3 (s2.trans s3)
      exact ⟨due, rfl, _, _, dx.dp, f.2.2.dp, due_sh _, due_sh _, _, rfl, iteE (due_ne c34) ⟨_, _, _, _, _, _, _, _, _, _, _, _, _, _, _, _, rfl, f.1, f.2.1⟩⟩
    rcases B1 with ⟨eb, bq⟩ | ⟨eb, t, e2, ht⟩
    · have ec : c3 = 2 := by
        have : c1 = 2 := by rw [← hc1, e0, eb]; rfl
        rw [← hc3, ← hc2, this]
        rfl
      refine .inr ⟨pg, high, wide, rs, false, e1, L1.hg, pr, bq, .inl ⟨rfl, fun H2 s2 => .inl ⟨CP, 1, by simp, rfl, rfl, fun H3 s3 => ?_⟩⟩⟩
      have dx : DueV H3 (.str "place") c3 := by rw [ec]; exact .inl ⟨by decide, rfl⟩
      have f := fin H3 (s2.trans s3)
      exact ⟨due, rfl, _, _, dx.dp, f.2.2.dp, due_sh _, due_sh _, _, rfl, iteE (due_ne c34) ⟨_, _, _, _, _, _, _, _, _, _, _, _, _, _, _, _, rfl, f.1, f.2.1⟩⟩
    have bq : BoxQ K H1 high wide box true := .inr (.inr ⟨t, .int 0, .int 0, .int 1, .int wide, e2, SqT.of ht, kt_int _, kt_int _, kt_int _, kt_int _, by
      have a1 : strB (.int 0) (.int 1) high = true := strB_of (t := 0) (m := 1) (by decide) (by omega)
      have a2 : strB (.int 0) (.int wide) wide = true := strB_of (t := 0) (m := wide) (by omega) (by omega)
      rw [a1, a2]
      rfl⟩)
    have hcut : hasD (cutR rs 0 0 1 wide) = decide (35 ∈ r0) := by
      have e : cutR rs 0 0 1 wide = [r0] := by
        unfold cutR
        cases rs with
        | nil => cases er0
        | cons x r =>
          cases er0
          show [((r0.drop 0).take wide)] = [r0]
          rw [List.drop_zero, List.take_of_length_le (by omega)]
      rw [e]
      unfold hasD
      rw [List.any_cons, List.any_nil, Bool.or_false]
    refine .inr ⟨pg, high, wide, rs, true, e1, L1.hg, pr, bq, .inr ⟨t, 0, 0, 1, wide, rfl, e2, ht, by omega, by omega, by decide, hw0, by omega, ?_⟩⟩
    rcases NL with ⟨e3, bad⟩ | ⟨e3, rfl, rfl⟩
    · have ec : c3 = 3 := by
        have : c1 = 4 := by rw [← hc1, ← hc0, e0, eb, e3]; rfl
        rw [← hc3, ← hc2, this]
        rfl
      refine .inl ⟨bad, fun H2 s2 => .inl ⟨CL, 2, by simp, rfl, rfl, fun H3 s3 => ?_⟩⟩
      have dx : DueV H3 (.str "line") c3 := by rw [ec]; exact .inl ⟨by decide, rfl⟩
      have f := fin H3 (s2.trans s3)
      exact ⟨due, rfl, _, _, dx.dp, f.2.2.dp, due_sh _, due_sh _, _, rfl, iteE (due_ne c34) ⟨_, _, _, _, _, _, _, _, _, _, _, _, _, _, _, _, rfl, f.1, f.2.1⟩⟩
    have c10 : c1 = 0 := by rw [← hc1, ← hc0, e0, eb, e3]; rfl
    by_cases hd : 35 ∈ r0
    · have ec : c3 = 0 := by
        have h2 : c2 = 0 := by
          rw [← hc2, if_neg (fun z => z.2 hd)]
          exact c10
        rw [← hc3, h2]
        rfl
      refine .inr (.inr ⟨by decide, by rw [hcut, decide_eq_true hd], fun z H2 s2 => hR _ _ fun H3 s3 => ?_⟩)
      have dx : DueV H3 (.str "told") c3 := by rw [ec]; exact .inl ⟨by decide, rfl⟩
      have f := fin H3 (s2.trans s3)
      exact ⟨due, rfl, _, _, dx.dp, f.2.2.dp, due_sh _, due_sh _, _, rfl, iteE (due_ne c34) ⟨_, _, _, _, _, _, _, _, _, _, _, _, _, _, _, _, rfl, f.1, f.2.1⟩⟩
    · have ec : c3 = 3 := by
        have h2 : c2 = 3 := by rw [← hc2, if_pos ⟨c10, hd⟩]
        rw [← hc3, h2]
        rfl
      refine .inr (.inl ⟨by decide, by rw [hcut, decide_eq_false hd], fun H2 s2 => .inl ⟨CL, 2, by simp, rfl, rfl, fun H3 s3 => ?_⟩⟩)
      have dx : DueV H3 (.str "line") c3 := by rw [ec]; exact .inl ⟨by decide, rfl⟩
      have f := fin H3 (s2.trans s3)
      exact ⟨due, rfl, _, _, dx.dp, f.2.2.dp, due_sh _, due_sh _, _, rfl, iteE (due_ne c34) ⟨_, _, _, _, _, _, _, _, _, _, _, _, _, _, _, _, rfl, f.1, f.2.1⟩⟩
  · rintro σ H2 ⟨y1, y2, y3, y4, y5, y6, y7, y8, y9, y10, y11, y12, y13, y14, y15, y16, rfl, _⟩
    exact rfl
end
end Dt
namespace Dt
open PySem PySem.Spec PyProof.Rows L2 L2X LamX
abbrev BndT (nm : Str) (st : Stmt) (ps : List Str) : Prop := ∀ (kV doc pm : Value) (an : Option Addr) (cdv ct : Value) (us : List Value), us.length = ps.length → bindArgs (PySem.W.fnOf nm nm (defArgs st) (defBody st) (defScope st) .none kV doc pm an cdv ct) ⟨us, []⟩ = pure (ps.zip us)
abbrev BndM (nm qn : Str) (st : Stmt) (ps : List Str) : Prop := ∀ (kV doc pm : Value) (an : Option Addr) (cdv ct : Value) (us : List Value), us.length = ps.length → bindArgs (PySem.W.fnOf nm qn (defArgs st) (defBody st) (defScope st) .none kV doc pm an cdv ct) ⟨us, []⟩ = pure (ps.zip us)
theorem df_mk {K : PySem.W.Frag} {h : Heap} {mg : Str → Option Value} {nm : Str} {st : Stmt} {ps : List Str} {f : Addr} {oc : Value} {od an : Option Addr} {osl : Array (Option Value)} {kV doc pm cdv ct : Value} (X : K.In h) (G : h.Ns mainGlobals mg)
    (a : PySem.W.nsIn K mainGlobals nm = some (some (.ref f))) (l : K.lookup f = some ⟨oc, od, .func (PySem.W.fnOf nm nm (defArgs st) (defBody st) (defScope st) .none kV doc pm an cdv ct), osl⟩) (c : PySem.W.codeIn K cdv nm = true) (k : PySem.W.keepIn K (.ref f) = true) (hb : BndT nm st ps) : Df K mg nm st ps :=
  have F := fun_mk (st := st) l c k
  ⟨f, _, F, PySem.W.mg_of X G a, F.binds (ps := ps) hb⟩
/-- a method as it stands behind the top -/
structure Dm (K : PySem.W.Frag) (C : Addr) (nm qn : Str) (st : Stmt) (ps : List Str) : Prop where
  ex : ∃ f fd, Fun K nm qn st f fd ∧ Meth K C nm f ∧ Binds K fd ps []
theorem dm_mk {K : PySem.W.Frag} {C : Addr} {nm qn : Str} {st : Stmt} {ps : List Str} {f : Addr} {oc : Value} {od an : Option Addr} {osl : Array (Option Value)} {kV doc pm cdv ct : Value}
    (a : PySem.W.findIn K (.ref C) nm = some (some (.ref f))) (i : PySem.W.isFn K (.ref f) = true) (l : K.lookup f = some ⟨oc, od, .func (PySem.W.fnOf nm qn (defArgs st) (defBody st) (defScope st) .none kV doc pm an cdv ct), osl⟩) (c : PySem.W.codeIn K cdv qn = true) (k : PySem.W.keepIn K (.ref f) = true) (hb : BndM nm qn st ps) : Dm K C nm qn st ps :=
  have F := fun_mk (st := st) l c k
  ⟨f, _, F, ⟨a, i, k⟩, F.binds (ps := ps) hb⟩
theorem exN_mk {K : PySem.W.Frag} {h : Heap} {mg : Str → Option Value} {nm : Str} {C : Addr} (X : K.In h) (G : h.Ns mainGlobals mg) (a : PySem.W.nsIn K mainGlobals nm = some (some (.ref C))) (x : PySem.W.excIn K C [.type "ValueError", .type "Exception", .type "BaseException", .type "object"] "ValueError.__new__" = true) (k : PySem.W.keepIn K (.ref C) = true) (b : PySem.W.subIn K (.ref C) (.type "BaseException") = some true) (t : PySem.W.typeIn K (.ref C) = some (.type "type")) : ExN K mg nm C :=
  ⟨PySem.W.mg_of X G a, x, k, b, t⟩
theorem bnd0 : BndT "_law_begun" sBg ["cell", "k"] := fun _ _ _ _ _ _ us hl => match us, hl with | [_, _], _ => rfl
theorem bnd1 : BndT "_law_next" sNx ["draw", "below"] := fun _ _ _ _ _ _ us hl => match us, hl with | [_, _], _ => rfl
theorem bnd2 : BndT "_law_pick" sPk ["draw", "some"] := fun _ _ _ _ _ _ us hl => match us, hl with | [_, _], _ => rfl
theorem bnd3 : BndT "_law_blank" sBk ["deep", "wide"] := fun _ _ _ _ _ _ us hl => match us, hl with | [_, _], _ => rfl
theorem bnd4 : BndT "_law_told" sTd ["page"] := fun _ _ _ _ _ _ us hl => match us, hl with | [_], _ => rfl
theorem bnd5 : BndT "_law_page" sPg ["draw"] := fun _ _ _ _ _ _ us hl => match us, hl with | [_], _ => rfl
theorem bnd6 : BndT "_law_no_picture" sNP ["draw", "picture"] := fun _ _ _ _ _ _ us hl => match us, hl with | [_, _], _ => rfl
theorem bnd7 : BndT "_law_no_box" sNB ["draw", "picture"] := fun _ _ _ _ _ _ us hl => match us, hl with | [_, _], _ => rfl
theorem bnd8 : BndT "_law_said" sSd ["work"] := fun _ _ _ _ _ _ us hl => match us, hl with | [_], _ => rfl
theorem bnd9 : BndT "law" sLaw ["script"] := fun _ _ _ _ _ _ us hl => match us, hl with | [_], _ => rfl
theorem bnd10 : BndT "is_text" sIsText ["thing"] := fun _ _ _ _ _ _ us hl => match us, hl with | [_], _ => rfl
theorem bnd11 : BndT "_is_row" sIsRow ["thing"] := fun _ _ _ _ _ _ us hl => match us, hl with | [_], _ => rfl
theorem bnd12 : BndT "is_picture" sIsPic ["thing"] := fun _ _ _ _ _ _ us hl => match us, hl with | [_], _ => rfl
theorem bnd13 : BndT "want_picture" sWant ["thing"] := fun _ _ _ _ _ _ us hl => match us, hl with | [_], _ => rfl
theorem bnd14 : BndT "size" sSize ["picture"] := fun _ _ _ _ _ _ us hl => match us, hl with | [_], _ => rfl
theorem bnd15 : BndT "is_number" sIsNum ["thing"] := fun _ _ _ _ _ _ us hl => match us, hl with | [_], _ => rfl
theorem bnd16 : BndT "is_between" sBetw ["thing", "least", "most"] := fun _ _ _ _ _ _ us hl => match us, hl with | [_, _, _], _ => rfl
theorem bnd17 : BndT "is_tuple" sIsTup ["thing", "many"] := fun _ _ _ _ _ _ us hl => match us, hl with | [_, _], _ => rfl
theorem bnd18 : BndT "_is_stretch" sStr ["start", "many", "whole"] := fun _ _ _ _ _ _ us hl => match us, hl with | [_, _, _], _ => rfl
theorem bnd19 : BndT "cut_out" sCut ["picture", "top", "left", "high", "wide"] := fun _ _ _ _ _ _ us hl => match us, hl with | [_, _, _, _, _], _ => rfl
theorem bnd20 : BndT "columns_of" sCO ["rows"] := fun _ _ _ _ _ _ us hl => match us, hl with | [_], _ => rfl
theorem bnd21 : BndT "_flipped" sFP ["box"] := fun _ _ _ _ _ _ us hl => match us, hl with | [_], _ => rfl
theorem bnd22 : BndT "_parted" sPT ["page", "box", "least"] := fun _ _ _ _ _ _ us hl => match us, hl with | [_, _, _], _ => rfl
theorem bnd23 : BndT "_stretches" sST ["numbers", "least"] := fun _ _ _ _ _ _ us hl => match us, hl with | [_, _], _ => rfl
theorem bnd24 : BndT "_dotted_columns" sDC ["rows"] := fun _ _ _ _ _ _ us hl => match us, hl with | [_], _ => rfl
theorem bnd25 : BndT "_has_dots" sHD ["rows"] := fun _ _ _ _ _ _ us hl => match us, hl with | [_], _ => rfl
theorem bnd26 : BndT "_line_box" sLB ["box", "start", "behind"] := fun _ _ _ _ _ _ us hl => match us, hl with | [_, _, _], _ => rfl
theorem bnd27 : BndT "_want_box" sWB ["picture", "thing"] := fun _ _ _ _ _ _ us hl => match us, hl with | [_, _], _ => rfl
theorem bnmT : BndM "__init__" "TooMany.__init__" sTM ["self", "most"] := fun _ _ _ _ _ _ us hl => match us, hl with | [_, _], _ => rfl
structure AllD (K : PySem.W.Frag) (mg : Str → Option Value) : Prop where
  d0 : Df K mg "_law_begun" sBg ["cell", "k"]
  d1 : Df K mg "_law_next" sNx ["draw", "below"]
  d2 : Df K mg "_law_pick" sPk ["draw", "some"]
  d3 : Df K mg "_law_blank" sBk ["deep", "wide"]
  d4 : Df K mg "_law_told" sTd ["page"]
  d5 : Df K mg "_law_page" sPg ["draw"]
  d6 : Df K mg "_law_no_picture" sNP ["draw", "picture"]
  d7 : Df K mg "_law_no_box" sNB ["draw", "picture"]
  d8 : Df K mg "_law_said" sSd ["work"]
  d9 : Df K mg "law" sLaw ["script"]
  d10 : Df K mg "is_text" sIsText ["thing"]
  d11 : Df K mg "_is_row" sIsRow ["thing"]
  d12 : Df K mg "is_picture" sIsPic ["thing"]
  d13 : Df K mg "want_picture" sWant ["thing"]
  d14 : Df K mg "size" sSize ["picture"]
  d15 : Df K mg "is_number" sIsNum ["thing"]
  d16 : Df K mg "is_between" sBetw ["thing", "least", "most"]
  d17 : Df K mg "is_tuple" sIsTup ["thing", "many"]
  d18 : Df K mg "_is_stretch" sStr ["start", "many", "whole"]
  d19 : Df K mg "cut_out" sCut ["picture", "top", "left", "high", "wide"]
  d20 : Df K mg "columns_of" sCO ["rows"]
  d21 : Df K mg "_flipped" sFP ["box"]
  d22 : Df K mg "_parted" sPT ["page", "box", "least"]
  d23 : Df K mg "_stretches" sST ["numbers", "least"]
  d24 : Df K mg "_dotted_columns" sDC ["rows"]
  d25 : Df K mg "_has_dots" sHD ["rows"]
  d26 : Df K mg "_line_box" sLB ["box", "start", "behind"]
  d27 : Df K mg "_want_box" sWB ["picture", "thing"]
  fi : ∃ f fd, FnFI K f fd ∧ mg "fields" = some (.ref f)
  lo : ∃ f fd, FnLO K f fd ∧ mg "lines_of" = some (.ref f)
  la : ∃ f fd, FnLA K f fd ∧ mg "line_at" = some (.ref f)
structure AllN (K : PySem.W.Frag) (mg : Str → Option Value) (C CP CL CT CD : Addr) (cl8 : List Addr) : Prop where
  z0 : mg "len" = none
  z1 : mg "range" = none
  z2 : mg "tuple" = none
  z3 : mg "list" = none
  z4 : mg "int" = none
  z5 : mg "type" = none
  z6 : mg "str" = none
  z7 : mg "all" = none
  z8 : mg "any" = none
  z9 : mg "enumerate" = none
  z10 : mg "zip" = none
  z11 : mg "max" = none
  z12 : mg "min" = none
  z13 : mg "isinstance" = none
  z14 : mg "ValueError" = none
  i0 : ∃ t, mg "MOST_ROWS" = some (.int 60 t)
  i1 : ∃ t, mg "MOST_COLUMNS" = some (.int 120 t)
  i2 : ∃ t, mg "MOST_HIGH" = some (.int 9 t)
  i3 : ∃ t, mg "MOST_BAND" = some (.int 60 t)
  i4 : ∃ t, mg "MOST_LINE_COLUMNS" = some (.int 60 t)
  n : Tn K mg C
  np : ExN K mg "NoPlace" CP
  nl : ExN K mg "NoLine" CL
  tm : Ttm K mg CT
  gd : mg "DotError" = some (.ref CD)
  gs : ∃ c1 c2 c3 c4 c5 c6 c7 c8, cl8 = [c1, c2, c3, c4, c5, c6, c7, c8] ∧ mg "NoShape" = some (.ref c1) ∧ mg "NoSign" = some (.ref c2) ∧ mg "NoWord" = some (.ref c3) ∧ mg "NoReading" = some (.ref c4) ∧ mg "NoTable" = some (.ref c5) ∧ mg "NoDeed" = some (.ref c6) ∧ mg "NoBack" = some (.ref c7) ∧ mg "NoText" = some (.ref c8)
  tx2 : XfC K CT
  t0 : Tk K C CP CL CT CD cl8 C 0
  t1 : Tk K C CP CL CT CD cl8 CP 1
  t2 : Tk K C CP CL CT CD cl8 CL 2
  t3 : Tk K C CP CL CT CD cl8 CT 3
section
variable {P : Program} {w : World} {K : PySem.W.Frag} {mg : Str → Option Value} {base : Heap} {C CP CL CT CD : Addr} {cl8 : List Addr}
theorem facts (D : AllD K mg) (N : AllN K mg C CP CL CT CD cl8) : ∃ fF fL fA fdF fdL fdA, LawFs P w K mg base C CP CL CT CD cl8 fF fL fA fdF fdL fdA := by
  have X : Tx mg := ⟨N.z0, N.z1, N.z2, N.z3, N.z4⟩
  have T : Tp mg := ⟨N.z5, N.z6, N.z7, N.i0, N.i1⟩
  have nxt : ∀ k, Pm P w K mg base CX0 (k + 1) "_law_next" ["draw", "below"] spNx := fun k => .of D.d1 fun f fd F => ok_nx F
  have pck : ∀ k, Pm P w K mg base CX0 (k + 2) "_law_pick" ["draw", "some"] (spPk K) := fun k => .of D.d2 fun f fd F => by
    obtain ⟨_, _, G, m, kp, b⟩ := (nxt k).ex
    exact ok_pk F X _ _ G m kp b
  have blk : ∀ k, Pm P w K mg base CX0 (k + 1) "_law_blank" ["deep", "wide"] spBk := fun k => .of D.d3 fun f fd F => ok_bk F X
  have tld : ∀ k, Pm P w K mg base CX0 (k + 1) "_law_told" ["page"] spTd := fun k => .of D.d4 fun f fd F => ok_td F X
  have pag : ∀ k, Pm P w K mg base CX0 (k + 3) "_law_page" ["draw"] spPg := fun k => .of D.d5 fun f fd F => ok_pg (k := k) F X N.z12 (nxt (k + 1)) (pck k) (blk (k + 1)) (tld (k + 1))
  have isT : ∀ k, Pm P w K mg base CX0 (k + 1) "is_text" ["thing"] (spIsText K) := fun k => .of D.d10 fun f fd F => ok_isText F T
  have isR : ∀ k, Pm P w K mg base CX0 (k + 2) "_is_row" ["thing"] (spIsRow K) := fun k => .of D.d11 fun f fd F => by
    obtain ⟨_, _, G, m, kp, b⟩ := (isT k).ex
    exact ok_isRow F T X G m kp b
  have isP : ∀ k, Pm P w K mg base CX0 (k + 3) "is_picture" ["thing"] (spIsPic K) := fun k => .of D.d12 fun f fd F => by
    obtain ⟨_, _, G, m, kp, b⟩ := (isR k).ex
    exact ok_isPic (k := k + 1) F T X G m kp b
  have wnt : ∀ k, GW P w K mg base C (k + 4) := fun k => by
    obtain ⟨fW, fdW, FW, mW, bW⟩ := (D.d13).ex
    obtain ⟨_, _, G, m, kp, b⟩ := (isP k).ex
    exact ⟨fW, fdW, ok_want (k := k + 2) FW N.n G m kp b, mW, FW.kp, bW⟩
  have siz : ∀ k, GS P w K mg base C (k + 5) := fun k => by
    obtain ⟨f, fd, F, m, b⟩ := (D.d14).ex
    exact ⟨f, fd, ok_size (k := k + 3) F X (wnt k), m, F.kp, b⟩
  have isN : ∀ k, Pm P w K mg base CX0 (k + 1) "is_number" ["thing"] (spIsNum K) := fun k => .of D.d15 fun f fd F => ok_isNum F T X
  have btw : ∀ k, Pm P w K mg base CX0 (k + 2) "is_between" ["thing", "least", "most"] (spBetw K) := fun k => .of D.d16 fun f fd F => by
    obtain ⟨_, _, G, m, kp, b⟩ := (isN k).ex
    exact ok_betw F G m kp b
  have str : ∀ k, Pm P w K mg base CX0 (k + 3) "_is_stretch" ["start", "many", "whole"] (spStr K) := fun k => .of D.d18 fun f fd F => ok_str (k := k) F (isN k) (btw k)
  have cut : ∀ k, Pm P w K mg base (L2.CX P w) (k + 6) "cut_out" ["picture", "top", "left", "high", "wide"] (spCut K CP) := fun k => .of D.d19 fun f fd F => ok_cut (k := k + 2) F X N.np (siz k) (str (k + 2))
  have cof : ∀ k, Pm P w K mg base CX0 (k + 1) "columns_of" ["rows"] spCO := fun k => .of D.d20 fun f fd F => ok_CO F X N.z10
  have stz : ∀ k, Pm P w K mg base CX0 (k + 1) "_stretches" ["numbers", "least"] (spST K) := fun k => .of D.d23 fun f fd F => ok_st F X N.z10
  have dcs : ∀ k, Pm P w K mg base CX0 (k + 1) "_dotted_columns" ["rows"] (spDC K) := fun k => .of D.d24 fun f fd F => ok_dc F N.z12 N.z11
  have ptd : ∀ k, Pm P w K mg base CX0 (k + 2) "_parted" ["page", "box", "least"] (spPT K) := fun k => .of D.d22 fun f fd F => ok_pt (k := k) F X N.z9 (stz k) (dcs k)
  have flp : ∀ k, Pm P w K mg base CX0 (k + 1) "_flipped" ["box"] spFP := fun k => .of D.d21 fun f fd F => ok_fp F
  have isU : ∀ k, Pm P w K mg base CX0 (k + 1) "is_tuple" ["thing", "many"] (spIsTup K) := fun k => .of D.d17 fun f fd F => ok_isTup F T X
  have hsd : ∀ k, Pm P w K mg base CX0 (k + 1) "_has_dots" ["rows"] spHD := fun k => .of D.d25 fun f fd F => ok_hd F N.z8
  have lbx : ∀ k, Pm P w K mg base CX0 (k + 1) "_line_box" ["box", "start", "behind"] spLB := fun k => .of D.d26 fun f fd F => ok_lb F N.z11 N.z12
  have wbx : ∀ k, Pm P w K mg base (L2.CX P w) (k + 7) "_want_box" ["picture", "thing"] (spWBX K C CP) := fun k => .of D.d27 fun f fd F => ok_wbx (k := k + 5) F N.np (wnt (k + 2)) (isU (k + 5)) (cut k)
  obtain ⟨fF, fdF, FF, mF⟩ := D.fi
  obtain ⟨fL, fdL, FL, mL⟩ := D.lo
  obtain ⟨fA, fdA, FA, mA⟩ := D.la
  exact ⟨fF, fL, fA, fdF, fdL, fdA,
    { tx := X
      en := N.z9
      B := .of D.d0 fun f fd F => ok_bg (k := 11) F N.z11
      N := nxt 11
      K' := pck 10
      P' := pag 9
      NP := .of D.d6 fun f fd F => ok_np (k := 10) F X (pck 9)
      NB := .of D.d7 fun f fd F => ok_nb (k := 10) F X (pck 9)
      FF := FF
      GF := ok_fix (k := 7) FF X N.i3 (wnt 5) (btw 7) (cof 8) (ptd 7) (flp 8) N.tm
      mF := mF
      FL := FL
      GL := ok_lox (k := 7) FL X N.i2 N.i3 (wbx 2) N.tm (btw 7) (lbx 8) (hsd 8) (cut 3)
      mL := mL
      FA := FA
      GA := ok_lax (k := 8) FA X N.nl N.i2 N.i4 (wbx 2) (btw 7) (hsd 8) (dcs 8) (cut 3)
      mA := mA
      cl := ⟨N.z13, N.z14, N.n.g, N.np.g, N.nl.g, N.tm.g, N.gd, N.gs⟩
      tx2 := N.tx2
      no := N.tm.no
      t0 := N.t0
      t1 := N.t1
      t2 := N.t2
      t3 := N.t3
      R := D.d8 }⟩
end
theorem gli_mk {K : PySem.W.Frag} {h : Heap} {mg : Str → Option Value} {nm : Str} {i : Int} {t : Tok} (X : K.In h) (G : h.Ns mainGlobals mg) (a : PySem.W.nsIn K mainGlobals nm = some (some (.int i t))) : ∃ t, mg nm = some (.int i t) := ⟨t, PySem.W.mg_of X G a⟩
theorem glk_mk {K : PySem.W.Frag} {h : Heap} {mg : Str → Option Value} {nm : Str} {C D : Addr} {b : Bool} (X : K.In h) (G : h.Ns mainGlobals mg) (a : PySem.W.nsIn K mainGlobals nm = some (some (.ref C))) (q : PySem.W.kitOne K (.ref D) (.ref C) = some b) : ∃ C, mg nm = some (.ref C) ∧ PySem.W.kitOne K (.ref D) (.ref C) = some b := ⟨C, PySem.W.mg_of X G a, q⟩
theorem glx_mk {K : PySem.W.Frag} {h : Heap} {mg : Str → Option Value} {nm : Str} {C D : Addr} (X : K.In h) (G : h.Ns mainGlobals mg) (a : PySem.W.nsIn K mainGlobals nm = some (some (.ref C))) (q : PySem.W.exmOne K (.ref D) (.ref C) = some true) : ∃ C, mg nm = some (.ref C) ∧ PySem.W.exmOne K (.ref D) (.ref C) = some true := ⟨C, PySem.W.mg_of X G a, q⟩
theorem kitc_ref {K : PySem.W.Frag} {C D : Addr} {b : Bool} (i : PySem.W.isClsIn K C = true) (y : PySem.W.typeIn K (.ref C) = some (.type "type")) (s : PySem.W.subIn K (.ref D) (.ref C) = some b) : PySem.W.kitCls K (.ref D) (.ref C) = some b := by
  have e2 : ((PySem.W.clsIn K C).isSome && PySem.W.typeIn K (.ref C) == some (.type "type")) = true := by
    have i' : (PySem.W.clsIn K C).isSome = true := i
    rw [i', y] <;> rfl
  show (if ((PySem.W.clsIn K C).isSome && PySem.W.typeIn K (.ref C) == some (.type "type")) = true then PySem.W.subIn K (.ref D) (.ref C) else none) = some b
  rw [if_pos e2]
  exact s
theorem kit_self {K : PySem.W.Frag} {C : Addr} : PySem.W.kitOne K (.ref C) (.ref C) = some true := if_pos (beq_self_eq_true _)
theorem kit_ne {K : PySem.W.Frag} {C D : Addr} {b : Bool} (n : D ≠ C) (h : PySem.W.kitCls K (.ref D) (.ref C) = some b) : PySem.W.kitOne K (.ref D) (.ref C) = some b := by
  unfold PySem.W.kitOne
  rw [if_neg (fun z => n (Value.ref.inj (beq_iff_eq.mp z)))]
  exact h
theorem glo_mk {K : PySem.W.Frag} {h : Heap} {mg : Str → Option Value} {nm : Str} {C D : Addr} {b : Bool} (X : K.In h) (G : h.Ns mainGlobals mg) (a : PySem.W.nsIn K mainGlobals nm = some (some (.ref C))) (i : PySem.W.isClsIn K C = true) (y : PySem.W.typeIn K (.ref C) = some (.type "type")) (s : PySem.W.subIn K (.ref D) (.ref C) = some b) (n : D ≠ C) : ∃ C, mg nm = some (.ref C) ∧ PySem.W.kitOne K (.ref D) (.ref C) = some b :=
  ⟨C, PySem.W.mg_of X G a, kit_ne n (kitc_ref i y s)⟩
theorem gls_mk {K : PySem.W.Frag} {h : Heap} {mg : Str → Option Value} {nm : Str} {C : Addr} (X : K.In h) (G : h.Ns mainGlobals mg) (a : PySem.W.nsIn K mainGlobals nm = some (some (.ref C))) : ∃ D, mg nm = some (.ref D) ∧ PySem.W.kitOne K (.ref C) (.ref D) = some true := ⟨C, PySem.W.mg_of X G a, kit_self⟩
theorem kit_ty {K : PySem.W.Frag} {D : Addr} {T : String} {b : Bool} (m : PySem.W.kitMeta T = true) (s : PySem.W.subIn K (.ref D) (.type T) = some b) : PySem.W.kitOne K (.ref D) (.type T) = some b := by
  unfold PySem.W.kitOne
  have n : ¬ ((Value.ref D == Value.type T) = true) := fun z => by
    have e := beq_iff_eq.mp z
    cases e
  rw [if_neg n]
  show (if PySem.W.kitMeta T = true then PySem.W.subIn K (.ref D) (.type T) else none) = some b
  rw [if_pos m]
  exact s
theorem glx_of {K : PySem.W.Frag} {h : Heap} {mg : Str → Option Value} {nm : Str} {C D : Addr} (X : K.In h) (G : h.Ns mainGlobals mg) (a : PySem.W.nsIn K mainGlobals nm = some (some (.ref C))) (b : PySem.W.subIn K (.ref C) (.type "BaseException") = some true) (hd : PySem.W.hasDictIn K C = true) (y : PySem.W.typeIn K (.ref C) = some (.type "type")) (s : PySem.W.subIn K (.ref D) (.ref C) = some true) :
    ∃ C, mg nm = some (.ref C) ∧ PySem.W.exmOne K (.ref D) (.ref C) = some true := ⟨C, PySem.W.mg_of X G a, PySem.W.exm_ref b hd y s⟩
theorem tabm {K : PySem.W.Frag} {f cc PP : Addr} {oc oc2 : Value} {od od2 : Option Addr} {fd : FuncData} {sl sl2 : Array (Option Value)} {vs : Array Value} (a : PySem.W.nsIn K mainGlobals "law" = some (some (.ref f))) (l : K.lookup f = some ⟨oc, od, .func fd, sl⟩) (c : fd.code = .ref cc) (m : K.lookup cc = some ⟨oc2, od2, .fields vs, sl2⟩) (v : (vs[11]? : Option Value) = some (.ref PP)) :
    PySem.W.tabIn K "law" = some (cc, PP) := by
  unfold PySem.W.tabIn
  rw [a]
  simp only
  rw [l]
  simp only
  rw [c]
  simp only
  rw [m]
  simp only
  rw [v]
theorem fi_mk {K : PySem.W.Frag} {h : Heap} {mg : Str → Option Value} {f Dk : Addr} {t t2 : Tok} {oc : Value} {od an : Option Addr} {osl : Array (Option Value)} {doc pm cdv ct : Value} (X : K.In h) (G : h.Ns mainGlobals mg)
    (a : PySem.W.nsIn K mainGlobals "fields" = some (some (.ref f))) (l : K.lookup f = some ⟨oc, od, .func (PySem.W.fnOf "fields" "fields" (defArgs sFI) (defBody sFI) (defScope sFI) .none (.ref Dk) doc pm an cdv ct), osl⟩) (c : PySem.W.codeIn K cdv "fields" = true) (k : PySem.W.keepIn K (.ref f) = true)
    (n : PySem.W.nsIn K Dk "rows" = some (some (.int 2 t))) (n2 : PySem.W.nsIn K Dk "columns" = some (some (.int 4 t2))) : ∃ f fd, FnFI K f fd ∧ mg "fields" = some (.ref f) :=
  ⟨f, _, ⟨⟨oc, od, .none, .ref Dk, doc, pm, an, cdv, ct, osl, rfl, l, c, .inl ⟨rfl, rfl⟩, .inr ⟨Dk, rfl, fun q hq => by
    rcases List.mem_cons.mp hq with e | hq
    · rw [e]
      exact ⟨_, n, t, rfl⟩
    · rw [List.mem_singleton.mp hq]
      exact ⟨_, n2, t2, rfl⟩⟩⟩, k⟩, PySem.W.mg_of X G a⟩
theorem lo_mk {K : PySem.W.Frag} {h : Heap} {mg : Str → Option Value} {f Dk : Addr} {t : Tok} {oc : Value} {od an : Option Addr} {osl : Array (Option Value)} {doc pm cdv ct : Value} (X : K.In h) (G : h.Ns mainGlobals mg)
    (a : PySem.W.nsIn K mainGlobals "lines_of" = some (some (.ref f))) (l : K.lookup f = some ⟨oc, od, .func (PySem.W.fnOf "lines_of" "lines_of" (defArgs sLO) (defBody sLO) (defScope sLO) .none (.ref Dk) doc pm an cdv ct), osl⟩) (c : PySem.W.codeIn K cdv "lines_of" = true) (k : PySem.W.keepIn K (.ref f) = true)
    (n : PySem.W.nsIn K Dk "above" = some (some (.int 0 t))) : ∃ f fd, FnLO K f fd ∧ mg "lines_of" = some (.ref f) :=
  ⟨f, _, ⟨⟨oc, od, .none, .ref Dk, doc, pm, an, cdv, ct, osl, rfl, l, c, .inl ⟨rfl, rfl⟩, .inr ⟨Dk, rfl, fun q hq => by rw [List.mem_singleton.mp hq]; exact ⟨_, n, t, rfl⟩⟩⟩, k⟩, PySem.W.mg_of X G a⟩
theorem la_mk {K : PySem.W.Frag} {h : Heap} {mg : Str → Option Value} {f Dk : Addr} {t : Tok} {oc : Value} {od an : Option Addr} {osl : Array (Option Value)} {doc pm cdv ct : Value} (X : K.In h) (G : h.Ns mainGlobals mg)
    (a : PySem.W.nsIn K mainGlobals "line_at" = some (some (.ref f))) (l : K.lookup f = some ⟨oc, od, .func (PySem.W.fnOf "line_at" "line_at" (defArgs sLA) (defBody sLA) (defScope sLA) .none (.ref Dk) doc pm an cdv ct), osl⟩) (c : PySem.W.codeIn K cdv "line_at" = true) (k : PySem.W.keepIn K (.ref f) = true)
    (n : PySem.W.nsIn K Dk "over" = some (some (.int 0 t))) : ∃ f fd, FnLA K f fd ∧ mg "line_at" = some (.ref f) :=
  ⟨f, _, ⟨⟨oc, od, .none, .ref Dk, doc, pm, an, cdv, ct, osl, rfl, l, c, .inl ⟨rfl, rfl⟩, .inr ⟨Dk, rfl, fun q hq => by rw [List.mem_singleton.mp hq]; exact ⟨_, n, t, rfl⟩⟩⟩, k⟩, PySem.W.mg_of X G a⟩
theorem ttm_mk {K : PySem.W.Frag} {h : Heap} {mg : Str → Option Value} {C f : Addr} {nm q : Str} {N : Addr} {bs bm : List Value} {sn : List Str} {sub : List Value} {ab : Bool} {col : Option Bool} {dd : Option Addr} {k0 k1 k2 k3 k5 : Option Value} {oc : Value} {od an : Option Addr} {osl : Array (Option Value)} {kV doc pm cdv ct : Value} (X : K.In h) (G : h.Ns mainGlobals mg) (a : PySem.W.nsIn K mainGlobals "TooMany" = some (some (.ref C)))
    (cl : K.lookup C = some (PySem.excClassObj nm q C N bs bm true sn sub ab col dd k0 k1 k2 k3 k5 "ValueError.__new__")) (rv : PySem.HandSPX.refsVE bm = true) (sa : PySem.W.findIn K (.ref C) "__setattr__" = some (some (.builtin "object.__setattr__"))) (eC : PySem.W.subIn K (.ref C) (.type "BaseException") = some true) (tC : PySem.W.typeIn K (.ref C) = some (.type "type")) (kC : PySem.W.keepIn K (.ref C) = true)
    (no : PySem.W.findIn K (.ref C) "most" = some none) (i : PySem.W.findIn K (.ref C) "__init__" = some (some (.ref f))) (ti : PySem.W.typeIn K (.ref f) = some (.type "function")) (l : K.lookup f = some ⟨oc, od, .func (PySem.W.fnOf "__init__" "TooMany.__init__" (defArgs sTM) (defBody sTM) (defScope sTM) .none kV doc pm an cdv ct), osl⟩) (c : PySem.W.codeIn K cdv "TooMany.__init__" = true) (k : PySem.W.keepIn K (.ref f) = true) : Ttm K mg C :=
  have F := fun_mk (st := sTM) l c k
  ⟨PySem.W.mg_of X G a, ⟨⟨nm, q, N, bs, bm, sn, sub, ab, col, dd, k0, k1, k2, k3, k5, cl, rv⟩, sa, eC, tC, kC⟩, no, f, _, i, ti, F, F.binds (ps := ["self", "most"]) bnmT⟩
/-- a class of the top -/
def Cc (K : PySem.W.Frag) (C : Addr) : Prop := PySem.W.isClsIn K C = true ∧ PySem.W.typeIn K (.ref C) = some (.type "type")
theorem Cc.of {K : PySem.W.Frag} {C D : Addr} {b : Bool} (c : Cc K C) (s : PySem.W.subIn K (.ref D) (.ref C) = some b) (n : D ≠ C) : PySem.W.kitOne K (.ref D) (.ref C) = some b := kit_ne n (kitc_ref c.1 c.2 s)
theorem gs_mk {K : PySem.W.Frag} {h : Heap} {mg : Str → Option Value} {c1 c2 c3 c4 c5 c6 c7 c8 : Addr} (X : K.In h) (G : h.Ns mainGlobals mg) (a1 : PySem.W.nsIn K mainGlobals "NoShape" = some (some (.ref c1))) (a2 : PySem.W.nsIn K mainGlobals "NoSign" = some (some (.ref c2))) (a3 : PySem.W.nsIn K mainGlobals "NoWord" = some (some (.ref c3))) (a4 : PySem.W.nsIn K mainGlobals "NoReading" = some (some (.ref c4))) (a5 : PySem.W.nsIn K mainGlobals "NoTable" = some (some (.ref c5))) (a6 : PySem.W.nsIn K mainGlobals "NoDeed" = some (some (.ref c6))) (a7 : PySem.W.nsIn K mainGlobals "NoBack" = some (some (.ref c7))) (a8 : PySem.W.nsIn K mainGlobals "NoText" = some (some (.ref c8))) :
    ∃ d1 d2 d3 d4 d5 d6 d7 d8, [c1, c2, c3, c4, c5, c6, c7, c8] = [d1, d2, d3, d4, d5, d6, d7, d8] ∧ mg "NoShape" = some (.ref d1) ∧ mg "NoSign" = some (.ref d2) ∧ mg "NoWord" = some (.ref d3) ∧ mg "NoReading" = some (.ref d4) ∧ mg "NoTable" = some (.ref d5) ∧ mg "NoDeed" = some (.ref d6) ∧ mg "NoBack" = some (.ref d7) ∧ mg "NoText" = some (.ref d8) :=
  ⟨c1, c2, c3, c4, c5, c6, c7, c8, rfl, PySem.W.mg_of X G a1, PySem.W.mg_of X G a2, PySem.W.mg_of X G a3, PySem.W.mg_of X G a4, PySem.W.mg_of X G a5, PySem.W.mg_of X G a6, PySem.W.mg_of X G a7, PySem.W.mg_of X G a8⟩
theorem an_nil {K : PySem.W.Frag} {D : Addr} : PySem.W.kitAny K (.ref D) (([] : List Addr).map Value.ref) = some false := kitAny_nil
theorem an_cons {K : PySem.W.Frag} {D C : Addr} {cs : List Addr} (c : Cc K C) (s : PySem.W.subIn K (.ref D) (.ref C) = some false) (n : D ≠ C) (r : PySem.W.kitAny K (.ref D) (cs.map Value.ref) = some false) : PySem.W.kitAny K (.ref D) ((C :: cs).map Value.ref) = some false :=
  kitAny_cons (c.of s n) (fun _ => r) (fun z => nomatch z)
theorem end_mk41 {K : PySem.W.Frag} {mg : Str → Option Value} {C CP CL CT CD cc PP : Addr} {cl8 : List Addr} (D : AllD K mg) (N : AllN K mg C CP CL CT CD cl8) (t : PySem.W.tabIn K "law" = some (cc, PP)) (np : K.lookup PP = none) :
    ∃ (C CP CL CT CD : Addr) (cl8 : List Addr) (cc PP : Addr), AllD K mg ∧ AllN K mg C CP CL CT CD cl8 ∧ PySem.W.tabIn K "law" = some (cc, PP) ∧ K.lookup PP = none := ⟨C, CP, CL, CT, CD, cl8, cc, PP, D, N, t, np⟩
theorem walk41 {l : PySem.W.OpenLaw} {q : Program} {loose : List Str} {XP : (Str → Option Value) → Heap → Prop} {YP : World → Heap → Prop} {d e : DefRec} {K : Params → PySem.W.Frag}
    (hn : l.most = some 63) (hdf : d.params.defaults = []) (hrec : (PyProof.Rows.recsOf q).find? (fun e => e.name == ("law" : Str)) = some e) (hY : ∀ (w : World) (h : Heap), YP w h → (K w.params).In h) (hname : d.name = "law")
    (F : ∀ (w : World) (mg : Str → Option Value) (h : Heap), (K w.params).In h → h.Ns mainGlobals mg → ∃ (C CP CL CT CD : Addr) (cl8 : List Addr) (cc PP : Addr), AllD (K w.params) mg ∧ AllN (K w.params) mg C CP CL CT CD cl8 ∧ PySem.W.tabIn (K w.params) "law" = some (cc, PP) ∧ (K w.params).lookup PP = none) :
    PySem.W.WalkO q loose XP YP l.row.toRowW d [] (fun f vs => PySem.call f vs) := by
  refine Att.attach_callB hn hdf fun w s₀ s₁ mg mb fa o pm cd doc a vs ns G Y ho hd hcd hmg hobj hints hlen hbits hg => ?_
  have KX := hY w _ Y
  obtain ⟨C, CP, CL, CT, CD, cl8, cc, PP, D, N, ht, nP⟩ := F w mg _ KX G.T.g
  obtain ⟨hC, hP⟩ := PySem.W.tab_of G.T KX hrec ht
  rw [hname] at hmg
  obtain ⟨fL, fdL, FL, mL, bL⟩ := D.d9.ex
  rw [hmg] at mL
  cases mL
  obtain ⟨oc, od, kV, dc, pm', an, cdv, ct, osl, rfl, lk, hc⟩ := FL.ex
  have ec := PySem.W.law_code KX G.T.g ht hmg (KX _ _ lk) rfl
  have ec' : cdv = .ref cc := ec
  subst ec'
  refine law_callG (cs := [(cc, PP)]) KX G.T.g G.T.b G.T.builtins G.T.nolimit hg (fun p hp => by rw [List.mem_singleton.mp hp]; exact hP) (fun p hp => by rw [List.mem_singleton.mp hp]; exact nP) (fun p hp => by rw [List.mem_singleton.mp hp]; exact hC) G.T.bmain hobj hints (Nat.le_trans hlen (by decide)) ?_
  intro base H hKb hNs hTB hHT hS e0
  obtain ⟨fF, fL, fA, fdF, fdL, fdA, LF⟩ := facts (P := l.prog) (w := w) (base := base) D N
  exact law_run lk hc (fun _ _ => .of_eq rfl) LF (hTB _ (List.mem_singleton.mpr rfl)) ⟨rfl, by decide, by decide⟩ e0 (hHT _ (List.mem_singleton.mpr rfl)) hS hlen
end Dt
open PySem PySem.W PyProof.Rows
set_option maxRecDepth 100000 in
set_option maxHeartbeats 0 in
theorem PySem.Challenge.cw_dotread_k41_fields_refused_holds : PySem.Challenge.rw_dotread_k41_fields_refused.Holds := by
  w_on; o_law; k_head; (case hw => w_witness2)
  k_fill
  refine Dt.walk41 (l := PySem.Challenge.rw_dotread_k41_fields_refused) rfl rfl rfl (fun w h Y => PySem.W.km_in_of Y) (by kernel_rfl) ?F
  case F =>
    intro w mg h KX G
    refine' Dt.end_mk41 ⟨Dt.df_mk KX G ?a0 ?l0 ?c0 ?k0 Dt.bnd0, Dt.df_mk KX G ?a1 ?l1 ?c1 ?k1 Dt.bnd1, Dt.df_mk KX G ?a2 ?l2 ?c2 ?k2 Dt.bnd2, Dt.df_mk KX G ?a3 ?l3 ?c3 ?k3 Dt.bnd3, Dt.df_mk KX G ?a4 ?l4 ?c4 ?k4 Dt.bnd4, Dt.df_mk KX G ?a5 ?l5 ?c5 ?k5 Dt.bnd5, Dt.df_mk KX G ?a6 ?l6 ?c6 ?k6 Dt.bnd6, Dt.df_mk KX G ?a7 ?l7 ?c7 ?k7 Dt.bnd7, Dt.df_mk KX G ?a8 ?l8 ?c8 ?k8 Dt.bnd8, Dt.df_mk KX G ?a9 ?l9 ?c9 ?k9 Dt.bnd9, Dt.df_mk KX G ?a10 ?l10 ?c10 ?k10 Dt.bnd10, Dt.df_mk KX G ?a11 ?l11 ?c11 ?k11 Dt.bnd11, Dt.df_mk KX G ?a12 ?l12 ?c12 ?k12 Dt.bnd12, Dt.df_mk KX G ?a13 ?l13 ?c13 ?k13 Dt.bnd13, Dt.df_mk KX G ?a14 ?l14 ?c14 ?k14 Dt.bnd14, Dt.df_mk KX G ?a15 ?l15 ?c15 ?k15 Dt.bnd15, Dt.df_mk KX G ?a16 ?l16 ?c16 ?k16 Dt.bnd16, Dt.df_mk KX G ?a17 ?l17 ?c17 ?k17 Dt.bnd17, Dt.df_mk KX G ?a18 ?l18 ?c18 ?k18 Dt.bnd18, Dt.df_mk KX G ?a19 ?l19 ?c19 ?k19 Dt.bnd19, Dt.df_mk KX G ?a20 ?l20 ?c20 ?k20 Dt.bnd20, Dt.df_mk KX G ?a21 ?l21 ?c21 ?k21 Dt.bnd21, Dt.df_mk KX G ?a22 ?l22 ?c22 ?k22 Dt.bnd22, Dt.df_mk KX G ?a23 ?l23 ?c23 ?k23 Dt.bnd23, Dt.df_mk KX G ?a24 ?l24 ?c24 ?k24 Dt.bnd24, Dt.df_mk KX G ?a25 ?l25 ?c25 ?k25 Dt.bnd25, Dt.df_mk KX G ?a26 ?l26 ?c26 ?k26 Dt.bnd26, Dt.df_mk KX G ?a27 ?l27 ?c27 ?k27 Dt.bnd27, Dt.fi_mk KX G ?oa ?ol ?oc ?ok ?on ?op, Dt.lo_mk KX G ?pa ?pl ?pc ?pk ?pn, Dt.la_mk KX G ?qa ?ql ?qc ?qk ?qn⟩ ⟨mg_none_of KX G ?z0, mg_none_of KX G ?z1, mg_none_of KX G ?z2, mg_none_of KX G ?z3, mg_none_of KX G ?z4, mg_none_of KX G ?z5, mg_none_of KX G ?z6, mg_none_of KX G ?z7, mg_none_of KX G ?z8, mg_none_of KX G ?z9, mg_none_of KX G ?z10, mg_none_of KX G ?z11, mg_none_of KX G ?z12, mg_none_of KX G ?z13, mg_none_of KX G ?z14, Dt.gli_mk KX G ?i0, Dt.gli_mk KX G ?i1, Dt.gli_mk KX G ?i2, Dt.gli_mk KX G ?i3, Dt.gli_mk KX G ?i4, ⟨mg_of KX G ?nC2, ?nx, ?nk, ?nb, ?nt⟩, Dt.exN_mk KX G ?nP2 ?px ?pk2 ?pb ?pt, Dt.exN_mk KX G ?nL2 ?lx ?lk ?lb ?lt, Dt.ttm_mk KX G ?nT2 ?sl ?sr ?ss ?se ?st ?sk ?sn ?si ?sf ?sg ?sc ?sq, mg_of KX G ?nD2, Dt.gs_mk KX G ?ng1 ?ng2 ?ng3 ?ng4 ?ng5 ?ng6 ?ng7 ?ng8, ⟨?x1, ?x2, ?x3, ?x4⟩, ⟨by decide, ⟨?e0x1, ?e0x2, ?e0x3, ?e0x4, ?e0x5, ?e0x6, ?e0x7, ?e0x8⟩, Dt.kit_ty (by decide +kernel) ?v0, PySem.W.exm_ref ?yb ?yd ?yy ?ys0, Dt.kit_self, Dt.Cc.of ⟨?cci1, ?ccy1⟩ ?s0x1 ?m0x1, Dt.Cc.of ⟨?cci2, ?ccy2⟩ ?s0x2 ?m0x2, Dt.Cc.of ⟨?cci3, ?ccy3⟩ ?s0x3 ?m0x3, Dt.an_cons ⟨?cci4, ?ccy4⟩ ?s0x4 ?m0x4 (Dt.an_cons ⟨?cci5, ?ccy5⟩ ?s0x5 ?m0x5 (Dt.an_cons ⟨?cci6, ?ccy6⟩ ?s0x6 ?m0x6 (Dt.an_cons ⟨?cci7, ?ccy7⟩ ?s0x7 ?m0x7 (Dt.an_cons ⟨?cci8, ?ccy8⟩ ?s0x8 ?m0x8 (Dt.an_cons ⟨?cci9, ?ccy9⟩ ?s0x9 ?m0x9 (Dt.an_cons ⟨?cci10, ?ccy10⟩ ?s0x10 ?m0x10 (Dt.an_cons ⟨?cci11, ?ccy11⟩ ?s0x11 ?m0x11 (Dt.an_nil))))))))⟩, ⟨by decide, ⟨?e1x1, ?e1x2, ?e1x3, ?e1x4, ?e1x5, ?e1x6, ?e1x7, ?e1x8⟩, Dt.kit_ty (by decide +kernel) ?v1, PySem.W.exm_ref ?yb ?yd ?yy ?ys1, Dt.Cc.of ⟨?cci0, ?ccy0⟩ ?s1x0 ?m1x0, Dt.kit_self, Dt.Cc.of ⟨?cci2, ?ccy2⟩ ?s1x2 ?m1x2, Dt.Cc.of ⟨?cci3, ?ccy3⟩ ?s1x3 ?m1x3, Dt.an_cons ⟨?cci4, ?ccy4⟩ ?s1x4 ?m1x4 (Dt.an_cons ⟨?cci5, ?ccy5⟩ ?s1x5 ?m1x5 (Dt.an_cons ⟨?cci6, ?ccy6⟩ ?s1x6 ?m1x6 (Dt.an_cons ⟨?cci7, ?ccy7⟩ ?s1x7 ?m1x7 (Dt.an_cons ⟨?cci8, ?ccy8⟩ ?s1x8 ?m1x8 (Dt.an_cons ⟨?cci9, ?ccy9⟩ ?s1x9 ?m1x9 (Dt.an_cons ⟨?cci10, ?ccy10⟩ ?s1x10 ?m1x10 (Dt.an_cons ⟨?cci11, ?ccy11⟩ ?s1x11 ?m1x11 (Dt.an_nil))))))))⟩, ⟨by decide, ⟨?e2x1, ?e2x2, ?e2x3, ?e2x4, ?e2x5, ?e2x6, ?e2x7, ?e2x8⟩, Dt.kit_ty (by decide +kernel) ?v2, PySem.W.exm_ref ?yb ?yd ?yy ?ys2, Dt.Cc.of ⟨?cci0, ?ccy0⟩ ?s2x0 ?m2x0, Dt.Cc.of ⟨?cci1, ?ccy1⟩ ?s2x1 ?m2x1, Dt.kit_self, Dt.Cc.of ⟨?cci3, ?ccy3⟩ ?s2x3 ?m2x3, Dt.an_cons ⟨?cci4, ?ccy4⟩ ?s2x4 ?m2x4 (Dt.an_cons ⟨?cci5, ?ccy5⟩ ?s2x5 ?m2x5 (Dt.an_cons ⟨?cci6, ?ccy6⟩ ?s2x6 ?m2x6 (Dt.an_cons ⟨?cci7, ?ccy7⟩ ?s2x7 ?m2x7 (Dt.an_cons ⟨?cci8, ?ccy8⟩ ?s2x8 ?m2x8 (Dt.an_cons ⟨?cci9, ?ccy9⟩ ?s2x9 ?m2x9 (Dt.an_cons ⟨?cci10, ?ccy10⟩ ?s2x10 ?m2x10 (Dt.an_cons ⟨?cci11, ?ccy11⟩ ?s2x11 ?m2x11 (Dt.an_nil))))))))⟩, ⟨by decide, ⟨?e3x1, ?e3x2, ?e3x3, ?e3x4, ?e3x5, ?e3x6, ?e3x7, ?e3x8⟩, Dt.kit_ty (by decide +kernel) ?v3, PySem.W.exm_ref ?yb ?yd ?yy ?ys3, Dt.Cc.of ⟨?cci0, ?ccy0⟩ ?s3x0 ?m3x0, Dt.Cc.of ⟨?cci1, ?ccy1⟩ ?s3x1 ?m3x1, Dt.Cc.of ⟨?cci2, ?ccy2⟩ ?s3x2 ?m3x2, Dt.kit_self, Dt.an_cons ⟨?cci4, ?ccy4⟩ ?s3x4 ?m3x4 (Dt.an_cons ⟨?cci5, ?ccy5⟩ ?s3x5 ?m3x5 (Dt.an_cons ⟨?cci6, ?ccy6⟩ ?s3x6 ?m3x6 (Dt.an_cons ⟨?cci7, ?ccy7⟩ ?s3x7 ?m3x7 (Dt.an_cons ⟨?cci8, ?ccy8⟩ ?s3x8 ?m3x8 (Dt.an_cons ⟨?cci9, ?ccy9⟩ ?s3x9 ?m3x9 (Dt.an_cons ⟨?cci10, ?ccy10⟩ ?s3x10 ?m3x10 (Dt.an_cons ⟨?cci11, ?ccy11⟩ ?s3x11 ?m3x11 (Dt.an_nil))))))))⟩⟩ (Dt.tabm ?ta ?tl ?tc ?tm ?tv) ?np
    (case nC2 => k_is)
    (case nP2 => k_is)
    (case nL2 => k_is)
    (case nT2 => k_is)
    (case nD2 => k_is)
    (case ng1 => k_is)
    (case ng2 => k_is)
    (case ng3 => k_is)
    (case ng4 => k_is)
    (case ng5 => k_is)
    (case ng6 => k_is)
    (case ng7 => k_is)
    (case ng8 => k_is)
    (case a0 => k_is)
    (case l0 => k_is)
    (case c0 => k_is)
    (case k0 => k_is)
    (case a1 => k_is)
    (case l1 => k_is)
    (case c1 => k_is)
    (case k1 => k_is)
    (case a2 => k_is)
    (case l2 => k_is)
    (case c2 => k_is)
    (case k2 => k_is)
    (case a3 => k_is)
    (case l3 => k_is)
    (case c3 => k_is)
    (case k3 => k_is)
    (case a4 => k_is)
    (case l4 => k_is)
    (case c4 => k_is)
    (case k4 => k_is)
    (case a5 => k_is)
    (case l5 => k_is)
    (case c5 => k_is)
    (case k5 => k_is)
    (case a6 => k_is)
    (case l6 => k_is)
    (case c6 => k_is)
    (case k6 => k_is)
    (case a7 => k_is)
    (case l7 => k_is)
    (case c7 => k_is)
    (case k7 => k_is)
    (case a8 => k_is)
    (case l8 => k_is)
    (case c8 => k_is)
    (case k8 => k_is)
    (case a9 => k_is)
    (case l9 => k_is)
    (case c9 => k_is)
    (case k9 => k_is)
    (case a10 => k_is)
    (case l10 => k_is)
    (case c10 => k_is)
    (case k10 => k_is)
    (case a11 => k_is)
    (case l11 => k_is)
    (case c11 => k_is)
    (case k11 => k_is)
    (case a12 => k_is)
    (case l12 => k_is)
    (case c12 => k_is)
    (case k12 => k_is)
    (case a13 => k_is)
    (case l13 => k_is)
    (case c13 => k_is)
    (case k13 => k_is)
    (case a14 => k_is)
    (case l14 => k_is)
    (case c14 => k_is)
    (case k14 => k_is)
    (case a15 => k_is)
    (case l15 => k_is)
    (case c15 => k_is)
    (case k15 => k_is)
    (case a16 => k_is)
    (case l16 => k_is)
    (case c16 => k_is)
    (case k16 => k_is)
    (case a17 => k_is)
    (case l17 => k_is)
    (case c17 => k_is)
    (case k17 => k_is)
    (case a18 => k_is)
    (case l18 => k_is)
    (case c18 => k_is)
    (case k18 => k_is)
    (case a19 => k_is)
    (case l19 => k_is)
    (case c19 => k_is)
    (case k19 => k_is)
    (case a20 => k_is)
    (case l20 => k_is)
    (case c20 => k_is)
    (case k20 => k_is)
    (case a21 => k_is)
    (case l21 => k_is)
    (case c21 => k_is)
    (case k21 => k_is)
    (case a22 => k_is)
    (case l22 => k_is)
    (case c22 => k_is)
    (case k22 => k_is)
    (case a23 => k_is)
    (case l23 => k_is)
    (case c23 => k_is)
    (case k23 => k_is)
    (case a24 => k_is)
    (case l24 => k_is)
    (case c24 => k_is)
    (case k24 => k_is)
    (case a25 => k_is)
    (case l25 => k_is)
    (case c25 => k_is)
    (case k25 => k_is)
    (case a26 => k_is)
    (case l26 => k_is)
    (case c26 => k_is)
    (case k26 => k_is)
    (case a27 => k_is)
    (case l27 => k_is)
    (case c27 => k_is)
    (case k27 => k_is)
    (case oa => k_is)
    (case ol => k_is)
    (case oc => k_is)
    (case ok => k_is)
    (case on => k_is)
    (case op => k_is)
    (case pa => k_is)
    (case pl => k_is)
    (case pc => k_is)
    (case pk => k_is)
    (case pn => k_is)
    (case qa => k_is)
    (case ql => k_is)
    (case qc => k_is)
    (case qk => k_is)
    (case qn => k_is)
    (case z0 => k_is)
    (case z1 => k_is)
    (case z2 => k_is)
    (case z3 => k_is)
    (case z4 => k_is)
    (case z5 => k_is)
    (case z6 => k_is)
    (case z7 => k_is)
    (case z8 => k_is)
    (case z9 => k_is)
    (case z10 => k_is)
    (case z11 => k_is)
    (case z12 => k_is)
    (case z13 => k_is)
    (case z14 => k_is)
    (case i0 => k_is)
    (case i1 => k_is)
    (case i2 => k_is)
    (case i3 => k_is)
    (case i4 => k_is)
    (case nk => k_is)
    (case nb => k_is)
    (case nt => k_is)
    (case nx => first | kernel_rfl | decide +kernel | rfl)
    (case pk2 => k_is)
    (case pb => k_is)
    (case pt => k_is)
    (case px => first | kernel_rfl | decide +kernel | rfl)
    (case lk => k_is)
    (case lb => k_is)
    (case lt => k_is)
    (case lx => first | kernel_rfl | decide +kernel | rfl)
    (case sl => k_is)
    (case sr => decide +kernel)
    (case ss => k_is)
    (case se => k_is)
    (case st => k_is)
    (case sk => k_is)
    (case sn => k_is)
    (case si => k_is)
    (case sf => k_is)
    (case sg => k_is)
    (case sc => k_is)
    (case sq => k_is)
    (case x1 => k_is)
    (case x2 => k_is)
    (case x3 => k_is)
    (case x4 => k_is)
    (case s0x1 => k_is)
    (case m0x1 => decide)
    (case s0x2 => k_is)
    (case m0x2 => decide)
    (case s0x3 => k_is)
    (case m0x3 => decide)
    (case s0x11 => k_is)
    (case m0x11 => decide)
    (case s0x10 => k_is)
    (case m0x10 => decide)
    (case s0x9 => k_is)
    (case m0x9 => decide)
    (case s0x8 => k_is)
    (case m0x8 => decide)
    (case s0x7 => k_is)
    (case m0x7 => decide)
    (case s0x6 => k_is)
    (case m0x6 => decide)
    (case s0x5 => k_is)
    (case m0x5 => decide)
    (case s0x4 => k_is)
    (case m0x4 => decide)
    (case e0x1 => k_is)
    (case e0x2 => k_is)
    (case e0x3 => k_is)
    (case e0x4 => k_is)
    (case e0x5 => k_is)
    (case e0x6 => k_is)
    (case e0x7 => k_is)
    (case e0x8 => k_is)
    (case v0 => k_is)
    (case ys0 => k_is)
    (case s1x0 => k_is)
    (case m1x0 => decide)
    (case s1x2 => k_is)
    (case m1x2 => decide)
    (case s1x3 => k_is)
    (case m1x3 => decide)
    (case s1x11 => k_is)
    (case m1x11 => decide)
    (case s1x10 => k_is)
    (case m1x10 => decide)
    (case s1x9 => k_is)
    (case m1x9 => decide)
    (case s1x8 => k_is)
    (case m1x8 => decide)
    (case s1x7 => k_is)
    (case m1x7 => decide)
    (case s1x6 => k_is)
    (case m1x6 => decide)
    (case s1x5 => k_is)
    (case m1x5 => decide)
    (case s1x4 => k_is)
    (case m1x4 => decide)
    (case e1x1 => k_is)
    (case e1x2 => k_is)
    (case e1x3 => k_is)
    (case e1x4 => k_is)
    (case e1x5 => k_is)
    (case e1x6 => k_is)
    (case e1x7 => k_is)
    (case e1x8 => k_is)
    (case v1 => k_is)
    (case ys1 => k_is)
    (case s2x0 => k_is)
    (case m2x0 => decide)
    (case s2x1 => k_is)
    (case m2x1 => decide)
    (case s2x3 => k_is)
    (case m2x3 => decide)
    (case s2x11 => k_is)
    (case m2x11 => decide)
    (case s2x10 => k_is)
    (case m2x10 => decide)
    (case s2x9 => k_is)
    (case m2x9 => decide)
    (case s2x8 => k_is)
    (case m2x8 => decide)
    (case s2x7 => k_is)
    (case m2x7 => decide)
    (case s2x6 => k_is)
    (case m2x6 => decide)
    (case s2x5 => k_is)
    (case m2x5 => decide)
    (case s2x4 => k_is)
    (case m2x4 => decide)
    (case e2x1 => k_is)
    (case e2x2 => k_is)
    (case e2x3 => k_is)
    (case e2x4 => k_is)
    (case e2x5 => k_is)
    (case e2x6 => k_is)
    (case e2x7 => k_is)
    (case e2x8 => k_is)
    (case v2 => k_is)
    (case ys2 => k_is)
    (case s3x0 => k_is)
    (case m3x0 => decide)
    (case s3x1 => k_is)
    (case m3x1 => decide)
    (case s3x2 => k_is)
    (case m3x2 => decide)
    (case s3x11 => k_is)
    (case m3x11 => decide)
    (case s3x10 => k_is)
    (case m3x10 => decide)
    (case s3x9 => k_is)
    (case m3x9 => decide)
    (case s3x8 => k_is)
    (case m3x8 => decide)
    (case s3x7 => k_is)
    (case m3x7 => decide)
    (case s3x6 => k_is)
    (case m3x6 => decide)
    (case s3x5 => k_is)
    (case m3x5 => decide)
    (case s3x4 => k_is)
    (case m3x4 => decide)
    (case e3x1 => k_is)
    (case e3x2 => k_is)
    (case e3x3 => k_is)
    (case e3x4 => k_is)
    (case e3x5 => k_is)
    (case e3x6 => k_is)
    (case e3x7 => k_is)
    (case e3x8 => k_is)
    (case v3 => k_is)
    (case ys3 => k_is)
    (case yb => k_is)
    (case yd => k_is)
    (case yy => k_is)
    (case cci0 => k_is)
    (case ccy0 => k_is)
    (case cci1 => k_is)
    (case ccy1 => k_is)
    (case cci2 => k_is)
    (case ccy2 => k_is)
    (case cci3 => k_is)
    (case ccy3 => k_is)
    (case cci4 => k_is)
    (case ccy4 => k_is)
    (case cci5 => k_is)
    (case ccy5 => k_is)
    (case cci6 => k_is)
    (case ccy6 => k_is)
    (case cci7 => k_is)
    (case ccy7 => k_is)
    (case cci8 => k_is)
    (case ccy8 => k_is)
    (case cci9 => k_is)
    (case ccy9 => k_is)
    (case cci10 => k_is)
    (case ccy10 => k_is)
    (case cci11 => k_is)
    (case ccy11 => k_is)
    (case ta => k_is)
    (case tl => k_is)
    (case tc => rfl)
    (case tm => k_is)
    (case tv => rfl)
    (case np => first | kernel_rfl | decide +kernel | rfl)
