import PyProof.Rows.All
import Wide.All
import OpenK.AllK
import Wide.FinOn
import HandS.ForMost
import HandS.Wide
import HandS.Codes
import PySem.Challenge.RW_dotread_k19_texts_and_words
import PyProof.TypeEq
import PyProof.InstEq
import PyProof.StrBlock2
import HandS.TupMul
import HandS.TupAny
import HandS.More
import PyProof.ListStr
import HandS.ForExc
import HandS.Zip
import KE.GoesMore
import KE.GoesZip
import KE.GoesEnum
import HandS.Deep
import HandS.List
import HandS.Text
import HandS.WideBits
import HandS.ExcValue
import HandS.ExcIs
import HandS.Lambda
import HandS.EndTab
import PyProof.ReprRoads
import HandS.SetFor
import HandS.IsInst
import HandS.ExcInit
import HandS.ExcField
import KE.KExcIs
import HandS.CallLocal
import HandS.Defaults
import HandS.MakeKwOnly
import PyProof.ReprBulk
import HandS.TryOnly
import PyProof.CallFns
import HandS.Flow
set_option Elab.async false
set_option linter.all false
set_option maxRecDepth 100000
set_option maxHeartbeats 4000000
namespace Dt
open PySem PySem.Spec PyProof.Rows L2
def topS (i : Nat) : Stmt := PySem.Challenge.pw_dotread_k19_texts_and_words.main.body.getD i (.Pass ⟨0, 0, 0, 0⟩)
theorem inr_ne {a b : Str} (h : ¬ a = b) : ¬ (Sum.inr a : Key) = Sum.inr b := fun z => h (Sum.inr.inj z)
theorem same_upd {H : Hp} {p : Addr} {o : HO} (h : H p = none) : Same H (upd H p o) := fun b x e => by
  rw [upd_ne (ne_of_none e h)]
  exact e
theorem dpInts {K : PySem.W.Frag} {H : Hp} : ∀ ns : List Int, DpAll K H (ns.map V.int) (ns.map PyData.int)
  | [] => .nil
  | n :: r => .cons (.int n) (dpInts r)
end Dt
/-! rules of our own: types compared, a text times a number -/
namespace TyNe
open PySem PySem.TypeEq
open Sem (wp)
open Builtin
theorem slot_type_ne : Slot "type" (cmpInfo .NotEq).2.1 "object.__ne__" :=
  .of (owner := "object") (n := "__ne__") (by rw [typeLookup_type, builtinLookup_eq_fast]; kernel_rfl) (by decide +kernel) (by decide +kernel) (by decide +kernel)
    (by first | exact .inl (by decide +kernel) | exact .inr (by decide +kernel)) (by rw [isSubtype_type]; kernel_rfl)
theorem slot_type_ne2 : Slot "type" (cmpInfo .NotEq).2.2 "object.__ne__" :=
  .of (owner := "object") (n := "__ne__") (by rw [typeLookup_type, builtinLookup_eq_fast]; kernel_rfl) (by decide +kernel) (by decide +kernel) (by decide +kernel)
    (by first | exact .inl (by decide +kernel) | exact .inr (by decide +kernel)) (by rw [isSubtype_type]; kernel_rfl)
section
variable {prog : Program} {w : World} {A : Around} {E : Value → Shared → Prop} {s : Shared}
theorem call_ne_same {X : String} {Q : Value → Shared → Prop} (hX : ∀ s' : Shared, s'.TypeIs (.type X) "type") (h : Q (.bool false) s) : wpAny (model prog w) A (call (.builtin "object.__ne__") [.type X, .type X]) Q E s := by
  refine wpAny_call (codeAny_call_builtin slot_type_ne.plain F.cmpEntry_ne (slot_type_ne.check _ _ _ _ _ _ _ _ (hX s) (F.cmpArgs_ne _ _) ?_))
  unfold Builtin.«object.__ne__»
  repeat (first
    | with_reducible refine wpAny_cRoomFor_or (.inl rfl) ?_
    | (refine wpAny_bind (m := callSpecialIfBound? (.type X) (Str.ofString "__eq__") [.type X])
        (wpAny_callSpecialIfBound?_slot (hX _) slot_type_eq (call_gives slot_type_eq (hX _) F.entry_object_eq (F.args_object_eq_2 _ _) (object_eq_same rfl (by simp)) ?_)))
    | wp_step)
  show wpAny (model prog w) A.in1 (truthy (.bool true) >>= fun b => ret (.bool !b)) _ _ _
  exact wpAny_bind (wpAny_truthy_bool (wpAny_pure h))
theorem call_ne_other {X Y : String} {Q : Value → Shared → Prop} (hX : ∀ s' : Shared, s'.TypeIs (.type X) "type") (hne : (Value.type X == Value.type Y) = false) (h : Q .notImplemented s) : wpAny (model prog w) A (call (.builtin "object.__ne__") [.type X, .type Y]) Q E s := by
  refine wpAny_call (codeAny_call_builtin slot_type_ne.plain F.cmpEntry_ne (slot_type_ne.check _ _ _ _ _ _ _ _ (hX s) (F.cmpArgs_ne _ _) ?_))
  unfold Builtin.«object.__ne__»
  repeat (first
    | with_reducible refine wpAny_cRoomFor_or (.inl rfl) ?_
    | (refine wpAny_bind (m := callSpecialIfBound? (.type X) (Str.ofString "__eq__") [.type Y])
        (wpAny_callSpecialIfBound?_slot (hX _) slot_type_eq (call_gives slot_type_eq (hX _) F.entry_object_eq (F.args_object_eq_2 _ _) (object_eq_other rfl hne) ?_)))
    | wp_step)
  show wpAny (model prog w) A.in1 (ret .notImplemented) _ _ _
  exact wpAny_pure h
theorem ne_type_same {X : String} {Q : Value → Shared → Prop} (hX : ∀ s' : Shared, s'.TypeIs (.type X) "type") (h : Q (.bool false) s) : wpAny (model prog w) A (compareOp .NotEq (.type X) (.type X)) Q E s := by
  show wpAny _ A (richCompare .NotEq _ _) Q E s
  exact wpAny_richCompare_same (T := "type") (hX s) (hX s) slot_type_ne (call_ne_same hX ⟨(by intro e; cases e), h⟩)
theorem ne_type_other {X Y : String} {Q : Value → Shared → Prop} (hX : ∀ s' : Shared, s'.TypeIs (.type X) "type") (hY : ∀ s' : Shared, s'.TypeIs (.type Y) "type") (hne : (Value.type X == Value.type Y) = false) (h : Q (.bool true) s) :
    wpAny (model prog w) A (compareOp .NotEq (.type X) (.type Y)) Q E s := by
  have hne' : (Value.type Y == Value.type X) = false := by
    rw [Bool.eq_false_iff] at hne ⊢
    intro e
    exact hne (by rw [beq_iff_eq] at e ⊢; exact e.symm)
  show wpAny _ A (richCompare .NotEq _ _) Q E s
  have h1 := slot_type_ne
  have h2 := slot_type_ne2
  rcases hi : cmpInfo CmpOp.NotEq with ⟨sym, f, r⟩
  rw [hi] at h1 h2
  simp only [richCompare, hi, (hX s).oneThing_none]
  try with_reducible refine wpAny_holding ?_
  refine wpAny_bind (wpAny_cRoomFor_or (.inl rfl) ?_)
  refine wpAny_bind (wpAny_typeOf (hX s) (wpAny_bind (wpAny_typeOf (hY s) ?_)))
  simp only [bne_self_eq_false, Bool.false_eq_true, if_false, pure_bind, Bool.not_false, if_true]
  refine wpAny_bind (m := tryCompare _ _ _) (wpAny_tryCompare_declines (hX s) h1 (call_ne_other hX hne ⟨rfl, ?_⟩))
  refine wpAny_bind (m := tryCompare _ _ _) (wpAny_tryCompare_declines (hY _) h2 (call_ne_other hY hne' ⟨rfl, ?_⟩))
  refine wpAny_bind (wpAny_rule (wpAny_bind (wpAny_of_eq (a := false) (by rw [isSame_plain rfl, hne]) (wpAny_pure h))))
end
end TyNe
namespace L2X
open PySem PySem.Spec PyProof.Rows L2
/-- the built-in classes that are compared here -/
def tyOk (a : String) : Bool := a = "int" ∨ a = "str" ∨ a = "bool" ∨ a = "NoneType" ∨ a = "list" ∨ a = "tuple" ∨ a = "dict"
theorem tyOk_is {a : String} (h : tyOk a = true) : ∀ s' : Shared, s'.TypeIs (.type a) "type" := by
  unfold tyOk at h
  rcases of_decide_eq_true h with rfl | rfl | rfl | rfl | rfl | rfl | rfl
  · exact TypeEq.meta_int
  · exact TypeEq.meta_str
  · exact TypeEq.meta_bool
  · exact TypeEq.meta_NoneType
  · exact TypeEq.meta_list
  · exact TypeEq.meta_tuple
  · exact TypeEq.meta_dict
theorem ty_ne {a b : String} (h : a ≠ b) : (Value.type a == Value.type b) = false := beq_eq_false_iff_ne.mpr fun z => h (Value.type.inj z)
def rTyC (g : Bool → Bool) : R2 := fun x y H Q => ∃ a b, x = .ty a ∧ y = .ty b ∧ tyOk a = true ∧ tyOk b = true ∧ Q (.bl (g (decide (a = b)))) H
section
variable {X : Cx}
theorem op_eq_ty : OpR X (compareOp .Eq) (rTyC id) := by
  intro pins s σ H x y v u Q I rx ry h
  obtain ⟨a, b, rfl, rfl, ha, hb, q⟩ := h
  cases (show v = Value.type a from rx)
  cases (show u = Value.type b from ry)
  by_cases e : a = b
  · subst e
    refine TypeEq.eq_type_same (tyOk_is ha) ⟨.bl true, H, I, rfl, ?_⟩
    rw [decide_eq_true rfl] at q
    exact q
  · refine TypeEq.eq_type_other (tyOk_is ha) (tyOk_is hb) (ty_ne e) ⟨.bl false, H, I, rfl, ?_⟩
    rw [decide_eq_false e] at q
    exact q
theorem op_ne_ty : OpR X (compareOp .NotEq) (rTyC not) := by
  intro pins s σ H x y v u Q I rx ry h
  obtain ⟨a, b, rfl, rfl, ha, hb, q⟩ := h
  cases (show v = Value.type a from rx)
  cases (show u = Value.type b from ry)
  by_cases e : a = b
  · subst e
    refine TyNe.ne_type_same (tyOk_is ha) ⟨.bl false, H, I, rfl, ?_⟩
    rw [decide_eq_true rfl] at q
    exact q
  · refine TyNe.ne_type_other (tyOk_is ha) (tyOk_is hb) (ty_ne e) ⟨.bl true, H, I, rfl, ?_⟩
    rw [decide_eq_false e] at q
    exact q
/-- text * n -/
theorem op_mul_str : OpR X (binaryOp .Mult) (fun x y H Q => ∃ z n, x = .str z ∧ y = .int n ∧ MulOk z n ∧ Q (.str (Txt.mul z n)) H) := by
  intro pins s σ H x y v u Q I rx ry h
  obtain ⟨z, n, rfl, rfl, hk, q⟩ := h
  obtain ⟨t, rfl⟩ := rx
  obtain ⟨t', rfl⟩ := ry
  exact SB.mul hk fun t' k => ⟨.str _, H, I.tok _, ⟨_, rfl⟩, q⟩
end
end L2X
namespace Dt
open PySem PySem.Spec PyProof.Rows L2 L2X
open SX (S)
/-- the built-ins that are named in the text -/
structure Tx (mg : Str → Option Value) : Prop where
  len : mg "len" = none
  range : mg "range" = none
  tuple : mg "tuple" = none
  list : mg "list" = none
  int : mg "int" = none
/-! ### rows and pictures -/
def rv (l : List Nat) : V := .str (S l)
structure RowR (wide : Nat) (l : List Nat) : Prop where
  len : l.length = wide
  sg : ∀ c ∈ l, c = 35 ∨ c = 46
structure PicR (high wide : Nat) (rs : List (List Nat)) : Prop where
  len : rs.length = high
  row : ∀ l ∈ rs, RowR wide l
  h0 : 1 ≤ high
  h1 : high ≤ 60
  w0 : 1 ≤ wide
  w1 : wide ≤ 120
theorem s_dot : ("." : Str) = S [46] := by decide +kernel
theorem s_hash : ("#" : Str) = S [35] := by decide +kernel
theorem s_empty : ("" : Str) = S [] := by decide +kernel
/-! ### a sign many times; signs joined -/
theorem fold_rep (c : Nat) : ∀ (n : Nat) (acc : Array Nat), (List.replicate n #[c]).foldl (· ++ ·) acc = acc ++ (List.replicate n c).toArray
  | 0, acc => by simp
  | n + 1, acc => by
    rw [List.replicate_succ, List.foldl_cons, fold_rep c n (acc ++ #[c]), List.replicate_succ]
    apply Array.ext'
    simp
theorem mul_sign (c n : Nat) (h : 1 ≤ n) : Txt.mul (S [c]) (n : Int) = S (List.replicate n c) := by
  unfold Txt.mul
  rw [if_neg (by omega)]
  by_cases e : n = 1
  · subst e
    rfl
  · have e1 : (((n : Int) == 1) || (S [c]).length == 0) = false := by
      have a1 : ((n : Int) == 1) = false := by
        rw [beq_eq_false_iff_ne]
        omega
      rw [a1]
      rfl
    rw [e1, if_neg Bool.false_ne_true]
    have q := fold_rep c n #[]
    show (⟨(List.replicate (n : Int).toNat #[c]).foldl (· ++ ·) #[]⟩ : Str) = _
    rw [Int.toNat_natCast, q]
    simp [S]
theorem mul_ok (c n : Nat) (h : 1 ≤ n) (h2 : n ≤ 120) : MulOk (S [c]) (n : Int) := by
  refine ⟨?_, fun _ _ => ?_, fun _ _ => ?_⟩
  · rw [Bool.or_eq_false_iff, decide_eq_false_iff_not, decide_eq_false_iff_not]
    omega
  · show ¬ ((1 : Nat) : Int) > (2 ^ 63 - 1) / (n : Int)
    have : (1 : Int) ≤ (2 ^ 63 - 1) / (n : Int) := (Int.le_ediv_iff_mul_le (by omega)).mpr (by omega)
    omega
  · have e : (S [c]).length * (n : Int).toNat = n := by
      show 1 * (n : Int).toNat = n
      omega
    rw [e]
    unfold Builtin.Str.tooLong
    have z : n ≤ sizeLine := Nat.le_of_lt (small1000 (by omega))
    first
      | (rw [decide_eq_false_iff_not]; omega)
      | (simp; omega)
theorem joinL_ones : ∀ cs : List Nat, TL.joinL [] (cs.map fun c => [c]) = cs
  | [] => rfl
  | [c] => rfl
  | c :: d :: r => by
    show [c] ++ ([] ++ TL.joinL [] ((d :: r).map fun c => [c])) = _
    rw [joinL_ones (d :: r)]
    rfl
theorem join_ones (cs : List Nat) : Txt.join "" (cs.map fun c => S [c]) = S cs := by
  rw [s_empty]
  have e := SX.join_S [] (cs.map fun c => [c])
  rw [joinL_ones, List.map_map] at e
  exact e
theorem lens_ones : ∀ cs : List Nat, ((cs.map fun c => S [c]).map (·.length)).sum = cs.length
  | [] => rfl
  | c :: r => by
    show 1 + ((r.map fun c => S [c]).map (·.length)).sum = r.length + 1
    rw [lens_ones r, Nat.add_comm]
theorem row_rep (c wide : Nat) (h : c = 35 ∨ c = 46) : RowR wide (List.replicate wide c) := ⟨List.length_replicate, fun x hx => by rw [(List.mem_replicate.mp hx).2]; exact h⟩
end Dt
namespace Dt
open PySem PySem.Spec PyProof.Rows L2 L2X
open SX (S)
/-! ### what is a picture -/
def rowOk : V → Bool
  | .str x => decide (1 ≤ x.length) && decide (x.length ≤ 120) && decide (Txt.count x "#" + Txt.count x "." = (x.length : Int))
  | _ => false
theorem rowOk_str (x : Str) : rowOk (.str x) = (decide (1 ≤ x.length) && decide (x.length ≤ 120) && decide (Txt.count x "#" + Txt.count x "." = (x.length : Int))) := rfl
def lenV : V → Int
  | .str x => x.length
  | _ => 0
def picOk (xs : List V) : Bool := decide (1 ≤ xs.length) && decide (xs.length ≤ 60) && xs.all rowOk && xs.all fun y => decide (lenV y = lenV (xs.headD .non))
/-- a thing of a known kind -/
def Kn (K : PySem.W.Frag) (H : Hp) (x : V) : Prop := (∃ T, TyB K H x T ∧ tyOk T = true) ∧ ∀ z, x = .str z → z.length ≤ sizeLine
structure Tp (mg : Str → Option Value) : Prop where
  typ : mg "type" = none
  str : mg "str" = none
  all : mg "all" = none
  mr : ∃ t, mg "MOST_ROWS" = some (.int 60 t)
  mc : ∃ t, mg "MOST_COLUMNS" = some (.int 120 t)
abbrev sIsText : Stmt := topS 18
theorem scIsText : FnScope ["thing"] ["thing"] (defScope sIsText) := ⟨rfl, rfl, rfl, by decide +kernel, rfl, by decide +kernel, by decide +kernel⟩
def isStr : V → Bool
  | .str _ => true
  | _ => false
def spIsText (K : PySem.W.Frag) : Sp := fun vs H Q _ => ∃ x, vs = [x] ∧ Kn K H x ∧ Q (.bl (isStr x)) H
abbrev sIsRow : Stmt := topS 25
theorem scIsRow : FnScope ["thing"] ["thing"] (defScope sIsRow) := ⟨rfl, rfl, rfl, by decide +kernel, rfl, by decide +kernel, by decide +kernel⟩
def spIsRow (K : PySem.W.Frag) : Sp := fun vs H Q _ => ∃ x, vs = [x] ∧ Kn K H x ∧ Q (.bl (rowOk x)) H
theorem isStr_ty {K : PySem.W.Frag} {H : Hp} {x : V} {T : String} (t : TyB K H x T) : decide (T = "str") = isStr x := by
  cases t <;> rfl
section
variable {P : Program} {w : World} {K : PySem.W.Frag} {mg : Str → Option Value} {base : Heap}
theorem ok_isText {f : Addr} {fd : FuncData} {k : Nat} (F : Fun K "is_text" "is_text" sIsText f fd) (T : Tp mg) : FnOk P w K mg base CX0 (k + 1) f fd ["thing"] (spIsText K) := by
  refine F.ok scIsText (fun vs H Q E h => ?_) (fun cdv A outer s H vs Q E hr h => ?_)
  · obtain ⟨x, rfl, _⟩ := h
    rfl
  · obtain ⟨x, rfl, ⟨⟨Ty, ht, ok⟩, _⟩, q⟩ := h
    refine ⟨_, pss_one (ps_ret (pe_cmpR op_eq_ty (pe_callTy call_type1 (by rfl) T.typ (by decide +kernel) (pa_cons (pv 0) pa_nil)) (pe_bltn (v := .ty "str") (u := .type "str") (by rfl) T.str (by decide +kernel) rfl) (nomark _))), ?_⟩
    refine ⟨x, rfl, x, Ty, rfl, ht, Ty, "str", rfl, rfl, ok, rfl, ?_⟩
    have e : id (decide (Ty = "str")) = isStr x := isStr_ty ht
    rw [e]
    exact q
theorem ok_isRow {f fT : Addr} {fd fdT : FuncData} {k : Nat} (F : Fun K "_is_row" "_is_row" sIsRow f fd) (T : Tp mg) (X : Tx mg) (GT : FnOk P w K mg base CX0 (k + 1) fT fdT ["thing"] (spIsText K)) (mT : mg "is_text" = some (.ref fT)) (kT : PySem.W.keepIn K (.ref fT) = true) (bT : Binds K fdT ["thing"] []) : FnOk P w K mg base CX0 (k + 2) f fd ["thing"] (spIsRow K) := by
  refine F.ok scIsRow (fun vs H Q E h => ?_) (fun cdv A outer s H vs Q E hr h => ?_)
  · obtain ⟨x, rfl, _⟩ := h
    rfl
  · obtain ⟨x, rfl, kn, q⟩ := h
    obtain ⟨t, hmc⟩ := T.mc
    refine ⟨_, pss_cons (ps_if (PW.pt (pw_or (pt_not (pt_val (pe_call GT hr (by rfl) mT kT bT .nil pass0 (pa_cons (pv 0) pa_nil)))) (pw_or1 (pt_not (pt_chain op_le op_le pe_int (pe_callB call_len_str (by rfl) X.len PySem.boot_len (pa_cons (pv 0) pa_nil)) (pe_glob (v := .int 120) (by rfl) hmc ⟨_, rfl⟩))))))
        (pss_one (ps_ret pe_bl)) pss_nil)
      (pss_one (ps_ret (pe_cmpR op_eq (pe_op op_add (pe_m1 PySem.F.slot_str_count PySem.F.type_str_count mt_count (pv 0) pe_str) (pe_m1 PySem.F.slot_str_count PySem.F.type_str_count mt_count (pv 0) pe_str)) (pe_callB call_len_str (by rfl) X.len PySem.boot_len (pa_cons (pv 0) pa_nil)) (nomark _)))), ?_⟩
    refine ⟨x, rfl, x, rfl, kn, _, rfl, ?_⟩
    cases x with
    | str z =>
      have hz := kn.2 z rfl
      refine iteF ?_
      refine ⟨.str z, rfl, z, rfl, hz, 1, _, rfl, rfl, _, rfl, ?_⟩
      refine ite2 (fun e => ?_) (fun e => ?_)
      · refine ⟨_, 120, rfl, rfl, _, rfl, ite2 (fun e2 => ?_) (fun e2 => ?_)⟩
        · have e3 : ¬ z.length ≤ 120 := fun le => by
            have : decide ((z.length : Int) ≤ 120) = true := decide_eq_true (by omega)
            rw [this] at e2
            cases e2
          have e4 : rowOk (.str z) = false := by
            rw [rowOk_str, decide_eq_false e3, Bool.and_false, Bool.false_and]
          rw [e4] at q
          exact q
        · have e3 : z.length ≤ 120 := by
            have h1 : ¬ ((!decide ((z.length : Int) ≤ 120)) = true) := e2
            have h2 : decide ((z.length : Int) ≤ 120) = true := by
              cases hh : decide ((z.length : Int) ≤ 120) with
              | true => rfl
              | false =>
                rw [hh] at h1
                exact absurd rfl h1
            have := of_decide_eq_true h2
            omega
          have e1 : 1 ≤ z.length := by
            have := of_decide_eq_true e
            omega
          refine ⟨.str z, rfl, ⟨_, rfl⟩, z, "#", rfl, rfl, .str z, rfl, ⟨_, rfl⟩, z, ".", rfl, rfl, _, _, rfl, rfl, .str z, rfl, z, rfl, hz, rfl, ?_⟩
          have e4 : rowOk (.str z) = decide (V.int (Txt.count z "#" + Txt.count z ".") = V.int (z.length : Int)) := by
            rw [rowOk_str, decide_eq_true e1, decide_eq_true e3, Bool.true_and, Bool.true_and]
            exact Bool.eq_iff_iff.mpr ⟨fun h => decide_eq_true (congrArg V.int (of_decide_eq_true h)), fun h => decide_eq_true (V.int.inj (of_decide_eq_true h))⟩
          rw [e4] at q
          exact q
      · have e1 : ¬ 1 ≤ z.length := fun le => e (decide_eq_true (by omega))
        have e4 : rowOk (.str z) = false := by
          rw [rowOk_str, decide_eq_false e1, Bool.false_and, Bool.false_and]
        rw [e4] at q
        exact ⟨_, rfl, q⟩
    | _ => exact iteT (iteT q)
/-! ### is_picture -/
abbrev sIsPic : Stmt := topS 24
theorem scIsPic : FnScope ["thing", "row"] ["thing"] (defScope sIsPic) := ⟨rfl, rfl, rfl, by decide +kernel, rfl, by decide +kernel, by decide +kernel⟩
/-- a thing as is_picture may be asked: no tuple, or a tuple whose items are of known kinds -/
def Asked (K : PySem.W.Frag) (H : Hp) (x : V) (b : Bool) : Prop :=
  (∃ T, TyB K H x T ∧ tyOk T = true ∧ T ≠ "tuple" ∧ b = false) ∨ ∃ a xs, x = .ref a ∧ SqT K H a xs ∧ (xs.length ≤ 60 → ∀ y ∈ xs, Kn K H y) ∧ b = picOk xs
def spIsPic (K : PySem.W.Frag) : Sp := fun vs H Q _ => ∃ x b, vs = [x] ∧ Asked K H x b ∧ ∀ H', Same H H' → Q (.bl b) H'
theorem sameT {K : PySem.W.Frag} {H H' : Hp} {a : Addr} {xs : List V} (e : Same H H') (h : SqT K H a xs) : SqT K H' a xs := by
  rcases h with (h | ⟨o, h⟩) | h
  · exact .inl (.inl (e _ _ h))
  · exact .inl (.inr ⟨o, e _ _ h⟩)
  · exact .inr h
theorem Kn.same {H H' : Hp} {x : V} (h : Kn K H x) (s : Same H H') : Kn K H' x := by
  obtain ⟨⟨T, t, ok⟩, hz⟩ := h
  refine ⟨⟨T, ?_, ok⟩, hz⟩
  cases t with
  | non => exact .non
  | bl b => exact .bl b
  | int i => exact .int i
  | str x => exact .str x
  | byt b => exact .byt b
  | lst h => exact .lst (s.seq h)
  | tup h => exact .tup (sameT s h)
  | dK h => exact .dK (s _ _ h)
theorem iteE {c : Bool} {A B : Prop} (e : c = false) (h : B) : if c = true then A else B := by
  rw [e]
  exact iteF h
theorem iteY {c : Bool} {A B : Prop} (e : c = true) (h : A) : if c = true then A else B := by
  rw [e]
  exact iteT h
theorem take_snoc {α : Type} {xs : List α} {i : Nat} {x : α} (h : xs[i]? = some x) : xs.take (i + 1) = xs.take i ++ [x] := by
  rw [List.take_add_one, h]
  rfl
theorem all_map_id {α : Type} (f : α → Bool) : ∀ xs : List α, (xs.map f).all id = xs.all f
  | [] => rfl
  | x :: r => by
    show (id (f x) && (r.map f).all id) = (f x && r.all f)
    rw [all_map_id f r]
    rfl
theorem bls {α : Type} (f : α → Bool) (xs : List α) : xs.map (fun y => V.bl (f y)) = (xs.map f).map V.bl := by
  rw [List.map_map]
  rfl
theorem ok_isPic {f fR : Addr} {fd fdR : FuncData} {k : Nat} (F : Fun K "is_picture" "is_picture" sIsPic f fd) (T : Tp mg) (X : Tx mg) (GR : FnOk P w K mg base CX0 (k + 1) fR fdR ["thing"] (spIsRow K)) (mR : mg "_is_row" = some (.ref fR)) (kR : PySem.W.keepIn K (.ref fR) = true) (bR : Binds K fdR ["thing"] []) : FnOk P w K mg base CX0 (k + 2) f fd ["thing"] (spIsPic K) := by
  refine F.ok scIsPic (fun vs H Q E h => ?_) (fun cdv A outer s H vs Q E hr h => ?_)
  · obtain ⟨x, b, rfl, _⟩ := h
    rfl
  · obtain ⟨x, b, rfl, ask, q⟩ := h
    obtain ⟨t, hmr⟩ := T.mr
    have nd := scIsPic.nd
    refine ⟨_, pss_cons (ps_if (PW.pt (pw_or (pt_cmpR op_ne_ty (pe_callTy call_type1 (by rfl) T.typ (by decide +kernel) (pa_cons (pv 0) pa_nil)) (pe_bltn (v := .ty "tuple") (u := .type "tuple") (by rfl) X.tuple (by decide +kernel) rfl) (nomark _)) (pw_or1 (pt_not (pt_chain op_le op_le pe_int (pe_callB call_len_seq (by rfl) X.len PySem.boot_len (pa_cons (pv 0) pa_nil)) (pe_glob (v := .int 60) (by rfl) hmr ⟨_, rfl⟩))))))
        (pss_one (ps_ret pe_bl)) pss_nil)
      (pss_cons (ps_if (pt_not (pt_val (pe_callB (cr_all rfl) (by rfl) T.all (by decide +kernel) (pa_cons (pe_lc (own := [("row", 1)]) (g := gName 1) (tt := tYes) rfl nd (pi_tup (pv 0)) (blkOk_by (N := ["thing", "row"]) (sc := defScope sIsPic) (by decide +kernel)) (fun _ _ _ _ _ => pg_name (i := 1) nd rfl (Or.inl rfl)) (fun _ _ _ _ _ => pts_nil)
            (fun _ _ _ _ _ => pe_call GR hr (by rfl) mR kR bR .nil pass0 (pa_cons (pv 1) pa_nil))) pa_nil)))) (pss_one (ps_ret pe_bl)) pss_nil)
      (pss_one (ps_ret (pe_callB (cr_all rfl) (by rfl) T.all (by decide +kernel) (pa_cons (pe_lc (own := [("row", 1)]) (g := gName 1) (tt := tYes) rfl nd (pi_tup (pv 0)) (blkOk_by (N := ["thing", "row"]) (sc := defScope sIsPic) (by decide +kernel)) (fun _ _ _ _ _ => pg_name (i := 1) nd rfl (Or.inl rfl)) (fun _ _ _ _ _ => pts_nil)
            (fun _ _ _ _ _ => pe_cmpR op_eq (pe_callB call_len_str (by rfl) X.len PySem.boot_len (pa_cons (pv 1) pa_nil)) (pe_callB call_len_str (by rfl) X.len PySem.boot_len (pa_cons (pe_ix (r := rIxT K) ix_tup (pv 0) pe_int (fun _ _ => rfl)) pa_nil)) (nomark _))) pa_nil))))), ?_⟩
    rcases ask with ⟨Ty, ht, ok, ne, rfl⟩ | ⟨a, xs, rfl, hx, kn, rfl⟩
    · refine ⟨x, rfl, x, Ty, rfl, ht, Ty, "tuple", rfl, rfl, ok, rfl, _, rfl, ?_⟩
      have e : not (decide (Ty = "tuple")) = true := by rw [decide_eq_false ne]; rfl
      exact iteY e (q H (Same.refl H))
    · refine ⟨.ref a, rfl, .ref a, "tuple", rfl, .tup hx, "tuple", "tuple", rfl, rfl, rfl, rfl, _, rfl, iteE (by decide) ?_⟩
      refine ⟨.ref a, rfl, a, xs, rfl, .inr hx, 1, _, rfl, rfl, _, rfl, ite2 (fun e => ?_) (fun e => ?_)⟩
      · have e1 : 1 ≤ xs.length := by
          have := of_decide_eq_true e
          omega
        refine ⟨_, 60, rfl, rfl, _, rfl, ite2 (fun e2 => ?_) (fun e2 => ?_)⟩
        · have e3 : ¬ xs.length ≤ 60 := fun le => by
            have : decide ((xs.length : Int) ≤ 60) = true := decide_eq_true (by omega)
            rw [this] at e2
            cases e2
          have z : picOk xs = false := by
            unfold picOk
            rw [decide_eq_false e3, Bool.and_false, Bool.false_and, Bool.false_and]
          rw [z] at q
          exact q H (Same.refl H)
        · have e3 : xs.length ≤ 60 := by
            have h1 : ¬ ((!decide ((xs.length : Int) ≤ 60)) = true) := e2
            have h2 : decide ((xs.length : Int) ≤ 60) = true := by
              cases hh : decide ((xs.length : Int) ≤ 60) with
              | true => rfl
              | false =>
                rw [hh] at h1
                exact absurd rfl h1
            have := of_decide_eq_true h2
            omega
          have kn' := kn e3
          refine ⟨.ref a, rfl, a, rfl, ⟨_, hx⟩, fun Dd hDd => lc_tup (K := K) (a := a) (xs := xs) (fun i H2 => Same H H2 ∧ H2 Dd = some (.lst ((xs.take i).map fun y => V.bl (rowOk y)))) ⟨same_upd hDd, upd_same⟩ (fun i H2 _ z => sameT z.1 hx) ?_ ?_⟩
          · rintro i y H2 hi ⟨sm, h2⟩
            have hm : y ∈ xs := List.mem_of_getElem? hi
            refine ⟨rfl, y, rfl, y, rfl, (kn' y hm).same sm, _, h2, ?_, ?_, ?_⟩
            · rw [List.length_map, List.length_take]
              exact small1000 (by omega)
            · exact fun b o e => by
                rw [upd_ne (ne_of_none e hDd)]
                exact sm _ _ e
            · rw [upd_same, take_snoc hi, List.map_append]
              rfl
          · rintro H2 ⟨sm, h2⟩
            rw [List.take_length, bls] at h2
            refine ⟨Dd, xs.map rowOk, rfl, SqL.of h2, _, rfl, ?_⟩
            rw [all_map_id]
            cases eall : xs.all rowOk with
            | false =>
              have z : picOk xs = false := by
                unfold picOk
                rw [eall, Bool.and_false, Bool.false_and]
              rw [z] at q
              exact q H2 sm
            | true =>
              have hx2 : SqT K H2 a xs := sameT sm hx
              obtain ⟨x0, r0, rfl⟩ : ∃ x0 r0, xs = x0 :: r0 := by
                cases xs with
                | nil => exact absurd e1 (by decide)
                | cons x0 r0 => exact ⟨x0, r0, rfl⟩
              have isS : ∀ y ∈ x0 :: r0, ∃ z : Str, y = .str z ∧ z.length ≤ sizeLine := fun y hy => by
                have h := List.all_eq_true.mp eall y hy
                cases y with
                | str z => exact ⟨z, rfl, (kn' _ hy).2 z rfl⟩
                | _ => cases h
              obtain ⟨z0, ez0, hz0⟩ := isS x0 List.mem_cons_self
              refine ⟨.ref a, rfl, a, rfl, ⟨_, hx2⟩, fun D2 hD2 => lc_tup (K := K) (a := a) (xs := x0 :: r0) (fun i H3 => Same H2 H3 ∧ H3 D2 = some (.lst (((x0 :: r0).take i).map fun y => V.bl (decide (lenV y = lenV x0))))) ⟨same_upd hD2, upd_same⟩ (fun i H3 _ z => sameT z.1 hx2) ?_ ?_⟩
              · rintro i y H3 hi ⟨sm3, h3⟩
                have hm : y ∈ x0 :: r0 := List.mem_of_getElem? hi
                obtain ⟨zy, ey, hzy⟩ := isS y hm
                refine ⟨rfl, y, rfl, zy, by rw [ey], hzy, .ref a, rfl, a, x0 :: r0, 0, x0, rfl, rfl, sameT sm3 hx2, atI_nat (j := 0) rfl, z0, by rw [ez0], hz0, rfl, _, h3, ?_, ?_, ?_⟩
                · rw [List.length_map, List.length_take]
                  exact small1000 (by omega)
                · exact fun b o e => by
                    rw [upd_ne (ne_of_none e hD2)]
                    exact sm3 _ _ e
                · rw [upd_same, take_snoc hi, List.map_append]
                  have e5 : decide (V.int (zy.length : Int) = V.int (z0.length : Int)) = decide (lenV y = lenV x0) := by
                    rw [ey, ez0]
                    exact Bool.eq_iff_iff.mpr ⟨fun h => decide_eq_true (V.int.inj (of_decide_eq_true h)), fun h => decide_eq_true (congrArg V.int (of_decide_eq_true h))⟩
                  rw [e5]
                  rfl
              · rintro H3 ⟨sm3, h3⟩
                rw [List.take_length, bls] at h3
                refine ⟨D2, _, rfl, SqL.of h3, ?_⟩
                rw [all_map_id]
                have z : picOk (x0 :: r0) = (x0 :: r0).all fun y => decide (lenV y = lenV x0) := by
                  unfold picOk
                  rw [eall, decide_eq_true e1, decide_eq_true e3]
                  rfl
                rw [z] at q
                exact q H3 (sm.trans sm3)
      · have e1 : ¬ 1 ≤ xs.length := fun le => e (decide_eq_true (by omega))
        have z : picOk xs = false := by
          unfold picOk
          rw [decide_eq_false e1, Bool.false_and, Bool.false_and, Bool.false_and]
        rw [z] at q
        exact ⟨_, rfl, q H (Same.refl H)⟩
end
end Dt
namespace L2X
open PySem PySem.Spec PyProof.Rows L2
section
variable {X : Cx}
/-- a tuple once is itself -/
theorem tuple_mul1 (l : Addr) (items : Array Value) (n : Nat) (dd : Option Addr) (sl : Array (Option Value)) (u : Tok) :
    Meets (Builtin.«tuple.__mul__» ⟨[.ref l, .int 1 u], []⟩) (fun _ R s => s.heap.get? l = some { cls := .type "tuple", dict := dd, data := .seq items n, slots := sl } ∧ R (.ok (.ret (Value.ref l))) s) :=
  .of_wp fun prog w A R s h => by
    obtain ⟨hp, g, d, tk, os⟩ := s
    obtain ⟨hl, h⟩ := h
    have f1 := AutoSeq1.idx_int
    wp_walk using wpAny_loadPart' hl
    exact ⟨_, rfl, h⟩
/-- list(text) -/
theorem vals_signs : ∀ (l : List Nat) (its : List Value), l.length = its.length → (∀ (j : Nat) (v : Value), its[j]? = some v → ∃ (c : Nat) (u : Tok), l[j]? = some c ∧ v = Value.str ⟨#[c]⟩ u) → Vals (l.map fun c => V.str ⟨#[c]⟩) its
  | [], [], _, _ => .nil
  | [], _ :: _, h, _ => by cases h
  | _ :: _, [], h, _ => by cases h
  | c :: r, v :: t, h, g => by
    obtain ⟨c', u, e1, e2⟩ := g 0 v rfl
    have e3 : c = c' := Option.some.inj e1
    subst e3
    refine .cons ⟨u, e2⟩ (vals_signs r t (Nat.succ.inj h) fun j w e => ?_)
    obtain ⟨c2, u2, e4, e5⟩ := g (j + 1) w e
    exact ⟨c2, u2, e4, e5⟩
theorem call_listS (hc : X.calm = true) : CallR X (.type "list") (fun xs H Q => ∃ x : Str, xs = [.str x] ∧ x.length ≤ sizeLine ∧ ∀ l, H l = none → Q (.ref l) (upd H l (.lst (x.cps.toList.map fun c => V.str ⟨#[c]⟩)))) := by
  intro pins s σ H xs us Q I r h
  obtain ⟨x, rfl, hx, q⟩ := h
  obtain ⟨u, rfl, t, rfl⟩ := vals1 r
  refine call_list_str (I.ok.hd hc) x t (fun h' tk acc c' keeps got it => ?_) hx
  have hl : x.cps.toList.length = acc.toList.length := by
    rw [Array.length_toList, Array.length_toList, it.1]
  have vs := vals_signs x.cps.toList acc.toList hl fun j v e => by
    obtain ⟨c, u', e1, e2⟩ := it.2 j v (by rw [← Array.getElem?_toList]; exact e)
    exact ⟨c, u', by rw [Array.getElem?_toList]; exact e1, e2⟩
  refine ⟨.ref s.heap.objs.size, _, I.laid (t' := tk) keeps (Nat.le_refl _) ?_, rfl, q _ (I.hok.fresh (Nat.le_refl _))⟩
  refine ⟨?_, acc.toList, c', vs, ?_⟩
  · rw [List.length_map]
    exact hx
  · rw [got]
/-- t * n, n from 1 on -/
def rRepA (K : PySem.W.Frag) : R2 := fun x y H Q => ∃ l k xs, x = .ref l ∧ y = .int k ∧ SqT K H l xs ∧ xs ≠ [] ∧ 1 ≤ k ∧ k ≤ 1000 ∧ xs.length ≤ 1000 ∧ (k = 1 → Q (.ref l) H) ∧ (2 ≤ k → ∀ p, H p = none → Q (.ref p) (upd H p (.tup (List.replicate k.toNat xs).flatten)))
theorem op_repA : OpR X (binaryOp .Mult) (rRepA X.K) := by
  intro pins s σ H x y v u Q I rx ry h
  obtain ⟨l, k, xs, rfl, rfl, hT, hne, h1, h2, hz, q1, q2⟩ := h
  by_cases e1 : k = 1
  · subst e1
    cases rx
    obtain ⟨t, rfl⟩ := ry
    obtain ⟨its, _, ⟨⟨cls, dd, data, sl⟩, got, hc, n, hd⟩, _⟩ := I.tuple hT
    simp only at hc hd
    subst hc hd
    have once := tuple_mul1 l its.toArray n dd sl t
    have back := int_rmul_tuple 1 t l its.toArray n dd sl
    refine wpAny_binaryOp_repeat_ref (T := "tuple") (U := "int") (by decide) ⟨_, got, rfl⟩ (fun s' => typeIs_int s' 1 t)
      noFill_tuple_mul F.fills_int_mul F.slot_int_rmul repeat_tuple F.slot_int_index.lookup ?_
    refine call_meets F.slot_int_rmul (typeIs_int s 1 t) F.entry_int_rmul (F.args_int_rmul_2 _ _) back ⟨got, rfl, ⟨_, got, rfl⟩, ?_⟩
    refine call_meets F.slot_tuple_mul ⟨_, got, rfl⟩ F.entry_tuple_mul (F.args_tuple_mul_2 _ _) once ⟨got, ?_⟩
    exact ⟨.ref l, H, I, rfl, q1 rfl⟩
  · exact op_repT pins s σ H _ _ v u Q I rx ry ⟨l, k, xs, rfl, rfl, hT, hne, by omega, h2, hz, q2 (by omega)⟩
end
end L2X
namespace Dt
open PySem PySem.Spec PyProof.Rows L2 L2X
open SX (S)
/-! ### rows and pictures by their signs -/
theorem cnt_two : ∀ l : List Nat, cnt 35 l + cnt 46 l ≤ l.length ∧ (cnt 35 l + cnt 46 l = l.length ↔ ∀ c ∈ l, c = 35 ∨ c = 46)
  | [] => ⟨by rw [cnt_nil, cnt_nil]; exact Int.le_refl _, by rw [cnt_nil, cnt_nil]; exact ⟨fun _ _ h => (List.not_mem_nil h).elim, fun _ => rfl⟩⟩
  | n :: r => by
    obtain ⟨h1, h2⟩ := cnt_two r
    rw [cnt_cons, cnt_cons, List.length_cons]
    have e : ∀ c ∈ n :: r, (c = 35 ∨ c = 46) ↔ True ∧ (c = 35 ∨ c = 46) := fun c _ => by simp
    by_cases a : n = 35
    · subst a
      rw [if_pos rfl, if_neg (by decide)]
      refine ⟨by omega, ⟨fun z => ?_, fun z => ?_⟩⟩
      · have z2 := h2.mp (by omega)
        intro c hc
        rcases List.mem_cons.mp hc with q | q
        · exact .inl q
        · exact z2 c q
      · have := h2.mpr fun c hc => z c (List.mem_cons_of_mem _ hc)
        omega
    · by_cases b : n = 46
      · subst b
        rw [if_neg (by decide), if_pos rfl]
        refine ⟨by omega, ⟨fun z => ?_, fun z => ?_⟩⟩
        · have z2 := h2.mp (by omega)
          intro c hc
          rcases List.mem_cons.mp hc with q | q
          · exact .inr q
          · exact z2 c q
        · have := h2.mpr fun c hc => z c (List.mem_cons_of_mem _ hc)
          omega
      · rw [if_neg a, if_neg b]
        refine ⟨by omega, ⟨fun z => by omega, fun z => ?_⟩⟩
        rcases z n List.mem_cons_self with q | q
        · exact absurd q a
        · exact absurd q b
theorem rowOk_S (l : List Nat) : rowOk (.str (S l)) = (decide (1 ≤ l.length) && decide (l.length ≤ 120) && decide (∀ c ∈ l, c = 35 ∨ c = 46)) := by
  have e : decide (Txt.count (S l) "#" + Txt.count (S l) "." = ((S l).length : Int)) = decide (∀ c ∈ l, c = 35 ∨ c = 46) := by
    rw [s_hash, s_dot, count_cnt, count_cnt, SX.S_len]
    exact Bool.eq_iff_iff.mpr ⟨fun h => decide_eq_true ((cnt_two l).2.mp (of_decide_eq_true h)), fun h => decide_eq_true ((cnt_two l).2.mpr (of_decide_eq_true h))⟩
  rw [rowOk_str, e, SX.S_len]
theorem rowOk_rv {wide : Nat} {l : List Nat} (h : RowR wide l) (w0 : 1 ≤ wide) (w1 : wide ≤ 120) : rowOk (rv l) = true := by
  unfold rv
  rw [rowOk_S, h.len, decide_eq_true w0, decide_eq_true w1, decide_eq_true h.sg]
  rfl
theorem rowOk_bad {l : List Nat} {c : Nat} (hc : c ∈ l) (h1 : c ≠ 35) (h2 : c ≠ 46) : rowOk (.str (S l)) = false := by
  rw [rowOk_S, decide_eq_false (p := ∀ c ∈ l, c = 35 ∨ c = 46), Bool.and_false]
  intro z
  rcases z c hc with q | q
  · exact h1 q
  · exact h2 q
theorem rowOk_len {l : List Nat} (h : l.length = 0 ∨ 120 < l.length) : rowOk (.str (S l)) = false := by
  rw [rowOk_S]
  rcases h with h | h
  · rw [decide_eq_false (by omega : ¬ 1 ≤ l.length)]
    rfl
  · rw [decide_eq_false (by omega : ¬ l.length ≤ 120), Bool.and_false, Bool.false_and]
theorem lenV_S (l : List Nat) : lenV (.str (S l)) = (l.length : Int) := by
  show ((S l).length : Int) = _
  rw [SX.S_len]
theorem picOk_pic {high wide : Nat} {rs : List (List Nat)} (h : PicR high wide rs) : picOk (rs.map rv) = true := by
  unfold picOk
  have a1 : decide (1 ≤ (rs.map rv).length) = true := decide_eq_true (by rw [List.length_map, h.len]; exact h.h0)
  have a2 : decide ((rs.map rv).length ≤ 60) = true := decide_eq_true (by rw [List.length_map, h.len]; exact h.h1)
  have a3 : (rs.map rv).all rowOk = true := List.all_eq_true.mpr fun y hy => by
    obtain ⟨l, hl, rfl⟩ := List.mem_map.mp hy
    exact rowOk_rv (h.row l hl) h.w0 h.w1
  have len : ∀ y ∈ rs.map rv, lenV y = (wide : Int) := fun y hy => by
    obtain ⟨l, hl, rfl⟩ := List.mem_map.mp hy
    unfold rv
    rw [lenV_S, (h.row l hl).len]
  have a4 : ((rs.map rv).all fun y => decide (lenV y = lenV ((rs.map rv).headD .non))) = true := List.all_eq_true.mpr fun y hy => by
    refine decide_eq_true ?_
    rw [len y hy]
    cases e : rs.map rv with
    | nil =>
      rw [e] at hy
      cases hy
    | cons x r =>
      have z := len x (by rw [e]; exact List.mem_cons_self)
      exact z.symm
  rw [a1, a2, a3, a4]
  rfl
/-- one row put in the place of another: no picture -/
theorem picOk_odd {high wide r : Nat} {rs : List (List Nat)} {one : V} (h : PicR high wide rs) (hr : r < high) (b : rowOk one = false ∨ (2 ≤ high ∧ lenV one ≠ (wide : Int))) :
    picOk ((rs.map rv).take r ++ [one] ++ (rs.map rv).drop (r + 1)) = false := by
  cases e : picOk ((rs.map rv).take r ++ [one] ++ (rs.map rv).drop (r + 1)) with
  | false => rfl
  | true =>
    exfalso
    unfold picOk at e
    rw [Bool.and_eq_true, Bool.and_eq_true, Bool.and_eq_true] at e
    obtain ⟨⟨⟨_, _⟩, e3⟩, e4⟩ := e
    have m1 : one ∈ (rs.map rv).take r ++ [one] ++ (rs.map rv).drop (r + 1) := by simp
    rcases b with b | ⟨b1, b2⟩
    · have z := List.all_eq_true.mp e3 one m1
      rw [b] at z
      cases z
    · have len : ∀ y ∈ rs.map rv, lenV y = (wide : Int) := fun y hy => by
        obtain ⟨l, hl, rfl⟩ := List.mem_map.mp hy
        unfold rv
        rw [lenV_S, (h.row l hl).len]
      obtain ⟨y, m2, hy⟩ : ∃ y, y ∈ (rs.map rv).take r ++ [one] ++ (rs.map rv).drop (r + 1) ∧ y ∈ rs.map rv := by
        have hl : (rs.map rv).length = high := by rw [List.length_map, h.len]
        by_cases hr0 : r = 0
        · subst hr0
          have : 1 < (rs.map rv).length := by omega
          refine ⟨(rs.map rv)[1], ?_, List.getElem_mem _⟩
          refine List.mem_append_right _ ?_
          exact List.mem_of_getElem? (i := 0) (by rw [List.getElem?_drop, List.getElem?_eq_getElem this])
        · have : 0 < (rs.map rv).length := by omega
          refine ⟨(rs.map rv)[0], ?_, List.getElem_mem _⟩
          refine List.mem_append_left _ (List.mem_append_left _ ?_)
          exact List.mem_of_getElem? (i := 0) (by rw [List.getElem?_take, if_pos (by omega), List.getElem?_eq_getElem this])
      have z1 := of_decide_eq_true (List.all_eq_true.mp e4 one m1)
      have z2 := of_decide_eq_true (List.all_eq_true.mp e4 y m2)
      exact b2 (z1.trans (z2.symm.trans (len y hy)))
end Dt
namespace Dt
open PySem PySem.Spec PyProof.Rows L2 L2X
open SX (S)
/-! ### refusals -/
/-- the class NoPicture, as the top has made it, at C -/
structure Tn (K : PySem.W.Frag) (mg : Str → Option Value) (C : Addr) : Prop where
  g : mg "NoPicture" = some (.ref C)
  x : PySem.W.excIn K C [.type "ValueError", .type "Exception", .type "BaseException", .type "object"] "ValueError.__new__" = true
  k : PySem.W.keepIn K (.ref C) = true
  b : PySem.W.subIn K (.ref C) (.type "BaseException") = some true
  t : PySem.W.typeIn K (.ref C) = some (.type "type")
abbrev sWant : Stmt := topS 26
theorem scWant : FnScope ["thing"] ["thing"] (defScope sWant) := ⟨rfl, rfl, rfl, by decide +kernel, rfl, by decide +kernel, by decide +kernel⟩
def spWant (K : PySem.W.Frag) (C : Addr) : Sp := fun vs H Q E => ∃ x b, vs = [x] ∧ Asked K H x b ∧ (b = true → ∀ H', Same H H' → Q .non H') ∧ (b = false → ∀ H', Same H H' → E (.ref C) none H')
section
variable {P : Program} {w : World} {K : PySem.W.Frag} {mg : Str → Option Value} {base : Heap} {C : Addr}
theorem ok_want {f fP : Addr} {fd fdP : FuncData} {k : Nat} (F : Fun K "want_picture" "want_picture" sWant f fd) (N : Tn K mg C) (GP : FnOk P w K mg base CX0 (k + 1) fP fdP ["thing"] (spIsPic K)) (mP : mg "is_picture" = some (.ref fP)) (kP : PySem.W.keepIn K (.ref fP) = true) (bP : Binds K fdP ["thing"] []) :
    FnOk P w K mg base (L2.CX P w) (k + 2) f fd ["thing"] (spWant K C) := by
  refine F.okX scWant (fun vs H Q E h => ?_) (fun cdv A outer s H vs Q E hr h => ?_)
  · obtain ⟨x, b, rfl, _⟩ := h
    rfl
  · obtain ⟨x, b, rfl, ask, q1, q2⟩ := h
    refine ⟨_, pss_one (ps_if (pt_not (pt_val (pe_call GP hr (by rfl) mP kP bP .nil pass0 (pa_cons (pv 0) pa_nil)))) (pss_one (ps_raise rfl (takes_of rfl rfl rfl rfl) (pmk_own PySem.F.excBase_ValueError N.x N.g N.k (raises_own N.b N.t) rfl))) pss_nil), ?_⟩
    refine ⟨x, rfl, x, b, rfl, ask, fun H' sm => ⟨_, rfl, ?_⟩⟩
    cases b with
    | true => exact iteF (q1 rfl H' sm)
    | false => exact iteT (q2 rfl H' sm)
end
end Dt
namespace Dt
open PySem PySem.Spec PyProof.Rows L2 L2X
open SX (S)
theorem pss_never {X : Cx} {st : List Stmt} : PSs X st (fun _ _ _ => False) := ⟨fun _ _ _ _ _ _ h => h.elim⟩
theorem pg_never {X : Cx} {tg : Expr} : PG X tg (fun _ _ _ _ => False) := ⟨fun _ _ _ _ _ _ _ _ _ h => h.elim⟩
abbrev sSize : Stmt := topS 27
theorem scSize : FnScope ["picture"] ["picture"] (defScope sSize) := ⟨rfl, rfl, rfl, by decide +kernel, rfl, by decide +kernel, by decide +kernel⟩
/-- size of a picture, or of what is none -/
def spSize (K : PySem.W.Frag) (C : Addr) : Sp := fun vs H Q E => ∃ x, vs = [x] ∧ ((Asked K H x false ∧ ∀ H', Same H H' → E (.ref C) none H') ∨
  ∃ a xs, x = .ref a ∧ SqT K H a xs ∧ (∀ y ∈ xs, Kn K H y) ∧ picOk xs = true ∧ ∀ p H', Same H H' → H p = none → H' p = some (.tup [.int (xs.length : Int), .int (lenV (xs.headD .non))]) → Q (.ref p) H')
theorem Asked.same {K : PySem.W.Frag} {H H' : Hp} {x : V} {b : Bool} (h : Asked K H x b) (s : Same H H') : Asked K H' x b := by
  rcases h with ⟨T, t, ok, ne, e⟩ | ⟨a, xs, e, h1, h2, e2⟩
  · refine .inl ⟨T, ?_, ok, ne, e⟩
    cases t with
    | non => exact .non
    | bl b => exact .bl b
    | int i => exact .int i
    | str x => exact .str x
    | byt b => exact .byt b
    | lst h => exact .lst (s.seq h)
    | tup h => exact .tup (sameT s h)
    | dK h => exact .dK (s _ _ h)
  · exact .inr ⟨a, xs, e, sameT s h1, fun l y hy => (h2 l y hy).same s, e2⟩
section
variable {P : Program} {w : World} {K : PySem.W.Frag} {mg : Str → Option Value} {base : Heap} {C : Addr}
/-- want_picture, and whoever calls it first -/
structure GW (P : Program) (w : World) (K : PySem.W.Frag) (mg : Str → Option Value) (base : Heap) (C : Addr) (k : Nat) : Prop where
  ex : ∃ f fd, FnOk P w K mg base (L2.CX P w) k f fd ["thing"] (spWant K C) ∧ mg "want_picture" = some (.ref f) ∧ PySem.W.keepIn K (.ref f) = true ∧ Binds K fd ["thing"] []
structure GS (P : Program) (w : World) (K : PySem.W.Frag) (mg : Str → Option Value) (base : Heap) (C : Addr) (k : Nat) : Prop where
  ex : ∃ f fd, FnOk P w K mg base (L2.CX P w) k f fd ["picture"] (spSize K C) ∧ mg "size" = some (.ref f) ∧ PySem.W.keepIn K (.ref f) = true ∧ Binds K fd ["picture"] []
theorem ok_size {f : Addr} {fd : FuncData} {k : Nat} (F : Fun K "size" "size" sSize f fd) (X : Tx mg) (G : GW P w K mg base C (k + 1)) : FnOk P w K mg base (L2.CX P w) (k + 2) f fd ["picture"] (spSize K C) := by
  obtain ⟨fW, fdW, GW, mW, kW, bW⟩ := G.ex
  refine F.okX scSize (fun vs H Q E h => ?_) (fun cdv A outer s H vs Q E hr h => ?_)
  · obtain ⟨x, rfl, _⟩ := h
    rfl
  · obtain ⟨x, rfl, h⟩ := h
    refine ⟨_, pss_cons (ps_expr (pe_callS GW hr (by rfl) mW kW bW (fun σ => passAt (takes_of rfl rfl rfl rfl) σ) (pa_cons (pv 0) pa_nil)))
      (pss_one (ps_ret (pe_tup (pa_cons (pe_callB call_len_seq (by rfl) X.len PySem.boot_len (pa_cons (pv 0) pa_nil)) (pa_cons (pe_callB call_len_str (by rfl) X.len PySem.boot_len (pa_cons (pe_ix (r := rIxT K) ix_tup (pv 0) pe_int (fun _ _ => rfl)) pa_nil)) pa_nil))))), ?_⟩
    rcases h with ⟨ask, q⟩ | ⟨a, xs, rfl, hx, kn, ok, q⟩
    · exact ⟨x, rfl, x, false, rfl, ask, (fun e => nomatch e), fun _ H' sm => q H' sm⟩
    · refine ⟨.ref a, rfl, .ref a, true, rfl, .inr ⟨a, xs, rfl, hx, fun _ => kn, ok.symm⟩, fun _ H' sm => ?_, fun e => nomatch e⟩
      have hx' := sameT sm hx
      unfold picOk at ok
      rw [Bool.and_eq_true, Bool.and_eq_true, Bool.and_eq_true] at ok
      obtain ⟨⟨⟨o1, o2⟩, o3⟩, o4⟩ := ok
      cases xs with
      | nil => exact absurd (of_decide_eq_true o1) (by decide)
      | cons x0 r =>
        have hk := List.all_eq_true.mp o3 x0 List.mem_cons_self
        cases x0 with
        | str z =>
          have hz := (kn _ List.mem_cons_self).2 z rfl
          refine ⟨.ref a, rfl, a, _, rfl, .inr hx', .ref a, rfl, a, _, 0, .str z, rfl, rfl, hx', atI_nat (j := 0) rfl, z, rfl, hz, by show 2 ≤ sizeLine; decide, fun p hp => ?_⟩
          exact q p _ (sm.trans (same_upd hp)) (sm.free hp) upd_same
        | _ => cases hk
end
theorem upd_at2 {H : Hp} {p : Addr} {o : HO} : (upd H p o) p = some o := upd_same
theorem kn_str2 {K : PySem.W.Frag} {H : Hp} {z : Str} (h : z.length ≤ sizeLine) : Kn K H (.str z) := ⟨⟨"str", .str z, rfl⟩, fun y e => by cases e; exact h⟩
theorem kn_rows {K : PySem.W.Frag} {H : Hp} {high wide : Nat} {rs : List (List Nat)} (h : PicR high wide rs) : ∀ y ∈ rs.map rv, Kn K H y := by
  intro y hy
  obtain ⟨x, hx, rfl⟩ := List.mem_map.mp hy
  refine kn_str2 ?_
  show x.length ≤ sizeLine
  have := (h.row x hx).len
  have := h.w1
  exact Nat.le_of_lt (small1000 (by omega))
theorem askPic {K : PySem.W.Frag} {H : Hp} {high wide : Nat} {rs : List (List Nat)} {a : Addr} (h : PicR high wide rs) (e : H a = some (.tup (rs.map rv))) : Asked K H (.ref a) true :=
  .inr ⟨a, _, rfl, SqT.of e, fun _ => kn_rows h, (picOk_pic h).symm⟩
theorem picSize {high wide : Nat} {rs : List (List Nat)} (h : PicR high wide rs) : (((rs.map rv).length : Nat) : Int) = (high : Int) ∧ lenV ((rs.map rv).headD .non) = (wide : Int) := by
  refine ⟨by rw [List.length_map, h.len], ?_⟩
  cases rs with
  | nil =>
    have h1 := h.len
    have h2 := h.h0
    simp at h1
    omega
  | cons l r =>
    have e := (h.row l List.mem_cons_self).len
    show lenV (rv l) = _
    unfold rv
    rw [lenV_S, e]
end Dt
/-! zip of two and enumerate, over any of a list, a tuple, a text -/
namespace L2X
open PySem PySem.Spec PyProof.Rows L2
inductive Src
  | lst (a : Addr)
  | tup (a : Addr)
  | txt (z : Str)
def chars (z : Str) : List V := z.cps.toList.map fun c => V.str ⟨#[c]⟩
/-- what stands in it -/
def Src.has (K : PySem.W.Frag) (H : Hp) : Src → List V → Prop
  | .lst a, xs => SqL K H a xs
  | .tup a, xs => SqT K H a xs
  | .txt z, xs => xs = chars z
def Src.val : Src → V
  | .lst a => .ref a
  | .tup a => .ref a
  | .txt z => .str z
/-- its iterator at its i-th item -/
def Src.it (it : Addr) (i : Nat) (h : Heap) : Src → Prop
  | .lst a => h.IsListIter it a i
  | .tup a => h.IsTupleIter it a i
  | .txt z => ∃ t, h.IsStrIter it (strIterType z) z t i
def Src.off (c : Addr) : Src → Prop
  | .lst a => a ≠ c
  | .tup a => a ≠ c
  | .txt _ => True
theorem Src.it_obj {S : Src} {it : Addr} {i : Nat} {h : Heap} (e : S.it it i h) : ∃ o, h.get? it = some o ∧ ∀ v, o.data ≠ .cell v := by
  cases S with
  | lst a =>
    obtain ⟨o, e1, _, d⟩ := e
    exact ⟨o, e1, fun v q => by rw [d] at q; cases q⟩
  | tup a =>
    obtain ⟨o, e1, _, d⟩ := e
    exact ⟨o, e1, fun v q => by rw [d] at q; cases q⟩
  | txt z =>
    obtain ⟨t, o, e1, _, d⟩ := e
    exact ⟨o, e1, fun v q => by rw [d] at q; cases q⟩
theorem Src.it_at {S : Src} {it : Addr} {i : Nat} {h h' : Heap} (e : S.it it i h) (k : ∀ o, h.get? it = some o → h'.get? it = some o) : S.it it i h' := by
  cases S with
  | lst a => exact Heap.IsListIter.at e k
  | tup a => exact Heap.IsTupleIter.at e k
  | txt z =>
    obtain ⟨t, o, e1, e2, d⟩ := e
    exact ⟨t, o, k _ e1, e2, d⟩
section
variable {X : Cx} {pins : List (Addr × Obj)} {σ : L2.St} {H : Hp} {s : Shared}
theorem Src.inj {S : Src} {xs ys : List V} (I : Inv X pins σ H s) (h : S.has X.K H xs) (h' : S.has X.K H ys) : xs = ys := by
  cases S with
  | lst a => exact I.list_inj h h'
  | tup a => exact I.tuple_inj h h'
  | txt z => exact Eq.trans h (Eq.symm h')
/-- what its iterator draws, now -/
theorem Src.draws {S : Src} {xs : List V} {it : Addr} {i : Nat} {A : Around} (I : Inv X pins σ H s) (hh : A.handled = none) (h : S.has X.K H xs) (st : S.it it i s.heap) (off : S.off it) :
    ∃ (fp : List Addr) (P : Nat → Value → Prop) (St : Nat → Heap → Prop), Draws X.prog X.w A it fp xs.length P St ∧ St i s.heap ∧ it ∈ fp ∧ (∀ c, c ≠ it → S.off c → c ∉ fp) ∧ (∀ j v, P j v → ∃ x, xs[j]? = some x ∧ RelV x v) ∧ (∀ j h, St j h → S.it it j h) := by
  cases S with
  | lst a =>
    obtain ⟨its, rv, p, _⟩ := I.list h
    have el : its.toArray.size = xs.length := by rw [rv.length]; simp
    rw [← el]
    refine ⟨[it, a], _, _, Draws.list hh it a off its.toArray, ⟨st, p.isList⟩, by simp, fun c hc ho hm => ?_, fun j v hv => ?_, fun j h e => e.1⟩
    · have e' : c = it ∨ c = a := by simpa using hm
      rcases e' with e' | e'
      · exact hc e'
      · exact ho e'.symm
    · have hv' : its[j]? = some v := by simpa using hv
      have hj : j < xs.length := by
        rw [← el]
        have := (List.getElem?_eq_some_iff.mp hv').1
        simpa using this
      obtain ⟨u, hu, ru⟩ := rv.get (List.getElem?_eq_getElem hj)
      rw [hv'] at hu
      cases hu
      exact ⟨_, List.getElem?_eq_getElem hj, ru⟩
  | tup a =>
    obtain ⟨its, rv, p, _⟩ := I.tuple h
    have el : its.toArray.size = xs.length := by rw [rv.length]; simp
    rw [← el]
    refine ⟨[it, a], _, _, Draws.tuple hh it a off its.toArray, ⟨st, p⟩, by simp, fun c hc ho hm => ?_, fun j v hv => ?_, fun j h e => e.1⟩
    · have e' : c = it ∨ c = a := by simpa using hm
      rcases e' with e' | e'
      · exact hc e'
      · exact ho e'.symm
    · have hv' : its[j]? = some v := by simpa using hv
      have hj : j < xs.length := by
        rw [← el]
        have := (List.getElem?_eq_some_iff.mp hv').1
        simpa using this
      obtain ⟨u, hu, ru⟩ := rv.get (List.getElem?_eq_getElem hj)
      rw [hv'] at hu
      cases hu
      exact ⟨_, List.getElem?_eq_getElem hj, ru⟩
  | txt z =>
    obtain ⟨t, st⟩ := st
    have hx : xs = chars z := h
    have el : z.cps.size = xs.length := by rw [hx]; simp [chars]
    rw [← el]
    refine ⟨[it], _, _, Draws.text hh it z t, st, by simp, fun c hc _ hm => hc (by simpa using hm), fun j v hv => ?_, fun j h e => ⟨t, e⟩⟩
    obtain ⟨c, u, e1, rfl⟩ := hv
    refine ⟨.str ⟨#[c]⟩, ?_, _, rfl⟩
    rw [hx]
    unfold chars
    rw [List.getElem?_map, Array.getElem?_toList, e1]
    rfl
/-- two things at each turn, in new pairs -/
def ItzG (K : PySem.W.Frag) (A B : Src) : It :=
  ⟨fun i H => ∃ (xs ys : List V) (x y : V), A.has K H xs ∧ B.has K H ys ∧ xs[i]? = some x ∧ ys[i]? = some y,
    fun i H v H' => ∃ T x y, v = .ref T ∧ H T = none ∧ H' = upd H T (.tup [x, y]) ∧ (∀ xs, A.has K H xs → xs[i]? = some x) ∧ ∀ ys, B.has K H ys → ys[i]? = some y,
    fun i H => ∃ xs ys : List V, A.has K H xs ∧ B.has K H ys ∧ (xs.length = i ∧ i ≤ ys.length ∨ ys.length = i ∧ i ≤ xs.length)⟩
structure Apart5 (A B : Src) (z TI TO i1 i2 : Addr) : Prop where
  TIz : TI ≠ z
  TOz : TO ≠ z
  i1z : i1 ≠ z
  i2z : i2 ≠ z
  TITO : TI ≠ TO
  TIi1 : TI ≠ i1
  TIi2 : TI ≠ i2
  TOi1 : TO ≠ i1
  TOi2 : TO ≠ i2
  i12 : i1 ≠ i2
  az : A.off z
  aT : A.off TO
  a1 : A.off i1
  a2 : A.off i2
  bz : B.off z
  bT : B.off TO
  b1 : B.off i1
  b2 : B.off i2
theorem turn_zipG {P : Program} {w : World} {K : PySem.W.Frag} {elts : List Expr} {kk : Nat} {tpos : Pos} {A B : Src} {z TI TO i1 i2 : Addr} (D : Apart5 A B z TI TO i1 i2) :
    Turn P w K (.Tuple elts kk tpos) (ItzG K A B) [z, TI, TO, i1, i2] z (fun i h => IsZip h z TI TO .none ∧ IsTupOf2 h TI (.ref i1) (.ref i2) ∧ (∃ x y, IsTupOf2 h TO x y) ∧ A.it i1 i h ∧ B.it i2 i h) where
  mem := by simp
  obj := fun i h st c hc => by
    obtain ⟨hz, hTI, ⟨x, y, hTO⟩, h1, h2⟩ := st
    have e' : c = z ∨ c = TI ∨ c = TO ∨ c = i1 ∨ c = i2 := by simpa using hc
    rcases e' with q | q | q | q | q
    · rw [q]; exact ⟨_, hz, fun v q => nomatch q⟩
    · rw [q]; exact ⟨_, hTI, fun v q => nomatch q⟩
    · rw [q]; exact ⟨_, hTO, fun v q => nomatch q⟩
    · rw [q]; exact Src.it_obj h1
    · rw [q]; exact Src.it_obj h2
  keep := fun i h h' st k => by
    obtain ⟨hz, hTI, ⟨x, y, hTO⟩, h1, h2⟩ := st
    exact ⟨k z (by simp) _ hz, k TI (by simp) _ hTI, ⟨x, y, k TO (by simp) _ hTO⟩, Src.it_at h1 fun o q => k i1 (by simp) o q, Src.it_at h2 fun o q => k i2 (by simp) o q⟩
  item := by
    intro X hP hw hK hc i pins s σ H E I hf st hg
    subst hP hw hK
    obtain ⟨hz, hTI, ⟨x0, y0, hTO⟩, h1, h2⟩ := st
    obtain ⟨xs, ys, x, y, hqx, hqy, hx, hy⟩ := hg
    obtain ⟨f1, P1, S1, D1, s1, m1, o1, p1, t1⟩ := Src.draws (A := X.A.in1) I (I.ok.hd hc) hqx h1 D.a1
    obtain ⟨f2, P2, S2, D2, s2, m2, o2, p2, t2⟩ := Src.draws (A := X.A.in1) I (I.ok.hd hc) hqy h2 D.b2
    have sep : ZipSep2 z TI TO i1 i2 f1 f2 := ⟨D.TIz, D.TOz, D.TITO, D.TIi1, m1, o1 _ D.i1z.symm D.az, o1 _ D.TOi1 D.aT, D.TIi2, m2, o2 _ D.i2z.symm D.bz, o2 _ D.TOi2 D.bT, o2 _ D.i12 D.b1, o1 _ D.i12.symm D.a2⟩
    have hzl : z < s.heap.objs.size := Heap.lt_size hz
    refine wpAny_pyNext_zipD2_item sep D1 D2 hz hTI hTO s1 s2 (List.getElem?_eq_some_iff.mp hx).1 (List.getElem?_eq_some_iff.mp hy).1 fun u u2 h' tk q1 q2 z' TO' h1' h2' hT hsz hk => ?_
    obtain ⟨x', ex, ru⟩ := p1 _ _ q1
    rw [hx] at ex
    cases ex
    obtain ⟨y', ey, ru2⟩ := p2 _ _ q2
    rw [hy] at ey
    cases ey
    refine ⟨_, rfl, wpAny_letOwnedTupleGo_zip (s := { s with heap := h', toks := tk }) z' fun h'' z'' sb => ?_⟩
    have hT2 : h''.get? s.heap.objs.size = some { cls := .type "tuple", data := .seq #[u, u2] } := (sb.2 _ (Nat.ne_of_gt hzl)).trans hT
    have new : ObjOk X.prog X.w (upd H s.heap.objs.size (.tup [x, y])) h'' s.heap.objs.size (.tup [x, y]) :=
      ⟨by show 2 ≤ sizeLine; decide, [u, u2], .cons ru (.cons ru2 .nil), ⟨_, hT2, rfl, _, rfl⟩⟩
    have I1 : Inv X pins σ (upd H s.heap.objs.size (.tup [x, y])) { s with heap := h'', toks := tk } :=
      I.turnedNew (t' := tk) (ch := [z, TI, TO, i1, i2]) (fun c o hb q => (sb.2 c (fun q' => hb (by simp [q']))).trans (hk c o (fun q' => hb (by simp [q'])) (fun q' => hb (by simp [q'])) (fun q' => hb (by simp [q'])) (fun q' => hb (by simp [q'])) q)) hf (Nat.le_refl _) new
    refine ⟨.ref s.heap.objs.size, _, I1, rfl, ⟨_, x, y, rfl, I.hok.fresh (Nat.le_refl _), rfl, fun l hl => by rw [Src.inj I hl hqx]; exact hx, fun l hl => by rw [Src.inj I hl hqy]; exact hy⟩, ⟨z'', ?_, ⟨u, u2, ?_⟩, ?_, ?_⟩, fun c hcm => ?_⟩
    · exact (sb.2 _ D.TIz).trans (hk _ _ D.TIz D.TITO D.TIi1 D.TIi2 hTI)
    · exact (sb.2 _ D.TOz).trans TO'
    · exact Src.it_at (t1 _ _ h1') fun o q => (sb.2 _ D.i1z).trans q
    · exact Src.it_at (t2 _ _ h2') fun o q => (sb.2 _ D.i2z).trans q
    · have hlt : c < s.heap.objs.size := by
        have e' : c = z ∨ c = TI ∨ c = TO ∨ c = i1 ∨ c = i2 := by simpa using hcm
        rcases e' with q | q | q | q | q
        · rw [q]; exact hzl
        · rw [q]; exact Heap.lt_size hTI
        · rw [q]; exact Heap.lt_size hTO
        · rw [q]; obtain ⟨_, e1, _⟩ := Src.it_obj h1; exact Heap.lt_size e1
        · rw [q]; obtain ⟨_, e2, _⟩ := Src.it_obj h2; exact Heap.lt_size e2
      rw [upd_ne (Nat.ne_of_lt hlt)]
      exact (hf c hcm).1
  done := by
    intro X hP hw hK hc i pins s σ H E I hf st hg
    subst hP hw hK
    obtain ⟨hz, hTI, ⟨x0, y0, hTO⟩, h1, h2⟩ := st
    obtain ⟨xs, ys, hqx, hqy, hend⟩ := hg
    obtain ⟨f1, P1, S1, D1, s1, m1, o1, p1, t1⟩ := Src.draws (A := X.A.in1) I (I.ok.hd hc) hqx h1 D.a1
    obtain ⟨f2, P2, S2, D2, s2, m2, o2, p2, t2⟩ := Src.draws (A := X.A.in1) I (I.ok.hd hc) hqy h2 D.b2
    have sep : ZipSep2 z TI TO i1 i2 f1 f2 := ⟨D.TIz, D.TOz, D.TITO, D.TIi1, m1, o1 _ D.i1z.symm D.az, o1 _ D.TOi1 D.aT, D.TIi2, m2, o2 _ D.i2z.symm D.bz, o2 _ D.TOi2 D.bT, o2 _ D.i12 D.b1, o1 _ D.i12.symm D.a2⟩
    exact wpAny_pyNext_zipD2_end sep D1 D2 hz hTI hTO s1 s2 (by omega) (by omega) (by omega) fun h' tk hk => ⟨rfl, I.turnedL (t' := tk) (ch := [z, TI, TO, i1, i2]) (fun c o hb q =>
      hk c o (fun q' => hb (by simp [q'])) (fun q' => hb (by simp [q'])) (fun q' => hb (by simp [q'])) (fun q' => hb (by simp [q'])) q) hf⟩
  self := fun A i s Q E st h => wpAny_pyIter_zip st.1 h
/-- how a source begins -/
theorem Src.begins {S : Src} {xs : List V} {u : Value} (I : Inv X pins σ H s) (h : S.has X.K H xs) (r : RelV S.val u) : ∃ (o : Obj) (Hh : Heap → Prop), Begins u o Hh ∧ Hh s.heap ∧ (∀ (h' : Heap) (it : Addr), h'.get? it = some o → S.it it 0 h') ∧ ∀ c, s.heap.objs.size ≤ c → S.off c := by
  cases S with
  | lst a =>
    cases r
    obtain ⟨its, rv, p, _⟩ := I.list h
    exact ⟨_, _, begins_list a its.toArray, p.isList, fun h' it e => ⟨_, e, rfl, rfl⟩, fun c hc => Nat.ne_of_lt (Nat.lt_of_lt_of_le p.lt hc)⟩
  | tup a =>
    cases r
    obtain ⟨its, rv, p, _⟩ := I.tuple h
    obtain ⟨o, e, _⟩ := id p
    exact ⟨_, _, begins_tuple a its.toArray, p, fun h' it e => ⟨_, e, rfl, rfl⟩, fun c hc => Nat.ne_of_lt (Nat.lt_of_lt_of_le (Heap.lt_size e) hc)⟩
  | txt z =>
    obtain ⟨t, rfl⟩ := r
    exact ⟨_, _, begins_text z t, trivial, fun h' it e => ⟨t, _, e, rfl, rfl⟩, fun _ _ => trivial⟩
theorem ap_ne (N a b : Nat) (h : a ≠ b) : N + a ≠ N + b := by omega
theorem apart5_new {A B : Src} {N : Nat} (f1 : ∀ c, N ≤ c → A.off c) (f2 : ∀ c, N ≤ c → B.off c) : Apart5 A B (N + 4) (N + 2) (N + 3) N (N + 1) :=
  ⟨ap_ne N 2 4 (by decide), ap_ne N 3 4 (by decide), ap_ne N 0 4 (by decide), ap_ne N 1 4 (by decide), ap_ne N 2 3 (by decide), ap_ne N 2 0 (by decide), ap_ne N 2 1 (by decide), ap_ne N 3 0 (by decide), ap_ne N 3 1 (by decide), ap_ne N 0 1 (by decide),
    f1 _ (Nat.le_add_right _ _), f1 _ (Nat.le_add_right _ _), f1 _ (Nat.le_refl _), f1 _ (Nat.le_add_right _ _), f2 _ (Nat.le_add_right _ _), f2 _ (Nat.le_add_right _ _), f2 _ (Nat.le_refl _), f2 _ (Nat.le_add_right _ _)⟩
def iZipG (K : PySem.W.Frag) (ta : TA) : TI := fun σ H R => ta σ H fun vs H1 => ∃ (A B : Src) (xs ys : List V), vs = [A.val, B.val] ∧ A.has K H1 xs ∧ B.has K H1 ys ∧ R (ItzG K A B) H1
theorem pi_zipG {X : Cx} {e e2 : Expr} {ta : TA} {p pos tpos : Pos} {elts : List Expr} {kk : Nat} (hg : Gl X "zip") (hm : X.mg "zip" = none) (ha : PA X [e, e2] ta)
    (hs : starEach [e, e2] X.env = (false, eval e X.env) :: starEach [e2] X.env := by rfl) (hpl : (backTo pos (starEach [e2] X.env)).any (·.1) = false := by rfl) :
    PI X (.Tuple elts kk tpos) (.Call (.Name "zip" p) [e, e2] [] pos) (iZipG X.K ta) := by
  refine ⟨fun pins s σ H R I h => ?_⟩
  refine Call_ (ld_blt I hg hm PyProof.Rows.boot_zip (PyProof.Rows.callWith_type1 (thn (ha.run pos pins s σ H _ I h) fun us s1 ⟨vs, H1, I1, r1, q1⟩ => ?_) hs hpl))
  obtain ⟨A, B, xs, ys, ex, ha1, hb1, q⟩ := q1
  subst ex
  cases r1 with
  | cons r rr =>
    cases rr with
    | cons r' rr =>
      cases rr
      obtain ⟨o1, G1, B1, g1, n1, f1⟩ := Src.begins I1 ha1 r
      obtain ⟨o2, G2, B2, g2, n2, f2⟩ := Src.begins I1 hb1 r'
      refine zip_begins2 B1 B2 g1 g2 fun h' hz hTI hTO e1 e2 hsz hk => wpAny_pyIter_zip hz ?_
      have I2 : Inv X pins σ H1 { s1 with heap := h' } := I1.kept (t' := s1.toks) hk
      have ap : Apart5 A B (s1.heap.objs.size + 4) (s1.heap.objs.size + 2) (s1.heap.objs.size + 3) s1.heap.objs.size (s1.heap.objs.size + 1) :=
        apart5_new f1 f2
      refine ⟨s1.heap.objs.size + 4, [s1.heap.objs.size + 4, s1.heap.objs.size + 2, s1.heap.objs.size + 3, s1.heap.objs.size, s1.heap.objs.size + 1], _, _, H1, rfl, I2, turn_zipG ap, ⟨hz, hTI, ⟨_, _, hTO⟩, n1 _ _ e1, n2 _ _ e2⟩, fun c hcm => ?_, q⟩
      have e' : c = s1.heap.objs.size + 4 ∨ c = s1.heap.objs.size + 2 ∨ c = s1.heap.objs.size + 3 ∨ c = s1.heap.objs.size ∨ c = s1.heap.objs.size + 1 := by simpa using hcm
      have hle : s1.heap.objs.size ≤ c := by
        rcases e' with z | z | z | z | z
        · rw [z]; exact Nat.le_add_right _ _
        · rw [z]; exact Nat.le_add_right _ _
        · rw [z]; exact Nat.le_add_right _ _
        · rw [z]; exact Nat.le_refl _
        · rw [z]; exact Nat.le_add_right _ _
      exact I1.fpOk hle (I1.hok.fresh hle)
/-! ### enumerate -/
def IteG (K : PySem.W.Frag) (A : Src) : It :=
  ⟨fun i H => ∃ (xs : List V) (x : V), A.has K H xs ∧ xs[i]? = some x, fun i H v H' => ∃ T x, v = .ref T ∧ H T = none ∧ H' = upd H T (.tup [.int (i : Nat), x]) ∧ ∀ xs, A.has K H xs → xs[i]? = some x, fun i H => ∃ xs : List V, A.has K H xs ∧ xs.length = i⟩
theorem turn_enumG {P : Program} {w : World} {K : PySem.W.Frag} {elts : List Expr} {kk : Nat} {tpos : Pos} {A : Src} {e it : Addr} (hne : e ≠ it) (oe : A.off e) (oi : A.off it) :
    Turn P w K (.Tuple elts kk tpos) (IteG K A) [e, it] e (fun i h => (∃ old, IsEnum h e it ((i : Nat) : Int) old) ∧ A.it it i h) where
  mem := by simp
  obj := fun i h st b hb => by
    obtain ⟨⟨old, he⟩, hi⟩ := st
    have e' : b = e ∨ b = it := by simpa using hb
    rcases e' with z | z
    · rw [z]; exact ⟨_, he, fun v q => nomatch q⟩
    · rw [z]; exact Src.it_obj hi
  keep := fun i h h' st k => let ⟨⟨old, he⟩, hi⟩ := st; ⟨⟨old, k e (by simp) _ he⟩, Src.it_at hi fun o q => k it (by simp) o q⟩
  item := by
    intro X hP hw hK hc i pins s σ H E I hf st hg
    subst hP hw hK
    obtain ⟨⟨old, he⟩, hit⟩ := st
    obtain ⟨xs, x, hq, hx⟩ := hg
    obtain ⟨f1, P1, S1, D1, s1, m1, o1, p1, t1⟩ := Src.draws (A := X.A.in1) I (I.ok.hd hc) hq hit oi
    have hel : e < s.heap.objs.size := Heap.lt_size he
    have hil : it < s.heap.objs.size := by obtain ⟨_, q, _⟩ := Src.it_obj hit; exact Heap.lt_size q
    refine wpAny_pyNext_enum_itemD D1 he s1 (List.getElem?_eq_some_iff.mp hx).1 hne (o1 _ hne oe) fun u h' tk q1 ho hit' hT hsz hk => ?_
    obtain ⟨x', ex, ru⟩ := p1 _ _ q1
    rw [hx] at ex
    cases ex
    refine ⟨_, rfl, wpAny_letOwnedTupleGo_enum (s := { s with heap := h', toks := tk + 1 }) ho fun h'' he' sb => ?_⟩
    have hT2 : h''.get? s.heap.objs.size = some { cls := .type "tuple", data := .seq #[.int i tk, u] } := (sb.2 _ (Nat.ne_of_gt hel)).trans hT
    have new : ObjOk X.prog X.w (upd H s.heap.objs.size (.tup [.int (i : Nat), x])) h'' s.heap.objs.size (.tup [.int (i : Nat), x]) :=
      ⟨by show 2 ≤ sizeLine; decide, [.int i tk, u], .cons ⟨_, rfl⟩ (.cons ru .nil), ⟨_, hT2, rfl, _, rfl⟩⟩
    have I1 : Inv X pins σ (upd H s.heap.objs.size (.tup [.int (i : Nat), x])) { s with heap := h'', toks := tk + 1 } :=
      I.turnedNew (t' := tk + 1) (ch := [e, it]) (fun b ob hb q => (sb.2 b (fun z => hb (by simp [z]))).trans (hk b ob (fun z => hb (by simp [z])) (fun z => hb (by simp [z])) q)) hf (Nat.le_refl _) new
    refine ⟨.ref s.heap.objs.size, _, I1, rfl, ⟨_, x, rfl, I.hok.fresh (Nat.le_refl _), rfl, fun ys hy => by rw [Src.inj I hy hq]; exact hx⟩, ⟨⟨u, ?_⟩, Src.it_at (t1 _ _ hit') fun o q => (sb.2 it (Ne.symm hne)).trans q⟩, fun b hb => ?_⟩
    · have e1 : ((i + 1 : Nat) : Int) = (i : Int) + 1 := by omega
      rw [e1]; exact he'
    · have hb' : b < s.heap.objs.size := by
        have e' : b = e ∨ b = it := by simpa using hb
        rcases e' with z | z
        · rw [z]; exact hel
        · rw [z]; exact hil
      rw [upd_ne (Nat.ne_of_lt hb')]
      exact (hf b hb).1
  done := by
    intro X hP hw hK hc i pins s σ H E I hf st hg
    subst hP hw hK
    obtain ⟨⟨old, he⟩, hit⟩ := st
    obtain ⟨xs, hq, hx⟩ := hg
    subst hx
    obtain ⟨f1, P1, S1, D1, s1, m1, o1, p1, t1⟩ := Src.draws (A := X.A.in1) I (I.ok.hd hc) hq hit oi
    obtain ⟨f0, f1', f2, f3, f4, f5⟩ := hf it (by simp)
    exact wpAny_pyNext_enum_endD D1 he s1 fun h' eb => ⟨rfl, I.turned (t' := s.toks) (fun b o hb q => eb b o hb q) f0 f1' f3 f4 f5⟩
  self := fun A i s Q E st h => let ⟨⟨_, he⟩, _⟩ := st; wpAny_pyIter_enum he h
theorem meets_enumerate_new1B {v : Value} {o : Obj} {H : Heap → Prop} (B : Begins v o H) :
    Meets (Builtin.«enumerate.__new__» ⟨[.type "enumerate", v], []⟩) (fun _ R s => H s.heap ∧
      R (.ok (.ret (.ref (s.heap.push o).objs.size))) { s with heap := (s.heap.push o).push { cls := .type "enumerate", data := .fields #[.none, .bool false, .ref s.heap.objs.size, rawInt 0, .none, .none] } }) :=
  .of_wp fun prog w A R s h => by
    obtain ⟨hp, g, d, tk, os⟩ := s; obtain ⟨h1, h⟩ := h
    have hsub := sub_enumerate
    have q1 : ∀ {A' : Around} {E : Value → Shared → Prop} {Q : Value → Shared → Prop}, Q (.ref hp.objs.size) ⟨hp.push o, g, d, tk, os⟩ → wpAny (model prog w) A' (pyIter v) Q E ⟨hp, g, d, tk, os⟩ :=
      fun q => B.iter prog w _ _ ⟨hp, g, d, tk, os⟩ _ h1 q
    wp_walk
    refine wpAny_stack_any fun st => wpAny_pure ?_
    split
    · rename_i c _ _ _ _ _
      cases (c == Value.type "enumerate")
      · wp_walk using q1
        exact ⟨_, rfl, h⟩
      · wp_walk using q1
        exact ⟨_, rfl, h⟩
    · wp_walk using q1
      exact ⟨_, rfl, h⟩
theorem enum_begins1 {prog : Program} {w : World} {A : Around} {E : Value → Shared → Prop} {s : Shared} {v : Value} {o : Obj} {H : Heap → Prop} {Q : Value → Shared → Prop} (B : Begins v o H) (h1 : H s.heap)
    (h : ∀ h', IsEnum h' (s.heap.objs.size + 1) s.heap.objs.size 0 .none → h'.get? s.heap.objs.size = some o → h'.objs.size = s.heap.objs.size + 2 →
      (∀ b o, s.heap.get? b = some o → h'.get? b = some o) → Q (.ref (s.heap.objs.size + 1)) { s with heap := h' }) :
    wpAny (model prog w) A (call (.type "enumerate") [v]) Q E s := by
  refine callType_new F.called_enumerate (by decide) (F.typeCall_enumerate_1 _) (F.newCall_enumerate_1 _) (fun obj => F.args_object_init_2 obj _) F.entry_enumerate_new
    (meets_enumerate_new1B B) ⟨h1, ?_⟩
  have hz : (s.heap.push o).objs.size = s.heap.objs.size + 1 := Heap.size_push ..
  show _ ∧ _
  rw [hz]
  have he : IsEnum ((s.heap.push o).push { cls := .type "enumerate", data := .fields #[.none, .bool false, .ref s.heap.objs.size, rawInt 0, .none, .none] }) (s.heap.objs.size + 1) s.heap.objs.size 0 .none := by
    have := Heap.get?_push_size (s.heap.push o) (o := { cls := .type "enumerate", data := .fields #[.none, .bool false, .ref s.heap.objs.size, rawInt 0, .none, .none] }) rfl
    rw [hz] at this
    exact this
  exact ⟨⟨_, he, rfl⟩, h _ he (Heap.get?_push_of_some _ (Heap.get?_push_size _ B.free)) (by rw [Heap.size_push, hz]) fun b o x => Heap.get?_push_of_some _ (Heap.get?_push_of_some _ x)⟩
def iEnumG (K : PySem.W.Frag) (ta : TA) : TI := fun σ H R => ta σ H fun vs H1 => ∃ (A : Src) (xs : List V), vs = [A.val] ∧ A.has K H1 xs ∧ R (IteG K A) H1
theorem pi_enumG {X : Cx} {e : Expr} {ta : TA} {p pos tpos : Pos} {elts : List Expr} {kk : Nat} (hg : Gl X "enumerate") (hm : X.mg "enumerate" = none) (ha : PA X [e] ta) (hs : starEach [e] X.env = [(false, eval e X.env)] := by rfl) :
    PI X (.Tuple elts kk tpos) (.Call (.Name "enumerate" p) [e] [] pos) (iEnumG X.K ta) := by
  refine ⟨fun pins s σ H R I h => ?_⟩
  refine Call_ (ld_blt I hg hm boot_enumerate (PyProof.Rows.callWith_type1 (thn (ha.run pos pins s σ H _ I h) fun us s1 ⟨vs, H1, I1, r1, q1⟩ => ?_) hs rfl))
  obtain ⟨A, xs, ex, hq, q⟩ := q1
  subst ex
  cases r1 with
  | cons r rr =>
    cases rr
    obtain ⟨o1, G1, B1, g1, n1, f1⟩ := Src.begins I1 hq r
    refine enum_begins1 B1 g1 fun h' he hit hsz hk => wpAny_pyIter_enum he ?_
    have I2 : Inv X pins σ H1 { s1 with heap := h' } := I1.kept (t' := s1.toks) hk
    refine ⟨s1.heap.objs.size + 1, [s1.heap.objs.size + 1, s1.heap.objs.size], _, _, H1, rfl, I2, turn_enumG (Nat.succ_ne_self _) (f1 _ (Nat.le_add_right _ _)) (f1 _ (Nat.le_refl _)), ⟨⟨.none, he⟩, n1 _ _ hit⟩, fun b hb => ?_, q⟩
    have e' : b = s1.heap.objs.size + 1 ∨ b = s1.heap.objs.size := by simpa using hb
    have hle : s1.heap.objs.size ≤ b := by
      rcases e' with z | z
      · rw [z]; exact Nat.le_add_right _ _
      · rw [z]; exact Nat.le_refl _
    exact I1.fpOk hle (I1.hok.fresh hle)
end
end L2X
/-! comprehensions and loops over zip and enumerate of anything -/
namespace L2X
open PySem PySem.Spec PyProof.Rows L2
theorem lc_zipG {K : PySem.W.Frag} {A B : Src} {xs ys : List V} {g : TG} {tt : TT} {te : TE} {vs : List Nat} {σ : L2.St} {H1 : Hp} {D : Addr} {Qd : Hp → Prop} (hn : xs.length = ys.length) (Pv : Nat → Hp → Prop) (h0 : Pv 0 (upd H1 D (.lst []))) (hl : ∀ i H, i ≤ xs.length → Pv i H → A.has K H xs ∧ B.has K H ys)
    (hs : ∀ i x y H T, xs[i]? = some x → ys[i]? = some y → Pv i H → H T = none → g (.ref T) (wipe σ vs) (upd H T (.tup [x, y])) fun σ2 H2 => wipe σ2 vs = wipe σ vs ∧ tt σ2 H2 fun b H3 =>
      if b = true then te σ2 H3 fun z H4 => ∃ acc, H4 D = some (.lst acc) ∧ acc.length < sizeLine ∧ Pv (i + 1) (upd H4 D (.lst (acc ++ [z]))) else Pv (i + 1) H3) (hd : ∀ H, Pv xs.length H → Qd H) :
    ∃ W : Nat → Nat → Hp → Prop, (∃ m, W 0 m (upd H1 D (.lst []))) ∧ ∀ i m H, W i m H →
      ((ItzG K A B).stop i H ∧ Qd H) ∨ ((ItzG K A B).go i H ∧ ∃ Nx : Hp → Prop, (∀ H', Nx H' → ∃ m', m' < m ∧ W (i + 1) m' H') ∧ ∀ x H', (ItzG K A B).yld i H x H' → g x (wipe σ vs) H' fun σ2 H2 => wipe σ2 vs = wipe σ vs ∧ tt σ2 H2 fun b H3 =>
        if b = true then te σ2 H3 fun y H4 => ∃ acc, H4 D = some (.lst acc) ∧ acc.length < sizeLine ∧ Nx (upd H4 D (.lst (acc ++ [y]))) else Nx H3) := by
  refine ⟨fun i m H => m = xs.length - i ∧ i ≤ xs.length ∧ Pv i H, ⟨xs.length, by simp, Nat.zero_le _, h0⟩, ?_⟩
  rintro i m H ⟨rfl, hi, p⟩
  obtain ⟨qx, qy⟩ := hl i H hi p
  by_cases hlt : i < xs.length
  · have hlt2 : i < ys.length := by omega
    have ex : xs[i]? = some xs[i] := List.getElem?_eq_getElem hlt
    have ey : ys[i]? = some ys[i] := List.getElem?_eq_getElem hlt2
    refine .inr ⟨⟨xs, ys, _, _, qx, qy, ex, ey⟩, Pv (i + 1), fun H' p' => ⟨xs.length - (i + 1), by omega, rfl, hlt, p'⟩, fun x H' y => ?_⟩
    obtain ⟨T, u, v, rfl, nT, rfl, z1, z2⟩ := y
    exact hs i u v H T (z1 xs qx) (z2 ys qy) p nT
  · have e : i = xs.length := by omega
    subst e
    exact .inl ⟨⟨xs, ys, qx, qy, .inl ⟨rfl, by omega⟩⟩, hd H p⟩
theorem lc_enumG {K : PySem.W.Frag} {A : Src} {xs : List V} {g : TG} {tt : TT} {te : TE} {vs : List Nat} {σ : L2.St} {H1 : Hp} {D : Addr} {Qd : Hp → Prop} (Pv : Nat → Hp → Prop) (h0 : Pv 0 (upd H1 D (.lst []))) (hl : ∀ i H, i ≤ xs.length → Pv i H → A.has K H xs)
    (hs : ∀ i x H T, xs[i]? = some x → Pv i H → H T = none → g (.ref T) (wipe σ vs) (upd H T (.tup [.int (i : Nat), x])) fun σ2 H2 => wipe σ2 vs = wipe σ vs ∧ tt σ2 H2 fun b H3 =>
      if b = true then te σ2 H3 fun z H4 => ∃ acc, H4 D = some (.lst acc) ∧ acc.length < sizeLine ∧ Pv (i + 1) (upd H4 D (.lst (acc ++ [z]))) else Pv (i + 1) H3) (hd : ∀ H, Pv xs.length H → Qd H) :
    ∃ W : Nat → Nat → Hp → Prop, (∃ m, W 0 m (upd H1 D (.lst []))) ∧ ∀ i m H, W i m H →
      ((IteG K A).stop i H ∧ Qd H) ∨ ((IteG K A).go i H ∧ ∃ Nx : Hp → Prop, (∀ H', Nx H' → ∃ m', m' < m ∧ W (i + 1) m' H') ∧ ∀ x H', (IteG K A).yld i H x H' → g x (wipe σ vs) H' fun σ2 H2 => wipe σ2 vs = wipe σ vs ∧ tt σ2 H2 fun b H3 =>
        if b = true then te σ2 H3 fun y H4 => ∃ acc, H4 D = some (.lst acc) ∧ acc.length < sizeLine ∧ Nx (upd H4 D (.lst (acc ++ [y]))) else Nx H3) := by
  refine ⟨fun i m H => m = xs.length - i ∧ i ≤ xs.length ∧ Pv i H, ⟨xs.length, by simp, Nat.zero_le _, h0⟩, ?_⟩
  rintro i m H ⟨rfl, hi, p⟩
  have qx := hl i H hi p
  by_cases hlt : i < xs.length
  · have ex : xs[i]? = some xs[i] := List.getElem?_eq_getElem hlt
    refine .inr ⟨⟨xs, _, qx, ex⟩, Pv (i + 1), fun H' p' => ⟨xs.length - (i + 1), by omega, rfl, hlt, p'⟩, fun x H' y => ?_⟩
    obtain ⟨T, u, rfl, nT, rfl, z1⟩ := y
    exact hs i u H T (z1 xs qx) p nT
  · have e : i = xs.length := by omega
    subst e
    exact .inl ⟨⟨xs, qx, rfl⟩, hd H p⟩
end L2X
namespace L2X
open PySem PySem.Spec PyProof.Rows L2
theorem eqAt_ty {A : Around} {s : Shared} {a b : String} (ha : tyOk a = true) (hb : tyOk b = true) : SeqAt.EqAt A s (.type a) (.type b) (decide (a = b)) := fun prog w E Q h => by
  unfold eqBool
  refine wpAny_holding ?_
  by_cases e : a = b
  · subst e
    rw [decide_eq_true rfl] at h
    refine wpAny_ite_split (fun _ => ?_) (fun n => absurd (beq_self_eq_true _) n)
    exact wpAny_pure (M := model prog w) (E := E) h
  · rw [decide_eq_false e] at h
    refine wpAny_ite_split (fun q => ?_) (fun _ => ?_)
    · rw [ty_ne e] at q
      cases q
    · have z : wpAny (model prog w) A (compareOp .Eq (.type a) (.type b)) (fun v s' => v = .bool false ∧ s' = s) E s := TypeEq.eq_type_other (tyOk_is ha) (tyOk_is hb) (ty_ne e) ⟨rfl, rfl⟩
      exact wpAny_bind (wpAny_mono z (fun v s' q => by
        obtain ⟨rfl, rfl⟩ := q
        exact wpAny_truthy_bool h) fun _ _ x => x)
def tyIs (a : String) : Value → Bool
  | .type T => decide (T = a)
  | _ => false
def rInTy (K : PySem.W.Frag) : R2 := fun x y H Q => ∃ (a : String) (p : Addr) (ts : List String), x = .ty a ∧ y = .ref p ∧ SqT K H p (ts.map V.ty) ∧ tyOk a = true ∧ ts.all tyOk = true ∧ Q (.bl (ts.any fun t => decide (t = a))) H
theorem vals_tys : ∀ {ts : List String} {us : List Value}, Vals (ts.map V.ty) us → us = ts.map Value.type
  | [], _, .nil => rfl
  | t :: ts, _, .cons r rr => by
    cases (show _ = Value.type t from r)
    rw [vals_tys rr]
    rfl
theorem op_in_ty {X : Cx} : OpR X (compareOp .In) (rInTy X.K) := by
  intro pins s σ H x y v u Q I rx ry h
  obtain ⟨a, p, ts, rfl, rfl, hq, ha, hts, q⟩ := h
  cases ry
  cases (show v = Value.type a from rx)
  obtain ⟨its, r, pl, hz⟩ := I.tuple hq
  have e := vals_tys r
  subst e
  refine SeqAt.in_tupleAt (tyIs a) pl (fun w hw => ?_) ⟨.bl _, H, I, rfl, ?_⟩
  · obtain ⟨t, ht, rfl⟩ : ∃ t, t ∈ ts ∧ w = Value.type t := by
      obtain ⟨t, ht, e⟩ := List.mem_map.mp (show w ∈ ts.map Value.type by simpa using hw)
      exact ⟨t, ht, e.symm⟩
    exact eqAt_ty (List.all_eq_true.mp hts t ht) ha
  · have e : (ts.map Value.type).toArray.any (tyIs a) = ts.any fun t => decide (t = a) := by
      simp [List.any_map]
      rfl
    rw [e]
    exact q
end L2X
namespace Dt
open PySem PySem.Spec PyProof.Rows L2 L2X
/-! ### kinds -/
def isInt : V → Bool
  | .int _ => true
  | _ => false
theorem isInt_ty {K : PySem.W.Frag} {H : Hp} {x : V} {T : String} (t : TyB K H x T) : decide (T = "int") = isInt x := by
  cases t <;> rfl
def betw : V → Int → Int → Bool
  | .int i, lo, hi => decide (lo ≤ i) && decide (i ≤ hi)
  | _, _, _ => false
theorem betw_int (i lo hi : Int) : betw (.int i) lo hi = (decide (lo ≤ i) && decide (i ≤ hi)) := rfl
theorem betw_no {x : V} {lo hi : Int} (h : isInt x = false) : betw x lo hi = false := by
  cases x with
  | int i => cases h
  | _ => rfl
/-- a thing of a known kind -/
def Kt (K : PySem.W.Frag) (H : Hp) (x : V) : Prop := ∃ T, TyB K H x T ∧ tyOk T = true
abbrev sIsNum : Stmt := topS 16
theorem scIsNum : FnScope ["thing"] ["thing"] (defScope sIsNum) := ⟨rfl, rfl, rfl, by decide +kernel, rfl, by decide +kernel, by decide +kernel⟩
def spIsNum (K : PySem.W.Frag) : Sp := fun vs H Q _ => ∃ x, vs = [x] ∧ Kt K H x ∧ Q (.bl (isInt x)) H
abbrev sBetw : Stmt := topS 17
theorem scBetw : FnScope ["thing", "least", "most"] ["thing", "least", "most"] (defScope sBetw) := ⟨rfl, rfl, rfl, by decide +kernel, rfl, by decide +kernel, by decide +kernel⟩
def spBetw (K : PySem.W.Frag) : Sp := fun vs H Q _ => ∃ x lo hi, vs = [x, .int lo, .int hi] ∧ Kt K H x ∧ Q (.bl (betw x lo hi)) H
abbrev sIsList : Stmt := topS 19
theorem scIsList : FnScope ["thing"] ["thing"] (defScope sIsList) := ⟨rfl, rfl, rfl, by decide +kernel, rfl, by decide +kernel, by decide +kernel⟩
def spIsList (K : PySem.W.Frag) : Sp := fun vs H Q _ => ∃ x T, vs = [x] ∧ TyB K H x T ∧ tyOk T = true ∧ ∀ H', Same H H' → Q (.bl (decide ("list" = T) || decide ("tuple" = T))) H'
section
variable {P : Program} {w : World} {K : PySem.W.Frag} {mg : Str → Option Value} {base : Heap}
theorem ok_isNum {f : Addr} {fd : FuncData} {k : Nat} (F : Fun K "is_number" "is_number" sIsNum f fd) (T : Tp mg) (X : Tx mg) : FnOk P w K mg base CX0 (k + 1) f fd ["thing"] (spIsNum K) := by
  refine F.ok scIsNum (fun vs H Q E h => ?_) (fun cdv A outer s H vs Q E hr h => ?_)
  · obtain ⟨x, rfl, _⟩ := h
    rfl
  · obtain ⟨x, rfl, ⟨Ty, ht, ok⟩, q⟩ := h
    refine ⟨_, pss_one (ps_ret (pe_cmpR op_eq_ty (pe_callTy call_type1 (by rfl) T.typ (by decide +kernel) (pa_cons (pv 0) pa_nil)) (pe_bltn (v := .ty "int") (u := .type "int") (by rfl) X.int (by decide +kernel) rfl) (nomark _))), ?_⟩
    refine ⟨x, rfl, x, Ty, rfl, ht, Ty, "int", rfl, rfl, ok, rfl, ?_⟩
    have e : id (decide (Ty = "int")) = isInt x := isInt_ty ht
    rw [e]
    exact q
theorem ok_betw {f fN : Addr} {fd fdN : FuncData} {k : Nat} (F : Fun K "is_between" "is_between" sBetw f fd) (GN : FnOk P w K mg base CX0 (k + 1) fN fdN ["thing"] (spIsNum K)) (mN : mg "is_number" = some (.ref fN)) (kN : PySem.W.keepIn K (.ref fN) = true) (bN : Binds K fdN ["thing"] []) : FnOk P w K mg base CX0 (k + 2) f fd ["thing", "least", "most"] (spBetw K) := by
  refine F.ok scBetw (fun vs H Q E h => ?_) (fun cdv A outer s H vs Q E hr h => ?_)
  · obtain ⟨x, lo, hi, rfl, _⟩ := h
    rfl
  · obtain ⟨x, lo, hi, rfl, kt, q⟩ := h
    refine ⟨_, pss_one (ps_ret (pe_and (pe_call GN hr (by rfl) mN kN bN .nil pass0 (pa_cons (pv 0) pa_nil)) (pe_one (pe_chain op_le op_le (pv 1) (pv 0) (pv 2))))), ?_⟩
    refine ⟨x, rfl, x, rfl, kt, _, rfl, ?_⟩
    cases x with
    | int i =>
      refine iteT ⟨.int lo, rfl, .int i, rfl, lo, i, rfl, rfl, _, rfl, ite2 (fun e => ?_) (fun e => ?_)⟩
      · refine ⟨.int hi, rfl, i, hi, rfl, rfl, ?_⟩
        rw [betw_int, e, Bool.true_and] at q
        exact q
      · rw [betw_int, Bool.eq_false_iff.mpr e, Bool.false_and] at q
        exact q
    | _ => exact iteF q
theorem ok_isList {f : Addr} {fd : FuncData} {k : Nat} (F : Fun K "is_list" "is_list" sIsList f fd) (T : Tp mg) (X : Tx mg) : FnOk P w K mg base CX0 (k + 1) f fd ["thing"] (spIsList K) := by
  refine F.ok scIsList (fun vs H Q E h => ?_) (fun cdv A outer s H vs Q E hr h => ?_)
  · obtain ⟨x, Ty, rfl, _⟩ := h
    rfl
  · obtain ⟨x, Ty, rfl, ht, ok, q⟩ := h
    refine ⟨_, pss_one (ps_ret (pe_cmpR op_in_ty (pe_callTy call_type1 (by rfl) T.typ (by decide +kernel) (pa_cons (pv 0) pa_nil)) (pe_tup (pa_cons (pe_bltn (v := .ty "list") (u := .type "list") (by rfl) X.list (by decide +kernel) rfl) (pa_cons (pe_bltn (v := .ty "tuple") (u := .type "tuple") (by rfl) X.tuple (by decide +kernel) rfl) pa_nil))) (by with_unfolding_all rfl))), ?_⟩
    refine ⟨x, rfl, x, Ty, rfl, ht, by show 2 ≤ sizeLine; decide, fun p hp => ⟨Ty, p, ["list", "tuple"], rfl, rfl, SqT.of upd_same, ok, rfl, ?_⟩⟩
    have e : (["list", "tuple"].any fun t => decide (t = Ty)) = (decide ("list" = Ty) || decide ("tuple" = Ty)) := by simp
    rw [e]
    exact q _ (same_upd hp)
end
/-! ### is_tuple -/
abbrev sIsTup : Stmt := topS 20
theorem scIsTup : FnScope ["thing", "many"] ["thing", "many"] (defScope sIsTup) := ⟨rfl, rfl, rfl, by decide +kernel, rfl, by decide +kernel, by decide +kernel⟩
def spIsTup (K : PySem.W.Frag) : Sp := fun vs H Q _ => ∃ x n, vs = [x, .int n] ∧ ((∃ T, TyB K H x T ∧ tyOk T = true ∧ T ≠ "tuple" ∧ Q (.bl false) H) ∨ ∃ a xs, x = .ref a ∧ SqT K H a xs ∧ Q (.bl (decide ((xs.length : Int) = n))) H)
section
variable {P : Program} {w : World} {K : PySem.W.Frag} {mg : Str → Option Value} {base : Heap}
theorem ok_isTup {f : Addr} {fd : FuncData} {k : Nat} (F : Fun K "is_tuple" "is_tuple" sIsTup f fd) (T : Tp mg) (X : Tx mg) : FnOk P w K mg base CX0 (k + 1) f fd ["thing", "many"] (spIsTup K) := by
  refine F.ok scIsTup (fun vs H Q E h => ?_) (fun cdv A outer s H vs Q E hr h => ?_)
  · obtain ⟨x, n, rfl, _⟩ := h
    rfl
  · obtain ⟨x, n, rfl, h⟩ := h
    refine ⟨_, pss_one (ps_ret (pe_and (pe_cmpR op_eq_ty (pe_callTy call_type1 (by rfl) T.typ (by decide +kernel) (pa_cons (pv 0) pa_nil)) (pe_bltn (v := .ty "tuple") (u := .type "tuple") (by rfl) X.tuple (by decide +kernel) rfl) (nomark _)) (pe_one (pe_cmpR op_eq (pe_callB call_len_seq (by rfl) X.len PySem.boot_len (pa_cons (pv 0) pa_nil)) (pv 1) (nomark _))))), ?_⟩
    rcases h with ⟨Ty, ht, ok, ne, q⟩ | ⟨a, xs, rfl, hx, q⟩
    · refine ⟨x, rfl, x, Ty, rfl, ht, Ty, "tuple", rfl, rfl, ok, rfl, _, rfl, iteE (decide_eq_false ne) q⟩
    · refine ⟨.ref a, rfl, .ref a, "tuple", rfl, .tup hx, "tuple", "tuple", rfl, rfl, rfl, rfl, _, rfl, iteY (by decide) ?_⟩
      refine ⟨.ref a, rfl, a, xs, rfl, .inr hx, .int n, rfl, rfl, ?_⟩
      have e : decide (V.int (xs.length : Int) = V.int n) = decide ((xs.length : Int) = n) := Bool.eq_iff_iff.mpr ⟨fun h => decide_eq_true (V.int.inj (of_decide_eq_true h)), fun h => decide_eq_true (congrArg V.int (of_decide_eq_true h))⟩
      rw [e]
      exact q
end
end Dt
/-! what many laws share -/
namespace L2X
open PySem PySem.Spec PyProof.Rows L2
theorem PI.or {X : Cx} {tg it : Expr} {w1 w2 : TI} (a : PI X tg it w1) (b : PI X tg it w2) : PI X tg it (fun σ H R => w1 σ H R ∨ w2 σ H R) :=
  ⟨fun pins s σ H R I h => h.elim (a.run pins s σ H R I) (b.run pins s σ H R I)⟩
def rJoinK (K : PySem.W.Frag) : V → List V → Hp → VK → Prop := fun x xs H Q => ∃ a p, ∃ ys : List Str, x = .str a ∧ xs = [.ref p] ∧ (SqL K H p (ys.map V.str) ∨ SqT K H p (ys.map V.str)) ∧ (ys.map (·.length)).sum + ys.length * a.length ≤ 16777216 ∧ Q (.str (Txt.join a ys)) H
theorem pe_joinK {X : Cx} {o e : Expr} {to te : TE} {pos apos : Pos} {K : PySem.W.Frag} (hK : X.K = K) (ho : PE X o to) (he : PE X e te) (hs : starEach [e] X.env = [(false, eval e X.env)] := by rfl) (hbase : attributeBase o "join" X.env (eval o X.env) = eval o X.env := by rfl) (hline : (apos.endLine == pos.line) = true := by rfl) :
    PE X (.Call (.Attribute o "join" apos) [e] [] pos) (tM1 (rJoinK K) to te) := by
  subst hK
  exact pe_join ho he hs hbase hline
end L2X
namespace Dt
open PySem PySem.Spec PyProof.Rows L2 L2X
open SX (S)
def ch (c : Nat) : V := .str ⟨#[c]⟩
structure RowsR (high wide : Nat) (rs : List (List Nat)) : Prop where
  len : rs.length = high
  row : ∀ l ∈ rs, RowR wide l
theorem PicR.rows {high wide : Nat} {rs : List (List Nat)} (h : PicR high wide rs) : RowsR high wide rs := ⟨h.len, h.row⟩
theorem set_getD {ls : List (List Nat)} {r : Nat} {l : List Nat} (h : ls[r]? = some l) : ls.getD r [] = l := by
  rw [List.getD_eq_getElem?_getD, h]
  rfl
theorem getD_at {l : List Nat} {c x : Nat} (h : l[c]? = some x) : l.getD c 0 = x := by
  rw [List.getD_eq_getElem?_getD, h]
  rfl
structure Plc (K : PySem.W.Frag) (H : Hp) (xs : List V) (ps : List (Nat × Nat)) : Prop where
  len : xs.length = ps.length
  at_ : ∀ (i : Nat) (x : V) (p : Nat × Nat), xs[i]? = some x → ps[i]? = some p → ∃ t, x = .ref t ∧ SqT K H t [.int p.1, .int p.2]
theorem Plc.same {K : PySem.W.Frag} {H H' : Hp} {xs : List V} {ps : List (Nat × Nat)} (h : Plc K H xs ps) (s : Same H H') : Plc K H' xs ps :=
  ⟨h.len, fun i x p a b => let ⟨t, e, z⟩ := h.at_ i x p a b; ⟨t, e, sameT s z⟩⟩
theorem chars_row (l : List Nat) : (S l).cps.toList.map (fun c => V.str ⟨#[c]⟩) = l.map ch := by
  unfold S
  rfl
theorem same_over {H0 H : Hp} {a : Addr} {o : HO} (s : Same H0 H) (n : H0 a = none) : Same H0 (upd H a o) := fun b u e => by
  rw [upd_ne (ne_of_none e n)]
  exact s _ _ e
theorem lens_rows (cs : List Nat) : ((cs.map fun c => (⟨#[c]⟩ : Str)).map (·.length)).sum = cs.length := lens_ones cs
theorem join_row (cs : List Nat) : Txt.join "" (cs.map fun c => (⟨#[c]⟩ : Str)) = S cs := join_ones cs
theorem ixN_at {n j : Nat} (hj : j < n) : ixN n (j : Int) = some j := by
  unfold ixN
  rw [if_pos (by omega), if_pos (by omega)]
  simp
theorem chars_S (l : List Nat) : chars (S l) = l.map fun c => V.str ⟨#[c]⟩ := by
  unfold chars S
  simp
theorem sum_ones : ∀ n : Nat, (List.replicate n (1 : Int)).sum = n
  | 0 => rfl
  | n + 1 => by
    rw [List.replicate_succ, List.sum_cons, sum_ones n]
    omega
theorem ch_dec (a b : Nat) : decide (V.str ⟨#[a]⟩ = V.str ⟨#[b]⟩) = decide (a = b) := by
  apply Bool.eq_iff_iff.mpr
  rw [decide_eq_true_iff, decide_eq_true_iff]
  constructor
  · intro h
    have e1 : (⟨#[a]⟩ : Str) = ⟨#[b]⟩ := V.str.inj h
    have e2 : (#[a] : Array Nat) = #[b] := congrArg Str.cps e1
    have e3 : [a] = [b] := congrArg Array.toList e2
    exact (List.cons.inj e3).1
  · intro h
    rw [h]
structure ExN (K : PySem.W.Frag) (mg : Str → Option Value) (nm : Str) (C : Addr) : Prop where
  g : mg nm = some (.ref C)
  x : PySem.W.excIn K C [.type "ValueError", .type "Exception", .type "BaseException", .type "object"] "ValueError.__new__" = true
  k : PySem.W.keepIn K (.ref C) = true
  b : PySem.W.subIn K (.ref C) (.type "BaseException") = some true
  t : PySem.W.typeIn K (.ref C) = some (.type "type")
structure Tz (mg : Str → Option Value) : Prop where
  sum : mg "sum" = none
  zip : mg "zip" = none
theorem tyB_same2 {K : PySem.W.Frag} {H H' : Hp} {x : V} {T : String} (t : TyB K H x T) (s : Same H H') : TyB K H' x T := by
  cases t with
  | non => exact .non
  | bl b => exact .bl b
  | int i => exact .int i
  | str x => exact .str x
  | byt b => exact .byt b
  | lst h => exact .lst (s.seq h)
  | tup h => exact .tup (sameT s h)
  | dK h => exact .dK (s _ _ h)
theorem Kt.same {K : PySem.W.Frag} {H H' : Hp} {x : V} (h : Kt K H x) (s : Same H H') : Kt K H' x := let ⟨T, t, ok⟩ := h; ⟨T, tyB_same2 t s, ok⟩
theorem all_true : ∀ n : Nat, (List.replicate n true).all id = true
  | 0 => rfl
  | n + 1 => by
    rw [List.replicate_succ, List.all_cons, all_true n]
    rfl
theorem kt_int {K : PySem.W.Frag} {H : Hp} (i : Int) : Kt K H (.int i) := ⟨"int", .int i, rfl⟩
theorem kt_bl {K : PySem.W.Frag} {H : Hp} (b : Bool) : Kt K H (.bl b) := ⟨"bool", .bl b, rfl⟩
def rD (l : List Nat) : PyData := .str (S l)
def pD (p : Nat × Nat) : PyData := .tuple [.int p.1, .int p.2]
theorem strOk_row {l : List Nat} (h : ∀ c ∈ l, c = 35 ∨ c = 46) : PyData.strOk (S l) = true := by
  unfold PyData.strOk S
  simp
  intro c hc
  rcases h c hc with z | z <;> (subst z; decide)
theorem lay_rows : ∀ ls : List (List Nat), (∀ l ∈ ls, ∀ c ∈ l, c = 35 ∨ c = 46) → PyData.canLayAll0 (ls.map rD) = true ∧ PyData.depthAll (ls.map rD) ≤ 1
  | [], _ => ⟨by simp [PyData.canLayAll0], by simp [PyData.depthAll]⟩
  | l :: r, h => by
    obtain ⟨h1, h2⟩ := lay_rows r fun m hm => h m (List.mem_cons_of_mem _ hm)
    refine ⟨?_, ?_⟩
    · rw [List.map_cons]
      simp [PyData.canLayAll0, PyData.canLay0, rD, h1, strOk_row (h l List.mem_cons_self)]
    · rw [List.map_cons]
      simp only [PyData.depthAll, PyData.depth, rD]
      omega
theorem lay_places : ∀ ps : List (Nat × Nat), PyData.canLayAll0 (ps.map pD) = true ∧ PyData.depthAll (ps.map pD) ≤ 3
  | [] => ⟨by simp [PyData.canLayAll0], by simp [PyData.depthAll]⟩
  | p :: r => by
    obtain ⟨h1, h2⟩ := lay_places r
    refine ⟨?_, ?_⟩
    · rw [List.map_cons]
      simp [PyData.canLayAll0, PyData.canLay0, pD, h1]
    · rw [List.map_cons]
      simp only [PyData.depthAll, PyData.depth, pD]
      omega
theorem shaped_rows {high wide : Nat} {ls : List (List Nat)} (R : RowsR high wide ls) : SeqAt.shaped (.tuple (ls.map rD)) = true := by
  obtain ⟨h1, h2⟩ := lay_rows ls fun l hl => (R.row l hl).sg
  unfold SeqAt.shaped
  rw [Bool.and_eq_true, decide_eq_true_iff]
  refine ⟨by simp [PyData.canLay0, h1], ?_⟩
  simp only [PyData.depth]
  omega
theorem shaped_places (ps : List (Nat × Nat)) : SeqAt.shaped (.list (ps.map pD)) = true := by
  obtain ⟨h1, h2⟩ := lay_places ps
  unfold SeqAt.shaped
  rw [Bool.and_eq_true, decide_eq_true_iff]
  refine ⟨by simp [PyData.canLay0, h1], ?_⟩
  simp only [PyData.depth]
  omega
theorem shaped_place (p : Nat × Nat) : SeqAt.shaped (pD p) = true := rfl
theorem eqv_rows : ∀ ls : List (List Nat), PyData.eqvAll (ls.map rD) (ls.map rD) = true
  | [] => by simp [PyData.eqvAll]
  | l :: r => by
    rw [List.map_cons, PyData.eqvAll, eqv_rows r]
    simp [PyData.eqv, rD]
theorem eqv_pD (p q : Nat × Nat) : PyData.eqv (pD p) (pD q) = decide (p = q) := by
  apply Bool.eq_iff_iff.mpr
  rw [decide_eq_true_iff]
  simp [PyData.eqv, PyData.eqvAll, pD, Prod.ext_iff]
  omega
theorem eqv_places : ∀ ps : List (Nat × Nat), PyData.eqvAll (ps.map pD) (ps.map pD) = true
  | [] => by simp [PyData.eqvAll]
  | p :: r => by
    rw [List.map_cons, PyData.eqvAll, eqv_places r, eqv_pD, decide_eq_true rfl]
    rfl
section
variable {K : PySem.W.Frag} {H : Hp}
theorem dp_rows : ∀ ls : List (List Nat), DpAll K H (ls.map rv) (ls.map rD)
  | [] => .nil
  | l :: r => .cons (.str _) (dp_rows r)
theorem dp_place {t : Addr} {p : Nat × Nat} (h : SqT K H t [.int p.1, .int p.2]) : Dp K H (.ref t) (pD p) := .tup h (.cons (.int _) (.cons (.int _) .nil))
theorem dp_places : ∀ {xs : List V} {ps : List (Nat × Nat)}, Plc K H xs ps → DpAll K H xs (ps.map pD)
  | [], [], _ => .nil
  | [], _ :: _, h => nomatch h.len
  | _ :: _, [], h => nomatch h.len
  | x :: xs, p :: ps, h => by
    obtain ⟨t, e, ht⟩ := h.at_ 0 x p rfl rfl
    subst e
    exact .cons (dp_place ht) (dp_places ⟨Nat.succ.inj h.len, fun i y q a b => h.at_ (i + 1) y q a b⟩)
theorem Plc.app {xs ys : List V} {ps qs : List (Nat × Nat)} (a : Plc K H xs ps) (b : Plc K H ys qs) : Plc K H (xs ++ ys) (ps ++ qs) := by
  refine ⟨by rw [List.length_append, List.length_append, a.len, b.len], fun i x p hx hp => ?_⟩
  by_cases hi : i < xs.length
  · rw [List.getElem?_append_left hi] at hx
    rw [List.getElem?_append_left (by rw [← a.len]; exact hi)] at hp
    exact a.at_ i x p hx hp
  · rw [List.getElem?_append_right (by omega)] at hx
    rw [List.getElem?_append_right (by rw [← a.len]; omega), ← a.len] at hp
    exact b.at_ _ x p hx hp
theorem plc_upd {xs ys zs : List V} {ps : List (Nat × Nat)} {l : Addr} (h : Plc K H xs ps) (hl : H l = some (.lst ys)) : Plc K (upd H l (.lst zs)) xs ps := by
  refine ⟨h.len, fun i x p a b => ?_⟩
  obtain ⟨t, e, ht⟩ := h.at_ i x p a b
  refine ⟨t, e, ?_⟩
  rcases ht with (ht | ⟨o, ht⟩) | ht
  · exact SqT.of (by rw [upd_ne (ne_of ht hl (by intro z; cases z))]; exact ht)
  · exact .inl (.inr ⟨o, by rw [upd_ne (ne_of ht hl (by intro z; cases z))]; exact ht⟩)
  · exact .inr ht
theorem Plc.take {xs : List V} {ps : List (Nat × Nat)} (a : Plc K H xs ps) (n : Nat) : Plc K H (xs.take n) (ps.take n) := by
  refine ⟨by rw [List.length_take, List.length_take, a.len], fun i x p hx hp => ?_⟩
  rw [List.getElem?_take] at hx hp
  split at hx
  · rename_i h
    rw [if_pos h] at hp
    exact a.at_ i x p hx hp
  · cases hx
end
theorem cutV_whole {xs : List V} {lo hi : Option Int} (h : HT.sIx xs.length 0 lo = 0 ∧ HT.sIx xs.length xs.length hi = xs.length) : cutV xs lo hi = xs := by
  unfold cutV
  rw [h.1, h.2, List.drop_zero, Nat.sub_zero, List.take_length]
theorem sl_any {K : PySem.W.Frag} {H : Hp} {a : Addr} {xs : List V} {lo hi : Option Int} {Q : VK} (h : H a = some (.tup xs)) (q : ∀ z H2, Same H H2 → H2 z = some (.tup (cutV xs lo hi)) → Q (.ref z) H2) : rSlA K (.ref a) lo hi H Q :=
  ⟨a, xs, rfl, SqT.of h, fun w => q a H (Same.refl H) (by rw [cutV_whole w]; exact h), fun _ p hp => q p _ (same_upd hp) upd_same⟩
theorem cat_any {K : PySem.W.Frag} {H : Hp} {a b : Addr} {xs ys : List V} {Q : VK} (h : H a = some (.tup xs)) (g : H b = some (.tup ys)) (hz : xs.length + ys.length ≤ sizeLine) (q : ∀ z H2, Same H H2 → H2 z = some (.tup (xs ++ ys)) → Q (.ref z) H2) :
    rCatA K (.ref a) (.ref b) H Q :=
  ⟨a, b, xs, ys, rfl, rfl, SqT.of h, SqT.of g, hz, fun e => q b H (Same.refl H) (by rw [e]; exact g), fun _ e => q a H (Same.refl H) (by rw [e, List.append_nil]; exact h), fun _ _ p hp => q p _ (same_upd hp) upd_same⟩
theorem rep_any {K : PySem.W.Frag} {H : Hp} {a : Addr} {x : V} {k : Nat} {Q : VK} (h : H a = some (.tup [x])) (h1 : 1 ≤ k) (h2 : k ≤ 1000) (q : ∀ z H2, Same H H2 → H2 z = some (.tup (List.replicate k x)) → Q (.ref z) H2) :
    rRepA K (.ref a) (.int k) H Q := by
  have flat : ∀ n : Nat, (List.replicate n [x]).flatten = List.replicate n x := by
    intro n
    induction n with
    | zero => rfl
    | succ n ih => rw [List.replicate_succ, List.flatten_cons, ih, List.replicate_succ]; rfl
  refine ⟨a, k, [x], rfl, rfl, SqT.of h, (by simp), by omega, by omega, by show 1 ≤ 1000; decide, fun e => q a H (Same.refl H) ?_, fun _ p hp => q p _ (same_upd hp) ?_⟩
  · have : k = 1 := by omega
    subst this
    exact h
  · rw [upd_same, Int.toNat_natCast, flat]
end Dt
/-! a list or a tuple walked, one rule for both -/
namespace L2X
open PySem PySem.Spec PyProof.Rows L2
/-- at a stands a list (true) or a tuple (false) of xs -/
def Sq (K : PySem.W.Frag) (H : Hp) (b : Bool) (a : Addr) (xs : List V) : Prop := match b with
  | true => SqL K H a xs
  | false => SqT K H a xs
theorem sameT0 {K : PySem.W.Frag} {H H' : Hp} {a : Addr} {xs : List V} (e : Same H H') (h : SqT K H a xs) : SqT K H' a xs := by
  rcases h with (h | ⟨o, h⟩) | h
  · exact .inl (.inl (e _ _ h))
  · exact .inl (.inr ⟨o, e _ _ h⟩)
  · exact .inr h
theorem Sq.same {K : PySem.W.Frag} {H H' : Hp} {b : Bool} {a : Addr} {xs : List V} (h : Sq K H b a xs) (s : Same H H') : Sq K H' b a xs := by
  cases b with
  | true => exact s.seq h
  | false => exact sameT0 s h
def Its (K : PySem.W.Frag) (b : Bool) (a : Addr) : It := match b with
  | true => Itl K a
  | false => Itt K a
def iSq (K : PySem.W.Frag) (tl : TE) : TI := fun σ H R => tl σ H fun x H1 => ∃ b a xs, x = .ref a ∧ Sq K H1 b a xs ∧ R (Its K b a) H1
theorem pi_sq {X : Cx} {tg l : Expr} {tl : TE} (hl : PE X l tl) : PI X tg l (iSq X.K tl) := by
  refine ⟨fun pins s σ H R I h => ?_⟩
  refine thn (hl.run pins s σ H _ I h) fun v s1 ⟨x, H1, I1, r1, q1⟩ => ?_
  obtain ⟨b, a, xs, e, hq, q⟩ := q1
  subst e
  cases r1
  cases b with
  | true =>
    obtain ⟨its, rv, p, hz⟩ := I1.list hq
    refine wpAny_pyIter_list p.isList ?_
    refine ⟨s1.heap.objs.size, [s1.heap.objs.size], _, _, H1, rfl, I1.kept (t' := s1.toks) fun b o e => Heap.get?_push_of_some _ e, turn_list a _, ⟨_, Heap.get?_push_size _ rfl, rfl, rfl⟩, fun b hb => ?_, q⟩
    have e : b = s1.heap.objs.size := by simpa using hb
    subst e
    exact I1.fpOk (Nat.le_refl _) (I1.hok.fresh (Nat.le_refl _))
  | false =>
    obtain ⟨its, rv, p, hz⟩ := I1.tuple hq
    refine wpAny_pyIter_tuple (show s1.heap.IsTuple a its.toArray from p) ?_
    refine ⟨s1.heap.objs.size, [s1.heap.objs.size], _, _, H1, rfl, I1.kept (t' := s1.toks) fun b o e => Heap.get?_push_of_some _ e, turn_tuple a _, ⟨_, Heap.get?_push_size _ rfl, rfl, rfl⟩, fun b hb => ?_, q⟩
    have e : b = s1.heap.objs.size := by simpa using hb
    subst e
    exact I1.fpOk (Nat.le_refl _) (I1.hok.fresh (Nat.le_refl _))
theorem lc_sq {K : PySem.W.Frag} {b : Bool} {a : Addr} {xs : List V} {g : TG} {tt : TT} {te : TE} {vs : List Nat} {σ : L2.St} {H1 : Hp} {D : Addr} {Qd : Hp → Prop} (Pv : Nat → Hp → Prop) (h0 : Pv 0 (upd H1 D (.lst []))) (hl : ∀ i H, i ≤ xs.length → Pv i H → Sq K H b a xs)
    (hs : ∀ i x H, xs[i]? = some x → Pv i H → g x (wipe σ vs) H fun σ2 H2 => wipe σ2 vs = wipe σ vs ∧ tt σ2 H2 fun b H3 =>
      if b = true then te σ2 H3 fun y H4 => ∃ acc, H4 D = some (.lst acc) ∧ acc.length < sizeLine ∧ Pv (i + 1) (upd H4 D (.lst (acc ++ [y]))) else Pv (i + 1) H3) (hd : ∀ H, Pv xs.length H → Qd H) :
    ∃ W : Nat → Nat → Hp → Prop, (∃ m, W 0 m (upd H1 D (.lst []))) ∧ ∀ i m H, W i m H →
      ((Its K b a).stop i H ∧ Qd H) ∨ ((Its K b a).go i H ∧ ∃ Nx : Hp → Prop, (∀ H', Nx H' → ∃ m', m' < m ∧ W (i + 1) m' H') ∧ ∀ x H', (Its K b a).yld i H x H' → g x (wipe σ vs) H' fun σ2 H2 => wipe σ2 vs = wipe σ vs ∧ tt σ2 H2 fun b H3 =>
        if b = true then te σ2 H3 fun y H4 => ∃ acc, H4 D = some (.lst acc) ∧ acc.length < sizeLine ∧ Nx (upd H4 D (.lst (acc ++ [y]))) else Nx H3) := by
  cases b with
  | true => exact lc_list Pv h0 hl hs hd
  | false => exact lc_tup Pv h0 hl hs hd
end L2X
namespace L2X
open PySem PySem.Spec PyProof.Rows L2
/-! ### comprehensions of two clauses, and of one, over anything -/
theorem lc2_by {J : It} {g : TG} {tt : TT} {wi1 : TI} {g1 : TG} {tt1 : TT} {te : TE} {vs vs1 : List Nat} {σ : L2.St} {H1 : Hp} {D : Addr} {Qd : Hp → Prop} (n : Nat) (Pv : Nat → Hp → Prop) (h0 : Pv 0 (upd H1 D (.lst [])))
    (hstop : ∀ H, Pv n H → J.stop n H) (hgo : ∀ i H, i < n → Pv i H → J.go i H)
    (hs : ∀ i x H H', i < n → Pv i H → J.yld i H x H' → g x (wipe σ vs) H' fun σ2 H2 => wipe σ2 vs = wipe σ vs ∧ tt σ2 H2 fun b H3 =>
      if b = true then wi1 σ2 H3 fun J1 H4 => ∃ W1 : Nat → Nat → Hp → Prop, (∃ m, W1 0 m H4) ∧ ∀ j k H, W1 j k H →
        (J1.stop j H ∧ Pv (i + 1) H) ∨ (J1.go j H ∧ ∃ Nx1 : Hp → Prop, (∀ H', Nx1 H' → ∃ k', k' < k ∧ W1 (j + 1) k' H') ∧ ∀ x H', J1.yld j H x H' → g1 x (wipe σ2 vs1) H' fun σ3 H5 => wipe σ3 vs1 = wipe σ2 vs1 ∧ tt1 σ3 H5 fun b H6 =>
          if b = true then te σ3 H6 fun y H7 => ∃ acc, H7 D = some (.lst acc) ∧ acc.length < sizeLine ∧ Nx1 (upd H7 D (.lst (acc ++ [y]))) else Nx1 H6)
      else Pv (i + 1) H3) (hd : ∀ H, Pv n H → Qd H) :
    ∃ W : Nat → Nat → Hp → Prop, (∃ m, W 0 m (upd H1 D (.lst []))) ∧ ∀ i m H, W i m H →
      (J.stop i H ∧ Qd H) ∨ (J.go i H ∧ ∃ Nx : Hp → Prop, (∀ H', Nx H' → ∃ m', m' < m ∧ W (i + 1) m' H') ∧ ∀ x H', J.yld i H x H' → g x (wipe σ vs) H' fun σ2 H2 => wipe σ2 vs = wipe σ vs ∧ tt σ2 H2 fun b H3 =>
        if b = true then wi1 σ2 H3 fun J1 H4 => ∃ W1 : Nat → Nat → Hp → Prop, (∃ m, W1 0 m H4) ∧ ∀ j k H, W1 j k H →
          (J1.stop j H ∧ Nx H) ∨ (J1.go j H ∧ ∃ Nx1 : Hp → Prop, (∀ H', Nx1 H' → ∃ k', k' < k ∧ W1 (j + 1) k' H') ∧ ∀ x H', J1.yld j H x H' → g1 x (wipe σ2 vs1) H' fun σ3 H5 => wipe σ3 vs1 = wipe σ2 vs1 ∧ tt1 σ3 H5 fun b H6 =>
            if b = true then te σ3 H6 fun y H7 => ∃ acc, H7 D = some (.lst acc) ∧ acc.length < sizeLine ∧ Nx1 (upd H7 D (.lst (acc ++ [y]))) else Nx1 H6)
        else Nx H3) := by
  refine ⟨fun i m H => m = n - i ∧ i ≤ n ∧ Pv i H, ⟨n, by simp, Nat.zero_le _, h0⟩, ?_⟩
  rintro i m H ⟨rfl, hi, p⟩
  by_cases hlt : i < n
  · exact .inr ⟨hgo i H hlt p, Pv (i + 1), fun H' p' => ⟨n - (i + 1), by omega, rfl, hlt, p'⟩, fun x H' y => hs i x H H' hlt p y⟩
  · have e : i = n := by omega
    subst e
    exact .inl ⟨hstop H p, hd H p⟩
theorem lc2_in {J1 : It} {g1 : TG} {tt1 : TT} {te : TE} {vs1 : List Nat} {σ2 : L2.St} {H4 : Hp} {D : Addr} {Nx : Hp → Prop} (n : Nat) (Pv : Nat → Hp → Prop) (h0 : Pv 0 H4) (hstop : ∀ H, Pv n H → J1.stop n H) (hgo : ∀ i H, i < n → Pv i H → J1.go i H)
    (hs : ∀ i x H H', i < n → Pv i H → J1.yld i H x H' → g1 x (wipe σ2 vs1) H' fun σ3 H5 => wipe σ3 vs1 = wipe σ2 vs1 ∧ tt1 σ3 H5 fun b H6 =>
      if b = true then te σ3 H6 fun y H7 => ∃ acc, H7 D = some (.lst acc) ∧ acc.length < sizeLine ∧ Pv (i + 1) (upd H7 D (.lst (acc ++ [y]))) else Pv (i + 1) H6) (hd : ∀ H, Pv n H → Nx H) :
    ∃ W1 : Nat → Nat → Hp → Prop, (∃ m, W1 0 m H4) ∧ ∀ j k H, W1 j k H →
      (J1.stop j H ∧ Nx H) ∨ (J1.go j H ∧ ∃ Nx1 : Hp → Prop, (∀ H', Nx1 H' → ∃ k', k' < k ∧ W1 (j + 1) k' H') ∧ ∀ x H', J1.yld j H x H' → g1 x (wipe σ2 vs1) H' fun σ3 H5 => wipe σ3 vs1 = wipe σ2 vs1 ∧ tt1 σ3 H5 fun b H6 =>
        if b = true then te σ3 H6 fun y H7 => ∃ acc, H7 D = some (.lst acc) ∧ acc.length < sizeLine ∧ Nx1 (upd H7 D (.lst (acc ++ [y]))) else Nx1 H6) := by
  refine ⟨fun i m H => m = n - i ∧ i ≤ n ∧ Pv i H, ⟨n, by simp, Nat.zero_le _, h0⟩, ?_⟩
  rintro i m H ⟨rfl, hi, p⟩
  by_cases hlt : i < n
  · exact .inr ⟨hgo i H hlt p, Pv (i + 1), fun H' p' => ⟨n - (i + 1), by omega, rfl, hlt, p'⟩, fun x H' y => hs i x H H' hlt p y⟩
  · have e : i = n := by omega
    subst e
    exact .inl ⟨hstop H p, hd H p⟩
end L2X
namespace Dt
open PySem PySem.Spec PyProof.Rows L2 L2X
open SX (S)
/-! ### dots -/
theorem smallT {n : Nat} (h : n < 100000) : n < sizeLine := Nat.lt_of_lt_of_le h (by decide)
def rowDots (r : Nat) (l : List Nat) : List (Nat × Nat) := (l.zipIdx.filter fun p => decide (p.1 = 35)).map fun p => (r, p.2)
def dotsP (rs : List (List Nat)) : List (Nat × Nat) := (rs.zipIdx.map fun p => rowDots p.2 p.1).flatten
theorem map_at {α β : Type} {f : α → β} {l : List α} {i : Nat} {y : β} (h : (l.map f)[i]? = some y) : ∃ x, l[i]? = some x ∧ y = f x := by
  rw [List.getElem?_map] at h
  cases e : l[i]? with
  | none =>
    rw [e] at h
    cases h
  | some z =>
    rw [e] at h
    exact ⟨z, rfl, (Option.some.inj h).symm⟩
theorem dotsP_snoc {rs : List (List Nat)} {i : Nat} {l : List Nat} (h : rs[i]? = some l) : dotsP (rs.take (i + 1)) = dotsP (rs.take i) ++ rowDots i l := by
  have hi : i < rs.length := (List.getElem?_eq_some_iff.mp h).1
  unfold dotsP
  rw [take_snoc h, List.zipIdx_append, List.map_append, List.flatten_append]
  have : (rs.take i).length = i := by
    rw [List.length_take]
    omega
  simp [this]
theorem rowDots_snoc {r : Nat} {l : List Nat} {j c : Nat} (h : l[j]? = some c) : rowDots r (l.take (j + 1)) = rowDots r (l.take j) ++ if c = 35 then [(r, j)] else [] := by
  have hj : j < l.length := (List.getElem?_eq_some_iff.mp h).1
  unfold rowDots
  rw [take_snoc h, List.zipIdx_append, List.filter_append, List.map_append]
  have : (l.take j).length = j := by
    rw [List.length_take]
    omega
  by_cases e : c = 35
  · simp [this, e]
  · simp [this, e]
theorem plc_one {K : PySem.W.Frag} {H : Hp} {xs : List V} {ps : List (Nat × Nat)} {D t : Addr} {r c : Nat} (h : Plc K H xs ps) (hD : H D = some (.lst xs)) (ht : H t = none) :
    Plc K (upd (upd H t (.tup [.int r, .int c])) D (.lst (xs ++ [.ref t]))) (xs ++ [.ref t]) (ps ++ [(r, c)]) := by
  have s := same_upd (o := .tup [V.int r, V.int c]) ht
  have one : Plc K (upd H t (.tup [V.int r, V.int c])) [V.ref t] [(r, c)] := ⟨rfl, fun i x pp hx hpp => by
    cases i with
    | zero =>
      cases hx
      cases hpp
      exact ⟨t, rfl, SqT.of upd_same⟩
    | succ i => exact nomatch hx⟩
  exact plc_upd ((h.same s).app one) (s _ _ hD)
abbrev sDots : Stmt := topS 28
theorem scDots : FnScope ["picture", "at", "row", "column", "sign"] ["picture"] (defScope sDots) := ⟨rfl, rfl, rfl, by decide +kernel, rfl, by decide +kernel, by decide +kernel⟩
def spDots (K : PySem.W.Frag) : Sp := fun vs H Q _ => ∃ (a : Addr) (high wide : Nat) (rs : List (List Nat)), vs = [.ref a] ∧ H a = some (.tup (rs.map rv)) ∧ PicR high wide rs ∧
  ∀ D xs H', Same H H' → H D = none → H' D = some (.lst xs) → Plc K H' xs (dotsP rs) → xs.length ≤ 7200 → Q (.ref D) H'
section
variable {P : Program} {w : World} {K : PySem.W.Frag} {mg : Str → Option Value} {base : Heap} {C CP : Addr}
theorem ok_dots {f : Addr} {fd : FuncData} {k : Nat} (F : Fun K "dots" "dots" sDots f fd) (en : mg "enumerate" = none) (G : GW P w K mg base C (k + 1)) : FnOk P w K mg base (L2.CX P w) (k + 2) f fd ["picture"] (spDots K) := by
  obtain ⟨fW, fdW, GW, mW, kW, bW⟩ := G.ex
  refine F.okX scDots (fun vs H Q E h => ?_) (fun cdv A outer s H vs Q E hr h => ?_)
  · obtain ⟨a, _, _, _, rfl, _⟩ := h
    rfl
  · obtain ⟨a, high, wide, rs, rfl, ha, pr, q⟩ := h
    have nd := scDots.nd
    refine ⟨_, pss_cons (ps_expr (pe_callS GW hr (by rfl) mW kW bW (fun σ => passAt (takes_of rfl rfl rfl rfl) σ) (pa_cons (pv 0) pa_nil)))
      (pss_one (ps_ret (pe_lc2 (own := [("at", 1), ("row", 2), ("column", 3), ("sign", 4)]) (vs1 := [3, 4]) (g := gTup K 2 (gCons (gName 1) (gCons (gName 2) gNil))) (tt := tYes) (wi1 := iEnumG K (tCons (tVar 2) tNil)) (g1 := gTup K 2 (gCons (gName 3) (gCons (gName 4) gNil))) rfl nd
        (pi_enumG (by rfl) en (pa_cons (pv 0) pa_nil)) (blkOk_by (N := ["picture", "at", "row", "column", "sign"]) (sc := defScope sDots) (by decide +kernel)) (by decide)
        (fun _ _ _ _ _ => pg_tup rfl (pgs_cons (pg_name (i := 1) nd rfl (Or.inl rfl)) (pgs_cons (pg_name (i := 2) nd rfl (Or.inl rfl)) pgs_nil))) (fun _ _ _ _ _ => pts_nil)
        (fun _ _ _ _ _ => pi_enumG (by rfl) en (pa_cons (pv 2) pa_nil))
        (fun _ _ _ _ _ => pg_tup rfl (pgs_cons (pg_name (i := 3) nd rfl (Or.inl rfl)) (pgs_cons (pg_name (i := 4) nd rfl (Or.inl rfl)) pgs_nil)))
        (fun _ _ _ _ _ => pts_one (pt_cmpR op_eq (pv 4) pe_str (nomark _))) (fun _ _ _ _ _ => pe_tup (pa_cons (pv 1) (pa_cons (pv 3) pa_nil)))))), ?_⟩
    refine ⟨.ref a, rfl, .ref a, true, rfl, askPic pr ha, fun _ H1 s1 => ?_, fun e => nomatch e⟩
    have ha1 := s1 _ _ ha
    have w1 := pr.w1
    have h1' := pr.h1
    have hlen := pr.len
    refine ⟨.ref a, rfl, .tup a, rs.map rv, rfl, SqT.of ha1, fun D hD => lc2_by rs.length (fun i H2 => Same H1 H2 ∧ ∃ xs, H2 D = some (.lst xs) ∧ Plc K H2 xs (dotsP (rs.take i)) ∧ xs.length ≤ i * 120) ?_ ?_ ?_ ?_ ?_⟩
    · exact ⟨same_upd hD, [], upd_same, ⟨rfl, fun i x p h => nomatch h⟩, Nat.zero_le _⟩
    · rintro H2 ⟨sm, _⟩
      exact ⟨_, SqT.of (sm _ _ ha1), List.length_map _⟩
    · rintro i H2 hi ⟨sm, _⟩
      exact ⟨_, _, SqT.of (sm _ _ ha1), List.getElem?_eq_getElem (by rw [List.length_map]; exact hi)⟩
    · rintro i x H2 H3 hi ⟨sm, xs, hx, pl, lx⟩ ⟨T, y, rfl, nT, rfl, hy⟩
      obtain ⟨l, hl, rfl⟩ := map_at (hy _ (SqT.of (sm _ _ ha1)))
      have l1 := (pr.row l (List.mem_of_getElem? hl)).len
      have sT := same_upd (o := .tup [V.int (i : Nat), rv l]) nT
      refine ⟨T, _, rfl, SqT.of upd_same, rfl, _, _, rfl, _, _, rfl, rfl, rfl, ?_⟩
      refine ⟨rv l, rfl, .txt (S l), chars (S l), rfl, rfl, lc2_in wide (fun j H4 => Same H1 H4 ∧ ∃ xs, H4 D = some (.lst xs) ∧ Plc K H4 xs (dotsP (rs.take i) ++ rowDots i (l.take j)) ∧ xs.length ≤ i * 120 + j) ?_ ?_ ?_ ?_ ?_⟩
      · exact ⟨sm.trans sT, xs, sT _ _ hx, by rw [List.take_zero]; show Plc K _ xs (dotsP (rs.take i) ++ []); rw [List.append_nil]; exact pl.same sT, lx⟩
      · rintro H4 _
        exact ⟨_, rfl, by rw [chars_S, List.length_map, l1]⟩
      · rintro j H4 hj _
        exact ⟨_, _, rfl, List.getElem?_eq_getElem (by rw [chars_S, List.length_map, l1]; exact hj)⟩
      · rintro j x H4 H5 hj ⟨sm4, ys, hys, pl4, ly⟩ ⟨T2, z, rfl, nT2, rfl, hz⟩
        have hz' := hz _ rfl
        rw [chars_S] at hz'
        obtain ⟨c, hc, rfl⟩ := map_at hz'
        have sT2 := same_upd (o := .tup [V.int (j : Nat), V.str ⟨#[c]⟩]) nT2
        refine ⟨T2, _, rfl, SqT.of upd_same, rfl, _, _, rfl, _, _, rfl, rfl, rfl, .str ⟨#[c]⟩, rfl, rfl, _, rfl, ?_⟩
        have e1 : decide (V.str ⟨#[c]⟩ = V.str "#") = decide (c = 35) := by
          rw [s_hash]
          exact ch_dec c 35
        rw [e1, rowDots_snoc hc]
        have hys5 := sT2 _ _ hys
        have nD : D ≠ T2 := fun e => by
          rw [e, nT2] at hys
          cases hys
        by_cases ec : c = 35
        · rw [decide_eq_true ec, if_pos ec]
          refine iteT ⟨.int i, rfl, .int j, rfl, by show 2 ≤ sizeLine; decide, fun t ht => ⟨ys, ?_, smallT (by omega), ?_, ys ++ [.ref t], upd_same, ?_, ?_⟩⟩
          · rw [upd_ne (ne_of_none hys5 ht)]
            exact hys5
          · exact same_over ((sm4.trans sT2).trans (same_upd ht)) hD
          · rw [← List.append_assoc]
            exact plc_one (pl4.same sT2) hys5 ht
          · rw [List.length_append, List.length_singleton]
            omega
        · rw [decide_eq_false ec, if_neg ec, List.append_nil]
          exact iteF ⟨sm4.trans sT2, ys, hys5, pl4.same sT2, by omega⟩
      · rintro H4 ⟨sm4, ys, hys, pl4, ly⟩
        have e : l.take wide = l := List.take_of_length_le (by omega)
        rw [e, ← dotsP_snoc hl] at pl4
        exact ⟨sm4, ys, hys, pl4, by omega⟩
    · rintro H2 ⟨sm, xs, hx, pl, lx⟩
      rw [List.take_length] at pl
      exact q D xs H2 (s1.trans sm) (s1.free hD) hx pl (by omega)
end
end Dt
namespace Dt
open PySem PySem.Spec PyProof.Rows L2 L2X
open SX (S)
/-! ### what a def promises, in one -/
/-- a def of the text as it stands behind the top -/
structure Df (K : PySem.W.Frag) (mg : Str → Option Value) (nm : Str) (st : Stmt) (ps : List Str) : Prop where
  ex : ∃ f fd, Fun K nm nm st f fd ∧ mg nm = some (.ref f) ∧ Binds K fd ps []
/-- .. with its promise -/
structure Pm (P : Program) (w : World) (K : PySem.W.Frag) (mg : Str → Option Value) (base : Heap) (CX : CXT) (k : Nat) (nm : Str) (ps : List Str) (sp : Sp) : Prop where
  ex : ∃ f fd, FnOk P w K mg base CX k f fd ps sp ∧ mg nm = some (.ref f) ∧ PySem.W.keepIn K (.ref f) = true ∧ Binds K fd ps []
theorem Pm.of {P : Program} {w : World} {K : PySem.W.Frag} {mg : Str → Option Value} {base : Heap} {CX : CXT} {k : Nat} {nm : Str} {st : Stmt} {ps : List Str} {sp : Sp} (d : Df K mg nm st ps) (h : ∀ f fd, Fun K nm nm st f fd → FnOk P w K mg base CX k f fd ps sp) : Pm P w K mg base CX k nm ps sp := by
  obtain ⟨f, fd, F, m, b⟩ := d.ex
  exact ⟨f, fd, h f fd F, m, F.kp, b⟩
/-! ### parts -/
def strB (x y : V) (n : Int) : Bool := match y with
  | .int m => decide (1 ≤ m) && betw x 0 (n - m)
  | _ => false
theorem strB_no {x y : V} {n : Int} (h : isInt y = false) : strB x y n = false := by
  cases y with
  | int i => cases h
  | _ => rfl
theorem strB_true {x y : V} {n : Nat} (h : strB x y (n : Int) = true) : ∃ t m : Nat, x = .int t ∧ y = .int m ∧ 1 ≤ m ∧ t + m ≤ n := by
  cases y with
  | int m =>
    unfold strB at h
    rw [Bool.and_eq_true, decide_eq_true_iff] at h
    obtain ⟨h1, h2⟩ := h
    cases x with
    | int t =>
      rw [betw_int, Bool.and_eq_true, decide_eq_true_iff, decide_eq_true_iff] at h2
      refine ⟨t.toNat, m.toNat, ?_, ?_, by omega, by omega⟩
      · rw [Int.toNat_of_nonneg h2.1]
      · rw [Int.toNat_of_nonneg (by omega)]
    | _ => cases h2
  | _ => cases h
def cutR (rs : List (List Nat)) (t l h w : Nat) : List (List Nat) := ((rs.drop t).take h).map fun r => (r.drop l).take w
theorem cutV_mid (xs : List V) (t h : Nat) (b : t + h ≤ xs.length) : cutV xs (some (t : Int)) (some ((t : Int) + (h : Int))) = (xs.drop t).take h := by
  have e : ((t : Int) + (h : Int)) = ((t + h : Nat) : Int) := by omega
  unfold cutV
  rw [e, HT.sIx_nat, HT.sIx_nat, Nat.min_eq_left b, Nat.min_eq_left (by omega), Nat.add_sub_cancel_left]
theorem cutS_mid (l : List Nat) (t h : Nat) (b : t + h ≤ l.length) : cutS (S l) (some (t : Int)) (some ((t : Int) + (h : Int))) = S ((l.drop t).take h) := by
  have e : ((t : Int) + (h : Int)) = ((t + h : Nat) : Int) := by omega
  unfold cutS
  rw [e, SX.S_len, HT.sIx_nat, HT.sIx_nat, Nat.min_eq_left b, Nat.min_eq_left (by omega), Nat.add_sub_cancel_left]
section
variable {P : Program} {w : World} {K : PySem.W.Frag} {mg : Str → Option Value} {base : Heap} {C CP : Addr}
end
end Dt

namespace Dt
open PySem PySem.Spec PyProof.Rows L2 L2X
open SX (S)
/-! ### dots turned over -/
def flipC (c : Nat) : Nat := if c = 35 then 46 else 35
def flipAt (ls : List (List Nat)) (r c : Nat) : List (List Nat) := ls.set r ((ls.getD r []).set c (flipC ((ls.getD r []).getD c 0)))
def flipAll (ls : List (List Nat)) (ps : List (Nat × Nat)) : List (List Nat) := ps.foldl (fun a p => flipAt a p.1 p.2) ls
theorem flip_ok {c : Nat} : flipC c = 35 ∨ flipC c = 46 := by
  unfold flipC
  split
  · exact .inr rfl
  · exact .inl rfl
theorem flipAt_eq {ls : List (List Nat)} {r c x : Nat} {l : List Nat} (h : ls[r]? = some l) (hx : l[c]? = some x) : flipAt ls r c = ls.set r (l.set c (flipC x)) := by
  unfold flipAt
  rw [set_getD h, getD_at hx]
theorem RowsR.flip {high wide r c : Nat} {rs : List (List Nat)} (h : RowsR high wide rs) (hr : r < high) (hc : c < wide) : RowsR high wide (flipAt rs r c) := by
  have hr' : r < rs.length := by rw [h.len]; exact hr
  have e1 : rs[r]? = some rs[r] := List.getElem?_eq_getElem hr'
  have rw1 := h.row rs[r] (List.getElem_mem hr')
  have hc' : c < rs[r].length := by rw [rw1.len]; exact hc
  have e2 : rs[r][c]? = some rs[r][c] := List.getElem?_eq_getElem hc'
  rw [flipAt_eq e1 e2]
  refine ⟨by rw [List.length_set, h.len], fun l hl => ?_⟩
  rcases List.mem_or_eq_of_mem_set hl with q | q
  · exact h.row l q
  · rw [q]
    refine ⟨by rw [List.length_set, rw1.len], fun x hx => ?_⟩
    rcases List.mem_or_eq_of_mem_set hx with q2 | q2
    · exact rw1.sg x q2
    · rw [q2]
      exact flip_ok
theorem RowsR.flips {high wide : Nat} : ∀ {ps : List (Nat × Nat)} {rs : List (List Nat)}, RowsR high wide rs → (∀ p ∈ ps, p.1 < high ∧ p.2 < wide) → RowsR high wide (flipAll rs ps)
  | [], _, h, _ => h
  | p :: ps, rs, h, hp => by
    have h1 := hp p List.mem_cons_self
    exact RowsR.flips (ps := ps) (h.flip h1.1 h1.2) fun q hq => hp q (List.mem_cons_of_mem _ hq)
structure Grid (H : Hp) (g : Addr) (as : List Addr) (ls : List (List Nat)) : Prop where
  top : H g = some (.lst (as.map V.ref))
  len : as.length = ls.length
  row : ∀ (i : Nat) (a : Addr) (l : List Nat), as[i]? = some a → ls[i]? = some l → H a = some (.lst (l.map ch))
  nd : as.Nodup
  off : g ∉ as
theorem Grid.same {H H' : Hp} {g : Addr} {as : List Addr} {ls : List (List Nat)} (G : Grid H g as ls) (s : Same H H') : Grid H' g as ls := ⟨s _ _ G.top, G.len, fun i a l h1 h2 => s _ _ (G.row i a l h1 h2), G.nd, G.off⟩
theorem Grid.put {H : Hp} {g a : Addr} {as : List Addr} {ls : List (List Nat)} {r c x : Nat} {l : List Nat} (G : Grid H g as ls) (ha : as[r]? = some a) (hl : ls[r]? = some l) : Grid (upd H a (.lst ((l.map ch).set c (ch x)))) g as (ls.set r (l.set c x)) := by
  have na : g ≠ a := fun e => G.off (e ▸ List.mem_of_getElem? ha)
  refine ⟨by rw [upd_ne na]; exact G.top, by rw [List.length_set, G.len], fun i b m hb hm => ?_, G.nd, G.off⟩
  by_cases e : i = r
  · subst e
    rw [ha] at hb
    cases hb
    have hlt := (List.getElem?_eq_some_iff.mp hl).1
    rw [List.getElem?_set_self hlt] at hm
    cases hm
    rw [upd_same, List.map_set]
  · rw [List.getElem?_set_ne (Ne.symm e)] at hm
    have nb : b ≠ a := fun q => by
      subst q
      obtain ⟨h1, e1⟩ := List.getElem?_eq_some_iff.mp hb
      obtain ⟨h2, e2⟩ := List.getElem?_eq_some_iff.mp ha
      exact e ((List.getElem_inj G.nd).mp (e1.trans e2.symm))
    rw [upd_ne nb]
    exact G.row i b m hb hm
/-- one more row -/
theorem Grid.add {H : Hp} {g a : Addr} {as : List Addr} {ls : List (List Nat)} {l : List Nat} (G : Grid H g as ls) (hn : H a = none) : Grid (upd (upd H a (.lst (l.map ch))) g (.lst (as.map V.ref ++ [V.ref a]))) g (as ++ [a]) (ls ++ [l]) := by
  have na : g ≠ a := ne_of_none G.top hn
  have old : ∀ b ∈ as, H b ≠ none := fun b hb e => by
    obtain ⟨i, hi⟩ := List.mem_iff_getElem?.mp hb
    have hlt : i < ls.length := by
      rw [← G.len]
      exact (List.getElem?_eq_some_iff.mp hi).1
    have := G.row i b _ hi (List.getElem?_eq_getElem hlt)
    rw [e] at this
    cases this
  have am : a ∉ as := fun h => old a h hn
  refine ⟨?_, by rw [List.length_append, List.length_append, G.len]; rfl, fun i b m hb hm => ?_, ?_, ?_⟩
  · rw [upd_same, List.map_append]
    rfl
  · have nbg : b ≠ g := fun q => by
      subst q
      rcases List.mem_append.mp (List.mem_of_getElem? hb) with z | z
      · exact G.off z
      · exact na (List.mem_singleton.mp z)
    rw [upd_ne nbg]
    by_cases hi : i < as.length
    · rw [List.getElem?_append_left hi] at hb
      rw [List.getElem?_append_left (by rw [← G.len]; exact hi)] at hm
      have nba : b ≠ a := fun q => am (q ▸ List.mem_of_getElem? hb)
      rw [upd_ne nba]
      exact G.row i b m hb hm
    · have hi2 : i = as.length := by
        have := (List.getElem?_eq_some_iff.mp hb).1
        rw [List.length_append, List.length_singleton] at this
        omega
      rw [hi2, List.getElem?_concat_length] at hb
      rw [hi2, G.len, List.getElem?_concat_length] at hm
      cases hb
      cases hm
      rw [upd_same]
  · rw [List.nodup_append]
    exact ⟨G.nd, (by simp), fun x hx y hy e => am (by rw [← List.mem_singleton.mp hy, ← e]; exact hx)⟩
  · intro h
    rcases List.mem_append.mp h with z | z
    · exact G.off z
    · exact na (List.mem_singleton.mp z)
/-- .. and its rows are new -/
structure GridN (H0 H : Hp) (g : Addr) (as : List Addr) (ls : List (List Nat)) : Prop where
  gr : Grid H g as ls
  sm : Same H0 H
  ng : H0 g = none
  nr : ∀ a ∈ as, H0 a = none
theorem GridN.put {H0 H : Hp} {g a : Addr} {as : List Addr} {ls : List (List Nat)} {r c x : Nat} {l : List Nat} (G : GridN H0 H g as ls) (ha : as[r]? = some a) (hl : ls[r]? = some l) : GridN H0 (upd H a (.lst ((l.map ch).set c (ch x)))) g as (ls.set r (l.set c x)) :=
  ⟨G.gr.put ha hl, same_over G.sm (G.nr a (List.mem_of_getElem? ha)), G.ng, G.nr⟩
theorem GridN.add {H0 H : Hp} {g a : Addr} {as : List Addr} {ls : List (List Nat)} {l : List Nat} (G : GridN H0 H g as ls) (hn : H a = none) : GridN H0 (upd (upd H a (.lst (l.map ch))) g (.lst (as.map V.ref ++ [V.ref a]))) g (as ++ [a]) (ls ++ [l]) := by
  have na := G.sm.free hn
  refine ⟨G.gr.add hn, same_over (same_over G.sm na) G.ng, G.ng, fun b hb => ?_⟩
  rcases List.mem_append.mp hb with z | z
  · exact G.nr b z
  · rw [List.mem_singleton.mp z]
    exact na
theorem GridN.same {H0 H H' : Hp} {g : Addr} {as : List Addr} {ls : List (List Nat)} (G : GridN H0 H g as ls) (s : Same H H') : GridN H0 H' g as ls := ⟨G.gr.same s, G.sm.trans s, G.ng, G.nr⟩
theorem GridN.same' {H0 H : Hp} {g E : Addr} {as : List Addr} {ls : List (List Nat)} {xs ys : List V} (G : GridN H0 H g as ls) (_ : H E = some (.lst xs)) (n1 : g ≠ E) (n2 : ∀ a ∈ as, a ≠ E) (n3 : H0 E = none) : GridN H0 (upd H E (.lst ys)) g as ls :=
  ⟨⟨by rw [upd_ne n1]; exact G.gr.top, G.gr.len, fun i a l h1 h2 => by rw [upd_ne (n2 a (List.mem_of_getElem? h1))]; exact G.gr.row i a l h1 h2, G.gr.nd, G.gr.off⟩, same_over G.sm n3, G.ng, G.nr⟩
end Dt
namespace L2X
open PySem PySem.Spec PyProof.Rows L2
/-- i ** 3 of an int of any decent size -/
def CPow3 (i j : Int) : Prop := j = 3 ∧ i.natAbs < 2 ^ 1000
theorem op_pow3 {X : Cx} : OpR X (binaryOp .Pow) (rI CPow3 fun i j => .int (i ^ j.toNat)) := opI fun i j _ _ _ _ _ hc q => by
  obtain ⟨rfl, h⟩ := hc
  refine pow_int (by decide) ?_ q
  have z := PyProof.Rows.intBits_le h
  omega
end L2X
namespace Dt
open PySem PySem.Spec PyProof.Rows L2 L2X
open SX (S)
/-! ### the drawing list -/
def Du (H : Hp) (d : Addr) (n : Nat) : Prop := ∃ a b t : Int, H d = some (.lst [.int a, .int b, .int t]) ∧ 0 ≤ t ∧ t ≤ (n : Int)
/-- all but d stays -/
def Do (d : Addr) (H H' : Hp) : Prop := ∀ b o, H b = some o → b ≠ d → H' b = some o
theorem Do.refl {d : Addr} {H : Hp} : Do d H H := fun _ _ e _ => e
theorem Do.trans {d : Addr} {H H1 H2 : Hp} (a : Do d H H1) (b : Do d H1 H2) : Do d H H2 := fun x o e h1 => b x o (a x o e h1) h1
theorem Do.same {d : Addr} {H H' : Hp} (a : Same H H') : Do d H H' := fun b o e _ => a b o e
theorem Du.same {H H' : Hp} {d : Addr} {n : Nat} (D : Du H d n) (s : Same H H') : Du H' d n := by
  obtain ⟨a, b, t, h, h0, h1⟩ := D
  exact ⟨a, b, t, s _ _ h, h0, h1⟩
theorem Du.le {H : Hp} {d : Addr} {n m : Nat} (D : Du H d n) (l : n ≤ m) : Du H d m := by
  obtain ⟨a, b, t, h, h0, h1⟩ := D
  exact ⟨a, b, t, h, h0, by omega⟩
theorem Du.new {H : Hp} {d p : Addr} {n : Nat} (D : Du H d n) (h : H p = none) : p ≠ d := by
  obtain ⟨a, b, t, e, _⟩ := D
  exact fun z => by (rw [z, e] at h; cases h)
theorem Du.upd {H : Hp} {d p : Addr} {n : Nat} {o : HO} (D : Du H d n) (h : p ≠ d) : Du (upd H p o) d n := by
  obtain ⟨a, b, t, e, h0⟩ := D
  exact ⟨a, b, t, by rw [upd_ne h.symm]; exact e, h0⟩
theorem Do.nn {d p : Addr} {n : Nat} {H H' : Hp} (a : Do d H H') (D : Du H' d n) (h : H' p = none) : H p = none := by
  cases e : H p with
  | none => rfl
  | some o =>
    rw [a _ _ e (D.new h)] at h
    cases h
/-- what was under no watch ahead may change -/
theorem Do.upd {d p : Addr} {H H' : Hp} {o : HO} (a : Do d H H') (h : H p = none) : Do d H (upd H' p o) := fun b u e n => by
  rw [upd_ne (ne_of_none e h)]
  exact a _ _ e n
def fuel : Nat := 1000000000000
abbrev sNx : Stmt := topS 48
theorem scNx : FnScope ["draw", "below", "found"] ["draw", "below"] (defScope sNx) := ⟨rfl, rfl, rfl, by decide +kernel, rfl, by decide +kernel, by decide +kernel⟩
def spNx : Sp := fun vs H Q _ => ∃ (d : Addr) (b : Int) (n : Nat), vs = [.ref d, .int b] ∧ Du H d n ∧ n ≤ fuel ∧ 0 < b ∧ b < 1073741824 ∧ ∀ (m : Int) (H' : Hp), 0 ≤ m → m < b → Du H' d (n + 1) → Do d H H' → Q (.int m) H'
abbrev sPk : Stmt := topS 49
theorem scPk : FnScope ["draw", "some"] ["draw", "some"] (defScope sPk) := ⟨rfl, rfl, rfl, by decide +kernel, rfl, by decide +kernel, by decide +kernel⟩
/-- of a list, or of a text -/
def spPk (K : PySem.W.Frag) : Sp := fun vs H Q _ => ∃ (d : Addr) (x : V) (n : Nat), vs = [.ref d, x] ∧ Du H d n ∧ n ≤ fuel ∧
  ((∃ (l : Addr) (xs : List V), x = .ref l ∧ l ≠ d ∧ H l = some (.lst xs) ∧ 0 < xs.length ∧ xs.length ≤ 1000 ∧ ∀ (j : Nat) (y : V) (H' : Hp), xs[j]? = some y → Du H' d (n + 1) → Do d H H' → Q y H') ∨
   (∃ (z : Str), x = .str z ∧ 0 < z.length ∧ z.length ≤ 1000 ∧ ∀ (c : Nat) (H' : Hp), c ∈ z.cps.toList → Du H' d (n + 1) → Do d H H' → Q (.str ⟨#[c]⟩) H'))
abbrev sBg : Stmt := topS 47
theorem scBg : FnScope ["cell", "k"] ["cell", "k"] (defScope sBg) := ⟨rfl, rfl, rfl, by decide +kernel, rfl, by decide +kernel, by decide +kernel⟩
def spBg : Sp := fun vs H Q _ => ∃ (c k : Int), vs = [.int c, .int k] ∧ 0 ≤ k ∧ k ≤ 1000 ∧ ∀ (d : Addr) (H' : Hp), H d = none → Same H H' → Du H' d 0 → Q (.ref d) H'
theorem small_bits {a b : Nat} {i : Int} (h0 : 0 ≤ i) (h1 : i < (b : Int)) (hb : b ≤ 2 ^ a) : i.natAbs < 2 ^ a := by omega
section
variable {P : Program} {w : World} {K : PySem.W.Frag} {mg : Str → Option Value} {base : Heap}
theorem ok_nx {f : Addr} {fd : FuncData} {k : Nat} (F : Fun K "_law_next" "_law_next" sNx f fd) : FnOk P w K mg base CX0 (k + 1) f fd ["draw", "below"] spNx := by
  refine F.ok scNx (fun vs H Q E h => ?_) (fun cdv A outer s H vs Q E hr h => ?_)
  · obtain ⟨d, b, n, rfl, _⟩ := h
    rfl
  · obtain ⟨d, b, n, rfl, D, hn, hb0, hb1, q⟩ := h
    have nd := scNx.nd
    refine ⟨_, pss_cons (ps_if (pt_cmpR op_gt (pe_ix ix_list (pv 0) pe_int (fun _ _ => rfl)) pe_int (nomark _))
        (pss_cons (ps_set (i := 2) nd rfl (.inl rfl) (pe_op op_mod (pe_ix ix_list (pv 0) pe_int (fun _ _ => rfl)) (pv 1)))
        (pss_cons (ps_asg (pe_op op_fdiv (pe_ix ix_list (pv 0) pe_int (fun _ _ => rfl)) (pv 1)) (pg_sub (pv 0) pe_int set_list))
        (pss_one (ps_ret (pv 2))))) pss_nil)
      (pss_cons (ps_asg (pe_op op_add (pe_ix ix_list (pv 0) pe_int (fun _ _ => rfl)) pe_int) (pg_sub (pv 0) pe_int set_list))
      (pss_cons (ps_set (i := 2) nd rfl (.inl rfl) (pe_op op_add (pe_op op_mod (pe_ix ix_list (pv 0) pe_int (fun _ _ => rfl)) pe_int) (pe_op op_mul pe_int (pe_ix ix_list (pv 0) pe_int (fun _ _ => rfl)))))
      (pss_cons (ps_set (i := 2) nd rfl (.inl rfl) (pe_op op_mulX (pv 2) (pe_op op_add (pe_op op_add (pe_op op_mod (pe_ix ix_list (pv 0) pe_int (fun _ _ => rfl)) pe_int) (pe_op op_mulX (pe_op op_mul pe_int (pe_ix ix_list (pv 0) pe_int (fun _ _ => rfl))) (pe_ix ix_list (pv 0) pe_int (fun _ _ => rfl)))) pe_int)))
      (pss_one (ps_ret (pe_op op_mod (pe_op op_fdiv (pe_op op_mod (pe_op op_pow3 (pv 2) pe_int) pe_int) pe_int) (pv 1))))))), ?_⟩
    obtain ⟨a, e, t, hd, t0, t1⟩ := id D
    refine ⟨.ref d, rfl, d, _, 0, .int a, rfl, rfl, SqL.of hd, rfl, a, 0, rfl, rfl, _, rfl, ite2 (fun e1 => ?_) (fun e1 => ?_)⟩
    · refine ⟨.ref d, rfl, d, _, 0, .int a, rfl, rfl, SqL.of hd, rfl, .int b, rfl, a, b, rfl, rfl, hb0, ?_⟩
      refine ⟨.ref d, rfl, d, _, 0, .int a, rfl, rfl, SqL.of hd, rfl, .int b, rfl, a, b, rfl, rfl, ⟨hb0, hb1⟩, ?_⟩
      refine ⟨.ref d, rfl, d, _, 0, 0, rfl, rfl, hd, rfl, .int (a % b), rfl, q _ _ (Int.emod_nonneg _ (by omega)) (Int.emod_lt_of_pos _ hb0) ⟨a / b, e, t, upd_same, t0, by omega⟩ ?_⟩
      intro b' o e' n'
      rw [upd_ne n']
      exact e'
    · refine ⟨.ref d, rfl, d, _, 2, .int t, rfl, rfl, SqL.of hd, rfl, t, 1, rfl, rfl, ?_⟩
      refine ⟨.ref d, rfl, d, _, 2, 2, rfl, rfl, hd, rfl, ?_⟩
      have hd2 : (upd H d (.lst [V.int a, V.int e, V.int (t + 1)])) d = some (.lst [V.int a, V.int e, V.int (t + 1)]) := upd_same
      have fu : n ≤ 1000000000000 := hn
      have m0 := Int.emod_nonneg e (show (2147483629 : Int) ≠ 0 by decide)
      have m1 := Int.emod_lt_of_pos e (show (0 : Int) < 2147483629 by decide)
      have l0 := Int.emod_nonneg e (show (2147483587 : Int) ≠ 0 by decide)
      have l1 := Int.emod_lt_of_pos e (show (0 : Int) < 2147483587 by decide)
      refine ⟨.ref d, rfl, d, _, 1, .int e, rfl, rfl, SqL.of hd2, rfl, e, 2147483629, rfl, rfl, (by show (0 : Int) < 2147483629; decide), ?_⟩
      refine ⟨.ref d, rfl, d, _, 2, .int (t + 1), rfl, rfl, SqL.of hd2, rfl, 104729, t + 1, rfl, rfl, .inl ⟨by decide, by decide⟩, _, _, rfl, rfl, ?_⟩
      have f0 : 0 ≤ e % 2147483629 + 104729 * (t + 1) := by omega
      have f1 : e % 2147483629 + 104729 * (t + 1) < 1000000000000000000000 := by omega
      obtain ⟨F, hF⟩ : ∃ F, F = e % 2147483629 + 104729 * (t + 1) := ⟨_, rfl⟩
      rw [← hF] at f0 f1
      refine ⟨.int F, congrArg (fun z => some (some (V.int z))) hF.symm, .ref d, rfl, d, _, 1, .int e, rfl, rfl, SqL.of hd2, rfl, e, 2147483587, rfl, rfl, (by show (0 : Int) < 2147483587; decide), ?_⟩
      refine ⟨.ref d, rfl, d, _, 2, .int (t + 1), rfl, rfl, SqL.of hd2, rfl, 7919, t + 1, rfl, rfl, .inl ⟨by decide, by decide⟩, ?_⟩
      refine ⟨.ref d, rfl, d, _, 2, .int (t + 1), rfl, rfl, SqL.of hd2, rfl, _, _, rfl, rfl, mulx_ok (a := 64) (b := 64) (by omega) (by omega) (by decide), _, _, rfl, rfl, _, _, rfl, rfl, _, _, rfl, rfl, ?_⟩
      have g0 : 0 ≤ 7919 * (t + 1) * (t + 1) := Int.mul_nonneg (by omega) (by omega)
      have g1 : 7919 * (t + 1) * (t + 1) ≤ (7919 * 1000000000001) * 1000000000001 := Int.mul_le_mul (by omega) (by omega) (by omega) (by omega)
      generalize 7919 * (t + 1) * (t + 1) = G at g0 g1 ⊢
      refine ⟨mulx_ok (a := 100) (b := 100) (by omega) (by omega) (by decide), ?_⟩
      have h0 : 0 ≤ F * (e % 2147483587 + G + 11) := Int.mul_nonneg f0 (by omega)
      have h1 : F * (e % 2147483587 + G + 11) ≤ 1000000000000000000000 * 10000000000000000000000000000000 := Int.mul_le_mul (by omega) (by omega) (by omega) (by omega)
      obtain ⟨M, hM⟩ : ∃ M, M = F * (e % 2147483587 + G + 11) := ⟨_, rfl⟩
      rw [← hM] at h0 h1
      have big : M.natAbs < 2 ^ 1000 := by
        have : (1000000000000000000000 * 10000000000000000000000000000000 : Nat) < 2 ^ 1000 := by decide +kernel
        omega
      have mm0 := Int.emod_nonneg (M ^ 3) (show (2147483647 : Int) ≠ 0 by decide)
      have mm1 := Int.emod_lt_of_pos (M ^ 3) (show (0 : Int) < 2147483647 by decide)
      refine ⟨.int M, congrArg (fun z => some (some (V.int z))) hM.symm, M, 3, rfl, rfl, ⟨rfl, big⟩, _, _, rfl, rfl, (by show (0 : Int) < 2147483647; decide), _, _, rfl, rfl, ⟨by decide, by decide⟩, .int b, rfl, _, _, rfl, rfl, hb0, q _ _ (Int.emod_nonneg _ (by omega)) (Int.emod_lt_of_pos _ hb0) ⟨a, e, t + 1, hd2, by omega, by omega⟩ ?_⟩
      intro b' o e' n'
      rw [upd_ne n']
      exact e'
theorem ok_bg {f : Addr} {fd : FuncData} {k : Nat} (F : Fun K "_law_begun" "_law_begun" sBg f fd) (mx : mg "max" = none) : FnOk P w K mg base CX0 (k + 1) f fd ["cell", "k"] spBg := by
  refine F.ok scBg (fun vs H Q E h => ?_) (fun cdv A outer s H vs Q E hr h => ?_)
  · obtain ⟨c, k, rfl, _⟩ := h
    rfl
  · obtain ⟨c, k, rfl, k0, k1, q⟩ := h
    refine ⟨_, pss_one (ps_ret (pe_lst (pa_cons (pe_callB (call_max2 rfl) (by rfl) mx (by decide +kernel) (pa_cons pe_int (pa_cons (pe_op op_sub (pv 0) (pe_op op_pow pe_int pe_int)) pa_nil))) (pa_cons (pe_op op_add (pv 0) (pe_op op_mul pe_int (pv 1))) (pa_cons pe_int pa_nil))))), ?_⟩
    refine ⟨.int c, rfl, 10, 18, rfl, rfl, ⟨by decide, by decide, by decide⟩, c, _, rfl, rfl, 0, _, rfl, .int c, rfl, .int k, rfl, 977, k, rfl, rfl, .inl ⟨by decide, by decide⟩, c, _, rfl, rfl, by show 3 ≤ sizeLine; decide, fun l hl => ?_⟩
    exact q l _ hl (same_upd hl) ⟨_, _, 0, upd_same, Int.le_refl _, Int.le_refl _⟩
theorem ok_pk {f : Addr} {fd : FuncData} {k : Nat} (F : Fun K "_law_pick" "_law_pick" sPk f fd) (T : Tx mg) (fN : Addr) (fdN : FuncData) (GN : FnOk P w K mg base CX0 (k + 1) fN fdN ["draw", "below"] spNx) (mN : mg "_law_next" = some (.ref fN)) (kN : PySem.W.keepIn K (.ref fN) = true) (bN : Binds K fdN ["draw", "below"] []) : FnOk P w K mg base CX0 (k + 2) f fd ["draw", "some"] (spPk K) := by
  refine F.ok scPk (fun vs H Q E h => ?_) (fun cdv A outer s H vs Q E hr h => ?_)
  · obtain ⟨d, x, n, rfl, _⟩ := h
    rfl
  · obtain ⟨d, x, n, rfl, D, hn, h⟩ := h
    have hu := hu_of hr
    rcases h with ⟨l, xs, rfl, nl, hl, x0, x1, q⟩ | ⟨z, rfl, z0, z1, q⟩
    · refine ⟨_, pss_one (ps_ret (pe_ix ix_list (pv 1) (pe_call GN hr (by rfl) mN kN bN .nil pass0 (pa_cons (pv 0) (pa_cons (pe_callB call_len_seq (by rfl) T.len PySem.boot_len (pa_cons (pv 1) pa_nil)) pa_nil))) (fun _ _ => rfl))), ?_⟩
      refine ⟨.ref l, rfl, .ref d, rfl, .ref l, rfl, l, xs, rfl, .inl (SqL.of hl), d, (xs.length : Int), n, rfl, D, hn, by omega, by omega, fun m H1 m0 m1 D1 dn1 => ?_⟩
      obtain ⟨j, rfl⟩ := Int.eq_ofNat_of_zero_le m0
      have hj : j < xs.length := by omega
      have hx : xs[j]? = some xs[j] := List.getElem?_eq_getElem hj
      exact ⟨l, xs, (j : Int), xs[j], rfl, rfl, SqL.of (dn1 _ _ hl nl), atI_nat hx, q j _ H1 hx D1 dn1⟩
    · refine ⟨_, pss_one (ps_ret (pe_ix ix_str (pv 1) (pe_call GN hr (by rfl) mN kN bN .nil pass0 (pa_cons (pv 0) (pa_cons (pe_callB call_len_str (by rfl) T.len PySem.boot_len (pa_cons (pv 1) pa_nil)) pa_nil))) (fun _ _ => rfl))), ?_⟩
      have zs : z.length ≤ sizeLine := Nat.le_of_lt (small1000 z1)
      refine ⟨.str z, rfl, .ref d, rfl, .str z, rfl, z, rfl, zs, d, (z.length : Int), n, rfl, D, hn, by omega, by omega, fun m H1 m0 m1 D1 dn1 => ?_⟩
      obtain ⟨j, rfl⟩ := Int.eq_ofNat_of_zero_le m0
      have hj : j < z.cps.toList.length := by
        have : z.cps.toList.length = z.length := by simp [Str.length]
        omega
      have hx : z.cps.toList[j]? = some z.cps.toList[j] := List.getElem?_eq_getElem hj
      exact ⟨z, (j : Int), _, rfl, rfl, zs, atI_nat hx, q _ H1 (List.getElem_mem hj) D1 dn1⟩
end
end Dt
namespace Dt
open PySem PySem.Spec PyProof.Rows L2 L2X
open SX (S)
theorem map_at2 {α : Type} {f : α → V} {l : List α} {i : Nat} {x : V} (h : (l.map f)[i]? = some x) : ∃ a, l[i]? = some a ∧ x = f a := by
  rw [List.getElem?_map] at h
  cases e : l[i]? with
  | none =>
    rw [e] at h
    cases h
  | some z =>
    rw [e] at h
    exact ⟨z, rfl, (Option.some.inj h).symm⟩
abbrev sPc : Stmt := topS 50
abbrev nPc : List Str := ["draw", "high", "wide", "dense", "rows", "row", "column"]
theorem scPc : FnScope nPc ["draw", "high", "wide", "dense"] (defScope sPc) := ⟨rfl, rfl, rfl, by decide +kernel, rfl, by decide +kernel, by decide +kernel⟩
def spPc : Sp := fun vs H Q _ => ∃ (d : Addr) (high wide n : Nat) (dense : Int), vs = [.ref d, .int high, .int wide, .int dense] ∧ Du H d n ∧ n + 20000 ≤ fuel ∧ 1 ≤ high ∧ high ≤ 60 ∧ 1 ≤ wide ∧ wide ≤ 120 ∧
  ∀ (p : Addr) (rs : List (List Nat)) (H' : Hp), PicR high wide rs → H p = none → H' p = some (.tup (rs.map rv)) → Du H' d (n + 20000) → Do d H H' → Q (.ref p) H'
abbrev sNr : Stmt := topS 51
abbrev nNr : List Str := ["draw", "picture", "rows", "turn", "at", "column", "row"]
theorem scNr : FnScope nNr ["draw", "picture"] (defScope sNr) := ⟨rfl, rfl, rfl, by decide +kernel, rfl, by decide +kernel, by decide +kernel⟩
def spNr : Sp := fun vs H Q _ => ∃ (d a : Addr) (high wide n : Nat) (rs : List (List Nat)), vs = [.ref d, .ref a] ∧ Du H d n ∧ n + 10 ≤ fuel ∧ H a = some (.tup (rs.map rv)) ∧ PicR high wide rs ∧
  ∀ (p : Addr) (rs' : List (List Nat)) (H' : Hp), PicR high wide rs' → H p = none → H' p = some (.tup (rs'.map rv)) → Du H' d (n + 10) → Do d H H' → Q (.ref p) H'
theorem Grid.dn {H H' : Hp} {d g : Addr} {as : List Addr} {ls : List (List Nat)} (G : Grid H g as ls) (s : Do d H H') (ng : g ≠ d) (na : ∀ a ∈ as, a ≠ d) : Grid H' g as ls :=
  ⟨s _ _ G.top ng, G.len, fun i a l h1 h2 => s _ _ (G.row i a l h1 h2) (na a (List.mem_of_getElem? h1)), G.nd, G.off⟩
/-- rows under work, new since H0, the drawing list at d -/
structure GridD (d : Addr) (H0 H : Hp) (g : Addr) (as : List Addr) (ls : List (List Nat)) : Prop where
  gr : Grid H g as ls
  sm : Do d H0 H
  ng : H0 g = none
  nr : ∀ a ∈ as, H0 a = none
  gd : g ≠ d
  ad : ∀ a ∈ as, a ≠ d
theorem GridD.dn {d : Addr} {H0 H H' : Hp} {g : Addr} {as : List Addr} {ls : List (List Nat)} (G : GridD d H0 H g as ls) (s : Do d H H') : GridD d H0 H' g as ls := ⟨G.gr.dn s G.gd G.ad, G.sm.trans s, G.ng, G.nr, G.gd, G.ad⟩
theorem GridD.put {d : Addr} {H0 H : Hp} {g a : Addr} {as : List Addr} {ls : List (List Nat)} {r c x : Nat} {l : List Nat} (G : GridD d H0 H g as ls) (ha : as[r]? = some a) (hl : ls[r]? = some l) : GridD d H0 (upd H a (.lst ((l.map ch).set c (ch x)))) g as (ls.set r (l.set c x)) :=
  ⟨G.gr.put ha hl, G.sm.upd (G.nr a (List.mem_of_getElem? ha)), G.ng, G.nr, G.gd, G.ad⟩
theorem GridD.same' {d : Addr} {H0 H : Hp} {g E : Addr} {as : List Addr} {ls : List (List Nat)} {ys : List V} (G : GridD d H0 H g as ls) (n1 : g ≠ E) (n2 : ∀ a ∈ as, a ≠ E) (n3 : H0 E = none) : GridD d H0 (upd H E (.lst ys)) g as ls :=
  ⟨⟨by rw [upd_ne n1]; exact G.gr.top, G.gr.len, fun i a l h1 h2 => by rw [upd_ne (n2 a (List.mem_of_getElem? h1))]; exact G.gr.row i a l h1 h2, G.gr.nd, G.gr.off⟩, G.sm.upd n3, G.ng, G.nr, G.gd, G.ad⟩
theorem Grid.none {H : Hp} {g E : Addr} {as : List Addr} {ls : List (List Nat)} (G : Grid H g as ls) (hE : H E = none) : g ≠ E ∧ ∀ a ∈ as, a ≠ E := by
  refine ⟨fun e => ?_, fun a ha e => ?_⟩
  · have n1 := G.top
    rw [e, hE] at n1
    cases n1
  · subst e
    obtain ⟨j, hj⟩ := List.mem_iff_getElem?.mp ha
    have hlt : j < ls.length := by
      rw [← G.len]
      exact (List.getElem?_eq_some_iff.mp hj).1
    have n1 := G.row j _ _ hj (List.getElem?_eq_getElem hlt)
    rw [hE] at n1
    cases n1
theorem RowsR.put {high wide r c x : Nat} {ls : List (List Nat)} {l : List Nat} (R : RowsR high wide ls) (hl : ls[r]? = some l) (hx : x = 35 ∨ x = 46) : RowsR high wide (ls.set r (l.set c x)) := by
  refine ⟨by rw [List.length_set, R.len], fun m hm => ?_⟩
  rcases List.mem_or_eq_of_mem_set hm with q | q
  · exact R.row m q
  · subst q
    have rl := R.row l (List.mem_of_getElem? hl)
    refine ⟨by rw [List.length_set, rl.len], fun y hy => ?_⟩
    rcases List.mem_or_eq_of_mem_set hy with q2 | q2
    · exact rl.sg y q2
    · rw [q2]
      exact hx
theorem dot_hash (b : Bool) : ∃ c : Nat, (c = 35 ∨ c = 46) ∧ atI (".#" : Str).cps.toList (if b = true then 1 else 0) = some c := by
  cases b with
  | true => exact ⟨35, .inl rfl, by decide +kernel⟩
  | false => exact ⟨46, .inr rfl, by decide +kernel⟩
section
variable {P : Program} {w : World} {K : PySem.W.Frag} {mg : Str → Option Value} {base : Heap}
theorem ok_pc {f : Addr} {fd : FuncData} {k : Nat} (F : Fun K "_law_picture" "_law_picture" sPc f fd) (T : Tx mg) (GN : Pm P w K mg base CX0 (k + 1) "_law_next" ["draw", "below"] spNx) : FnOk P w K mg base CX0 (k + 2) f fd ["draw", "high", "wide", "dense"] spPc := by
  obtain ⟨fN, fdN, GN, mN, kN, bN⟩ := GN.ex
  refine F.ok scPc (fun vs H Q E h => ?_) (fun cdv A outer s H vs Q E hr h => ?_)
  · obtain ⟨d, high, wide, n, dense, rfl, _⟩ := h
    rfl
  · obtain ⟨d, high, wide, n, dense, rfl, D, hn, h0, h1, w0, w1, q⟩ := h
    have nd := scPc.nd
    refine ⟨_, pss_cons (ps_set (i := 4) nd rfl (.inl rfl) (pe_lst pa_nil))
      (pss_cons (ps_for PassesOwn.never rfl (pi_range1 rfl T.range (pa_cons (pv 1) pa_nil)) (pg_name (i := 5) nd rfl (.inl rfl))
        (pss_one (ps_expr (pe_bm PySem.F.plainAttrs_list PySem.F.slot_list_append PySem.F.type_list_append mt_append (pv 4) (pa_cons (pe_join pe_str (pe_lc (own := [("column", 6)]) (g := gName 6) (tt := tYes) rfl nd (pi_range1 rfl T.range (pa_cons (pv 2) pa_nil)) (blkOk_by (N := nPc) (sc := defScope sPc) (by decide +kernel)) (fun _ _ _ _ _ => pg_name (i := 6) nd rfl (Or.inl rfl)) (fun _ _ _ _ _ => pts_nil)
            (fun _ _ _ _ _ => pe_ix ix_str pe_str (pe_callTy call_int1 (by rfl) T.int (by decide +kernel) (pa_cons (pe_cmpR op_lt (pe_call GN hr (by rfl) mN kN bN .nil pass0 (pa_cons (pv 0) (pa_cons pe_int pa_nil))) (pv 3) (nomark _)) pa_nil)) (fun _ _ => rfl)))) pa_nil)))))
      (pss_one (ps_ret (pe_callTy call_tuple_of (by rfl) T.tuple (by decide +kernel) (pa_cons (pv 4) pa_nil))))), ?_⟩
    have b1 : (-(2 ^ 62) : Int) ≤ (high : Int) ∧ (high : Int) < 2 ^ 62 := ⟨by omega, by omega⟩
    have b2 : (-(2 ^ 62) : Int) ≤ (wide : Int) ∧ (wide : Int) < 2 ^ 62 := ⟨by omega, by omega⟩
    refine ⟨by show 0 ≤ sizeLine; decide, fun l hl => ?_⟩
    have sl := same_upd (o := .lst []) hl
    have nld := D.new hl
    refine ⟨.int high, rfl, high, rfl, b1.1, b1.2, for_range (lo := 0) (n := high) (fun i σ H2 => ∃ (y5 : Option V) (rs : List (List Nat)), σ = [some (.ref d), some (.int high), some (.int wide), some (.int dense), some (.ref l), y5, none] ∧ rs.length = i ∧ (∀ r ∈ rs, RowR wide r) ∧ H2 l = some (.lst (rs.map rv)) ∧ Du H2 d (n + 200 * i) ∧ Do d H H2)
      ⟨none, [], rfl, rfl, (fun _ h => nomatch h), upd_same, (D.same sl).le (by omega), Do.same sl⟩ ?_ ?_⟩
    · rintro i σ H2 hi ⟨y5, rs, rfl, hrl, hrow, h2l, D2, dn2⟩
      refine ⟨.ref l, rfl, .inl ⟨rfl, _, SqL.of h2l⟩, ⟨_, rfl⟩, .int wide, rfl, wide, rfl, b2.1, b2.2, fun Dd hDd => lc_range (lo := 0) (n := wide) (fun j H3 => ∃ cs : List Nat, cs.length = j ∧ (∀ c ∈ cs, c = 35 ∨ c = 46) ∧ H3 Dd = some (.lst (cs.map fun c => rv [c])) ∧ H3 l = some (.lst (rs.map rv)) ∧ Du H3 d (n + 200 * i + j) ∧ Do d H H3) ?_ ?_ ?_⟩
      · have sD := same_upd (o := .lst []) hDd
        exact ⟨[], rfl, (fun _ h => nomatch h), upd_same, sD _ _ h2l, D2.same sD, dn2.trans (Do.same sD)⟩
      · rintro j H3 hj ⟨cs, hcl, hcs, h3D, h3l, D3, dn3⟩
        have nDd := D2.new hDd
        have fu : n + 20000 ≤ 1000000000000 := hn
        refine ⟨rfl, .ref d, rfl, d, 10, _, rfl, D3, (by show _ ≤ 1000000000000; omega), by decide, by decide, fun m H4 m0 m1 D4 dn4 => ⟨.int dense, rfl, m, dense, rfl, rfl, .inr ⟨_, rfl, ?_⟩⟩⟩
        obtain ⟨c, hc, hat⟩ := dot_hash (decide (m < dense))
        refine ⟨".#", _, c, rfl, rfl, by decide +kernel, hat, ?_⟩
        have h4D := dn4 _ _ h3D nDd
        have h4l := dn4 _ _ h3l nld
        have nDl : Dd ≠ l := (ne_of_none h2l hDd).symm
        refine ⟨_, h4D, ?_, cs ++ [c], ?_, ?_, ?_, ?_, ?_, ?_⟩
        · rw [List.length_map]
          exact small1000 (by omega)
        · rw [List.length_append, hcl]
          rfl
        · intro y hy
          rcases List.mem_append.mp hy with z | z
          · exact hcs y z
          · rw [List.mem_singleton.mp z]
            exact hc
        · rw [upd_same, List.map_append]
          rfl
        · rw [upd_ne nDl.symm]
          exact h4l
        · exact D4.upd nDd
        · exact (dn3.trans dn4).upd (dn2.nn D2 hDd)
      · rintro H3 ⟨cs, hcl, hcs, h3D, h3l, D3, dn3⟩
        have rowcs : RowR wide cs := ⟨hcl, hcs⟩
        refine ⟨"", Dd, cs.map fun c => S [c], rfl, rfl, .inl (SqL.of ?_), ?_, ?_⟩
        · rw [h3D, List.map_map]
          rfl
        · rw [lens_ones]
          show cs.length + _ * 0 ≤ 16777216
          omega
        · rw [join_ones]
          refine ⟨l, _, _, rfl, rfl, h3l, ?_, ?_⟩
          · rw [List.length_map]
            exact small1000 (by omega)
          · refine ⟨_, rs ++ [cs], rfl, ?_, ?_, ?_, ?_, ?_⟩
            · rw [List.length_append, hrl]
              rfl
            · intro y hy
              rcases List.mem_append.mp hy with z | z
              · exact hrow y z
              · rw [List.mem_singleton.mp z]
                exact rowcs
            · rw [upd_same, List.map_append]
              rfl
            · exact (D3.upd nld).le (by omega)
            · exact dn3.upd hl
    · rintro σ H2 ⟨y5, rs, rfl, hrl, hrow, h2l, D2, dn2⟩
      refine ⟨.ref l, rfl, l, _, rfl, .inl ⟨SqL.of h2l, fun p hp => ?_⟩⟩
      have sp := same_upd (o := .tup (rs.map rv)) hp
      exact q p rs _ ⟨hrl, hrow, h0, h1, w0, w1⟩ (dn2.nn D2 hp) upd_same ((D2.same sp).le (by omega)) (dn2.trans (Do.same sp))
theorem ok_nr {f : Addr} {fd : FuncData} {k : Nat} (F : Fun K "_law_near" "_law_near" sNr f fd) (T : Tx mg) (GN : Pm P w K mg base CX0 (k + 1) "_law_next" ["draw", "below"] spNx) : FnOk P w K mg base CX0 (k + 2) f fd ["draw", "picture"] spNr := by
  obtain ⟨fN, fdN, GN, mN, kN, bN⟩ := GN.ex
  refine F.ok scNr (fun vs H Q E h => ?_) (fun cdv A outer s H vs Q E hr h => ?_)
  · obtain ⟨d, a, high, wide, n, rs, rfl, _⟩ := h
    rfl
  · obtain ⟨d, a, high, wide, n, rs, rfl, D, hn, ha, pr, k⟩ := h
    have nd := scNr.nd
    refine ⟨_, pss_cons (ps_setLc (i := 2) (own := [("row", 6)]) (g := gName 6) (tt := tYes) (by rfl) nd rfl rfl (sw_true rfl rfl rfl (by decide +kernel)) (pi_tup (pv 1)) (blkOk_by (N := nNr) (sc := defScope sNr) (by decide +kernel)) (fun _ _ _ _ _ => pg_name (i := 6) nd rfl (Or.inl rfl)) (fun _ _ _ _ _ => pts_nil)
          (fun _ _ _ _ _ => pe_callTy (call_listS rfl) (by rfl) T.list (by decide +kernel) (pa_cons (pv 6) pa_nil)))
      (pss_cons (ps_for PassesOwn.never rfl (pi_range1 rfl T.range (pa_cons (pe_op op_add pe_int (pe_call GN hr (by rfl) mN kN bN .nil pass0 (pa_cons (pv 0) (pa_cons pe_int pa_nil)))) pa_nil)) (pg_name (i := 3) nd rfl (.inl rfl))
        (pss_cons (ps_par (i := 4) (j := 5) (by rfl) nd rfl rfl (by decide) rfl rfl (pa_cons (pe_call GN hr (by rfl) mN kN bN .nil pass0 (pa_cons (pv 0) (pa_cons (pe_callB call_len_seq (by rfl) T.len PySem.boot_len (pa_cons (pv 2) pa_nil)) pa_nil))) (pa_cons (pe_call GN hr (by rfl) mN kN bN .nil pass0 (pa_cons (pv 0) (pa_cons (pe_callB call_len_seq (by rfl) T.len PySem.boot_len (pa_cons (pe_ix ix_list (pv 2) pe_int (fun _ _ => rfl)) pa_nil)) pa_nil))) pa_nil)) (by rfl))
        (pss_one (ps_asg (pe_ifExp (pt_cmpR op_eq (pe_ix ix_list (pe_ix ix_list (pv 2) (pv 4) (fun _ _ => rfl)) (pv 5) (fun _ _ => rfl)) pe_str (nomark _)) pe_str pe_str) (pg_sub (pe_ix ix_list (pv 2) (pv 4) (fun _ _ => rfl)) (pv 5) set_list)))))
      (pss_one (ps_ret (pe_callTy call_tuple_of (by rfl) T.tuple (by decide +kernel) (pa_cons (pe_lc (own := [("row", 6)]) (g := gName 6) (tt := tYes) rfl nd (pi_list (pv 2)) (blkOk_by (N := nNr) (sc := defScope sNr) (by decide +kernel)) (fun _ _ _ _ _ => pg_name (i := 6) nd rfl (Or.inl rfl)) (fun _ _ _ _ _ => pts_nil)
          (fun _ _ _ _ _ => pe_joinK (K := K) rfl pe_str (pv 6))) pa_nil))))), ?_⟩
    have fu : n + 10 ≤ 1000000000000 := hn
    refine ⟨.ref a, rfl, a, rfl, ⟨_, SqT.of ha⟩, fun G hG => lc_tup (K := K) (a := a) (xs := rs.map rv) (fun i H2 => ∃ as, GridN H H2 G as (rs.take i)) ?_ (fun i H2 _ z => ?_) ?_ ?_⟩
    · exact ⟨[], ⟨upd_same, rfl, (fun i a l h => nomatch h), List.nodup_nil, (fun h => nomatch h)⟩, same_upd hG, hG, (fun a h => nomatch h)⟩
    · obtain ⟨as, G⟩ := z
      exact SqT.of (G.sm _ _ ha)
    · rintro i x H2 hi ⟨as, G⟩
      obtain ⟨l, hl, rfl⟩ := map_at2 hi
      have l1 := (pr.row l (List.mem_of_getElem? hl)).len
      have w1 := pr.w1
      have h1' := pr.h1
      have hil : i < rs.length := (List.getElem?_eq_some_iff.mp hl).1
      rw [pr.len] at hil
      refine ⟨rfl, rv l, rfl, S l, rfl, ?_, fun b hb => ?_⟩
      · show l.length ≤ sizeLine
        exact Nat.le_of_lt (small1000 (by omega))
      · rw [chars_row]
        refine ⟨as.map V.ref, ?_, ?_, as ++ [b], ?_⟩
        · rw [upd_ne (ne_of_none G.gr.top hb)]
          exact G.gr.top
        · rw [List.length_map, G.gr.len, List.length_take]
          exact small1000 (by omega)
        · rw [take_snoc hl]
          exact G.add hb
    · rintro H3 ⟨as, Gn⟩
      rw [List.length_map, List.take_length] at Gn
      have D3 := D.same Gn.sm
      have nof : ∀ p, H p = none → p ≠ d := fun p hp => D.new hp
      have Gd : GridD d H H3 G as rs := ⟨Gn.gr, Do.same Gn.sm, Gn.ng, Gn.nr, nof _ Gn.ng, fun b hb => nof _ (Gn.nr b hb)⟩
      refine ⟨.ref d, rfl, d, 2, n, rfl, D3, (by show n ≤ 1000000000000; omega), by decide, by decide, fun m H4 m0 m1 D4 dn4 => ⟨1, m, rfl, rfl, _, rfl, by omega, by omega, ?_⟩⟩
      obtain ⟨t, rfl⟩ := Int.eq_ofNat_of_zero_le m0
      have et : (1 + (t : Int)) = ((1 + t : Nat) : Int) := by omega
      rw [et]
      refine for_range (lo := 0) (n := 1 + t) (fun i σ H5 => ∃ (y3 y4 y5 : Option V) (ls : List (List Nat)), σ = [some (.ref d), some (.ref a), some (.ref G), y3, y4, y5, none] ∧ GridD d H H5 G as ls ∧ RowsR high wide ls ∧ Du H5 d (n + 1 + 2 * i)) ⟨none, none, none, rs, rfl, Gd.dn dn4, pr.rows, D4⟩ ?_ ?_
      · rintro i σ H5 hi ⟨y3, y4, y5, ls, rfl, G5, R5, D5⟩
        have lh : as.length = high := by rw [G5.gr.len, R5.len]
        have hh0 := pr.h0
        have ww0 := pr.w0
        refine ⟨.ref d, rfl, .ref G, rfl, G, _, rfl, .inl (SqL.of G5.gr.top), d, _, _, rfl, D5, (by show _ ≤ 1000000000000; omega), ?_, ?_, fun r H6 r0 r1 D6 dn6 => ?_⟩
        · rw [List.length_map, lh]
          omega
        · rw [List.length_map, lh]
          have := pr.h1
          omega
        rw [List.length_map, lh] at r1
        obtain ⟨r, rfl⟩ := Int.eq_ofNat_of_zero_le r0
        have G6 := G5.dn dn6
        have h0' : 0 < ls.length := by rw [R5.len]; omega
        have e00 : ls[0]? = some ls[0] := List.getElem?_eq_getElem h0'
        have a00 : as[0]? = some (as[0]'(by omega)) := List.getElem?_eq_getElem (by omega)
        have row0 := G6.gr.row 0 _ _ a00 e00
        have len0 := (R5.row _ (List.mem_of_getElem? e00)).len
        refine ⟨.ref d, rfl, .ref G, rfl, G, _, 0, .ref (as[0]'(by omega)), rfl, rfl, SqL.of G6.gr.top, atI_nat (j := 0) (by rw [List.getElem?_map, a00]; rfl), _, _, rfl, .inl (SqL.of row0), d, _, _, rfl, D6, (by show _ ≤ 1000000000000; omega), ?_, ?_, fun c H7 c0 c1 D7 dn7 => ?_⟩
        · rw [List.length_map, len0]
          omega
        · rw [List.length_map, len0]
          have := pr.w1
          omega
        rw [List.length_map, len0] at c1
        obtain ⟨c, rfl⟩ := Int.eq_ofNat_of_zero_le c0
        have G7 := G6.dn dn7
        have hr1 : r < ls.length := by rw [R5.len]; omega
        have e1 : ls[r]? = some ls[r] := List.getElem?_eq_getElem hr1
        generalize ls[r] = l at e1
        have rl := R5.row l (List.mem_of_getElem? e1)
        have hc1 : c < l.length := by rw [rl.len]; omega
        have e2 : l[c]? = some l[c] := List.getElem?_eq_getElem hc1
        generalize l[c] = x at e2
        have ha1 : r < as.length := by omega
        have e3 : as[r]? = some as[r] := List.getElem?_eq_getElem ha1
        generalize as[r] = b at e3
        have hb := G7.gr.row _ b l e3 e1
        have i1 : atI (as.map V.ref) (r : Int) = some (.ref b) := atI_nat (by rw [List.getElem?_map, e3]; rfl)
        have i2 : atI (l.map ch) (c : Int) = some (ch x) := atI_nat (by rw [List.getElem?_map, e2]; rfl)
        refine ⟨_, _, rfl, .ref G, rfl, .int r, rfl, G, _, r, .ref b, rfl, rfl, SqL.of G7.gr.top, i1, .int c, rfl, b, _, c, ch x, rfl, rfl, SqL.of hb, i2, rfl, _, rfl, ?_⟩
        have fin : ∀ y, y = 35 ∨ y = 46 → GridD d H (upd H7 b (.lst ((l.map ch).set c (ch y)))) G as (ls.set r (l.set c y)) ∧ RowsR high wide (ls.set r (l.set c y)) ∧ Du (upd H7 b (.lst ((l.map ch).set c (ch y)))) d (n + 1 + 2 * (i + 1)) := fun y hy =>
          ⟨G7.put e3 e1, R5.put e1 hy, (D7.upd (G7.ad b (List.mem_of_getElem? e3))).le (by omega)⟩
        cases decide (ch x = V.str "#") with
        | true =>
          refine iteT ⟨.ref G, rfl, .int r, rfl, G, _, r, .ref b, rfl, rfl, SqL.of G7.gr.top, i1, .int c, rfl, b, _, c, c, rfl, rfl, hb, ixN_at (by rw [List.length_map]; exact hc1), _, _, _, ls.set r (l.set c 46), rfl, ?_⟩
          have z := fin 46 (.inr rfl)
          have e46 : ch 46 = V.str "." := by rw [s_dot]; rfl
          rw [e46] at z
          exact z
        | false =>
          refine iteF ⟨.ref G, rfl, .int r, rfl, G, _, r, .ref b, rfl, rfl, SqL.of G7.gr.top, i1, .int c, rfl, b, _, c, c, rfl, rfl, hb, ixN_at (by rw [List.length_map]; exact hc1), _, _, _, ls.set r (l.set c 35), rfl, ?_⟩
          have z := fin 35 (.inl rfl)
          have e35 : ch 35 = V.str "#" := by rw [s_hash]; rfl
          rw [e35] at z
          exact z
      · rintro σ H5 ⟨y3, y4, y5, ls, rfl, G5, R5, D5⟩
        refine ⟨.ref G, rfl, G, rfl, ⟨_, SqL.of G5.gr.top⟩, fun E hE => lc_list (K := K) (a := G) (xs := as.map V.ref) (fun i H6 => GridD d H H6 G as ls ∧ Du H6 d (n + 1 + 2 * (1 + t)) ∧ H6 E = some (.lst ((ls.take i).map rv))) ⟨?_, D5.same (same_upd hE), upd_same⟩ (fun i H6 _ z => SqL.of z.1.gr.top) ?_ ?_⟩
        · exact G5.dn (Do.same (same_upd hE))
        · rintro i x H6 hi ⟨G6, D6, h6⟩
          obtain ⟨b, hb, rfl⟩ := map_at2 hi
          have hil : i < ls.length := by
            rw [← G6.gr.len]
            exact (List.getElem?_eq_some_iff.mp hb).1
          have el : ls[i]? = some ls[i] := List.getElem?_eq_getElem hil
          generalize ls[i] = l at el
          have hrow := G6.gr.row i b l hb el
          have rl := R5.row l (List.mem_of_getElem? el)
          have w1 := pr.w1
          have h1' := pr.h1
          have ll := rl.len
          rw [R5.len] at hil
          have nE := G5.gr.none hE
          have nE0 : H E = none := G5.sm.nn D5 hE
          refine ⟨rfl, ⟨"", rfl⟩, .ref b, rfl, "", b, l.map fun c => (⟨#[c]⟩ : Str), rfl, rfl, .inl (SqL.of (hrow.trans (by rw [List.map_map]; rfl))), ?_, ?_⟩
          · rw [lens_rows]
            show l.length + _ * 0 ≤ 16777216
            omega
          · rw [join_row]
            refine ⟨_, h6, ?_, G6.same' nE.1 nE.2 nE0, D6.upd (nof _ nE0), ?_⟩
            · rw [List.length_map, List.length_take]
              exact small1000 (by omega)
            · rw [upd_same, take_snoc el, List.map_append]
              rfl
        · rintro H6 ⟨G6, D6, h6⟩
          have e5 : ls.take (as.map V.ref).length = ls := by
            rw [List.length_map, G6.gr.len, List.take_length]
          rw [e5] at h6
          refine ⟨E, _, rfl, .inl ⟨SqL.of h6, fun p hp => ?_⟩⟩
          have sp := same_upd (o := .tup (ls.map rv)) hp
          exact k p ls _ ⟨R5.len, R5.row, pr.h0, pr.h1, pr.w0, pr.w1⟩ (G6.sm.nn D6 hp) upd_same ((D6.same sp).le (by omega)) (G6.sm.trans (Do.same sp))
end
end Dt
namespace Dt
open PySem PySem.Spec PyProof.Rows L2 L2X
open SX (S)
/-! ### shapes as data -/
structure Sh where
  sg : Nat
  w : Nat
  rs : List (List Nat)
def ShAt (H : Hp) (x : V) (s : Sh) : Prop := ∃ t p, x = .ref t ∧ H t = some (.tup [ch s.sg, .ref p]) ∧ H p = some (.tup (s.rs.map rv))
structure Good (high wide : Nat) (s : Sh) : Prop where
  pic : PicR high s.w s.rs
  w8 : s.w ≤ wide
  s0 : 33 ≤ s.sg
  s1 : s.sg ≤ 126
  dot : ∃ l ∈ s.rs, 35 ∈ l
structure Shs (H : Hp) (xs : List V) (ss : List Sh) : Prop where
  len : xs.length = ss.length
  at_ : ∀ (i : Nat) (x : V) (s : Sh), xs[i]? = some x → ss[i]? = some s → ShAt H x s
structure Goods (high wide : Nat) (ss : List Sh) : Prop where
  all : ∀ s ∈ ss, Good high wide s
  nd : (ss.map (·.rs)).Nodup
theorem ShAt.same {H H' : Hp} {x : V} {s : Sh} (h : ShAt H x s) (sm : Same H H') : ShAt H' x s :=
  let ⟨t, p, e, h1, h2⟩ := h; ⟨t, p, e, sm _ _ h1, sm _ _ h2⟩
theorem ShAt.dn {H H' : Hp} {d : Addr} {n : Nat} {x : V} {s : Sh} (h : ShAt H x s) (D : Du H d n) (sm : Do d H H') : ShAt H' x s := by
  obtain ⟨t, p, e, h1, h2⟩ := h
  obtain ⟨a, b, c, hd, _⟩ := D
  exact ⟨t, p, e, sm _ _ h1 (ne_of h1 hd (by intro z; cases z)), sm _ _ h2 (ne_of h2 hd (by intro z; cases z))⟩
theorem ShAt.updl {H : Hp} {l : Addr} {ys zs : List V} {x : V} {s : Sh} (h : ShAt H x s) (hl : H l = some (.lst ys)) : ShAt (upd H l (.lst zs)) x s := by
  obtain ⟨t, p, e, h1, h2⟩ := h
  exact ⟨t, p, e, by rw [upd_ne (ne_of h1 hl (by intro z; cases z))]; exact h1, by rw [upd_ne (ne_of h2 hl (by intro z; cases z))]; exact h2⟩
section
variable {H H' : Hp} {xs : List V} {ss : List Sh}
theorem Shs.same (h : Shs H xs ss) (sm : Same H H') : Shs H' xs ss := ⟨h.len, fun i x s a b => (h.at_ i x s a b).same sm⟩
theorem Shs.dn {d : Addr} {n : Nat} (h : Shs H xs ss) (D : Du H d n) (sm : Do d H H') : Shs H' xs ss := ⟨h.len, fun i x s a b => (h.at_ i x s a b).dn D sm⟩
theorem Shs.updl {l : Addr} {ys zs : List V} (h : Shs H xs ss) (hl : H l = some (.lst ys)) : Shs (upd H l (.lst zs)) xs ss := ⟨h.len, fun i x s a b => (h.at_ i x s a b).updl hl⟩
theorem Shs.nil : Shs H [] [] := ⟨rfl, fun i x s h => nomatch h⟩
theorem Shs.add {x : V} {s : Sh} (h : Shs H xs ss) (a : ShAt H x s) : Shs H (xs ++ [x]) (ss ++ [s]) := by
  refine ⟨by rw [List.length_append, List.length_append, h.len]; rfl, fun i y s' hy hs => ?_⟩
  by_cases hi : i < xs.length
  · rw [List.getElem?_append_left hi] at hy
    rw [List.getElem?_append_left (by rw [← h.len]; exact hi)] at hs
    exact h.at_ i y s' hy hs
  · rw [List.getElem?_append_right (by omega)] at hy
    rw [List.getElem?_append_right (by rw [← h.len]; omega), ← h.len] at hs
    rcases hk : i - xs.length with _ | k
    · rw [hk] at hy hs
      cases hy
      cases hs
      exact a
    · rw [hk] at hy
      cases hy
end
theorem Goods.nil {high wide : Nat} : Goods high wide [] := ⟨(fun s h => nomatch h), List.nodup_nil⟩
theorem Goods.add {high wide : Nat} {ss : List Sh} {s : Sh} (h : Goods high wide ss) (g : Good high wide s) (nw : s.rs ∉ ss.map (·.rs)) : Goods high wide (ss ++ [s]) := by
  refine ⟨fun y hy => ?_, ?_⟩
  · rcases List.mem_append.mp hy with z | z
    · exact h.all y z
    · rw [List.mem_singleton.mp z]
      exact g
  · rw [List.map_append, List.nodup_append]
    refine ⟨h.nd, by simp, fun x hx y hy e => ?_⟩
    have : y = s.rs := by simpa using hy
    rw [← this, ← e] at nw
    exact nw hx
def sD (s : Sh) : PyData := .tuple [.str ⟨#[s.sg]⟩, .tuple (s.rs.map rD)]
def pDs (s : Sh) : PyData := .tuple (s.rs.map rD)
theorem dp_sh {K : PySem.W.Frag} {H : Hp} {x : V} {s : Sh} (h : ShAt H x s) : Dp K H x (sD s) := by
  obtain ⟨t, p, rfl, h1, h2⟩ := h
  exact .tup (SqT.of h1) (.cons (.str _) (.cons (.tup (SqT.of h2) (dp_rows _)) .nil))
theorem dp_shs {K : PySem.W.Frag} {H : Hp} : ∀ {xs : List V} {ss : List Sh}, Shs H xs ss → DpAll K H xs (ss.map sD)
  | [], [], _ => .nil
  | [], _ :: _, h => nomatch h.len
  | _ :: _, [], h => nomatch h.len
  | x :: xs, s :: ss, h => .cons (dp_sh (h.at_ 0 x s rfl rfl)) (dp_shs ⟨Nat.succ.inj h.len, fun i y q a b => h.at_ (i + 1) y q a b⟩)
theorem lay_sh {high wide : Nat} : ∀ ss : List Sh, (∀ s ∈ ss, Good high wide s) → PyData.canLayAll0 (ss.map sD) = true ∧ PyData.depthAll (ss.map sD) ≤ 3 ∧ PyData.canLayAll0 (ss.map pDs) = true ∧ PyData.depthAll (ss.map pDs) ≤ 3
  | [], _ => ⟨by simp [PyData.canLayAll0], by simp [PyData.depthAll], by simp [PyData.canLayAll0], by simp [PyData.depthAll]⟩
  | s :: r, h => by
    obtain ⟨h1, h2, h3, h4⟩ := lay_sh r fun m hm => h m (List.mem_cons_of_mem _ hm)
    have g := h s List.mem_cons_self
    obtain ⟨r1, r2⟩ := lay_rows s.rs fun l hl => (g.pic.row l hl).sg
    have so : PyData.strOk ⟨#[s.sg]⟩ = true := by
      unfold PyData.strOk
      have := g.s1
      simp
      omega
    refine ⟨?_, ?_, ?_, ?_⟩
    · rw [List.map_cons]
      simp [PyData.canLayAll0, PyData.canLay0, sD, h1, r1, so]
    · rw [List.map_cons]
      simp only [PyData.depthAll, PyData.depth, sD]
      omega
    · rw [List.map_cons]
      simp [PyData.canLayAll0, PyData.canLay0, pDs, h3, r1]
    · rw [List.map_cons]
      simp only [PyData.depthAll, PyData.depth, pDs]
      omega
theorem shaped_shs {high wide : Nat} {ss : List Sh} (h : ∀ s ∈ ss, Good high wide s) : SeqAt.shaped (.list (ss.map sD)) = true := by
  obtain ⟨h1, h2, _⟩ := lay_sh ss h
  unfold SeqAt.shaped
  rw [Bool.and_eq_true, decide_eq_true_iff]
  refine ⟨by simp [PyData.canLay0, h1], ?_⟩
  simp only [PyData.depth]
  omega
theorem shaped_pics {high wide : Nat} {ss : List Sh} (h : ∀ s ∈ ss, Good high wide s) : SeqAt.shaped (.list (ss.map pDs)) = true := by
  obtain ⟨_, _, h1, h2⟩ := lay_sh ss h
  unfold SeqAt.shaped
  rw [Bool.and_eq_true, decide_eq_true_iff]
  refine ⟨by simp [PyData.canLay0, h1], ?_⟩
  simp only [PyData.depth]
  omega
theorem eqv_rowsD : ∀ ls ms : List (List Nat), PyData.eqvAll (ls.map rD) (ms.map rD) = decide (ls = ms)
  | [], [] => by simp [PyData.eqvAll]
  | [], _ :: _ => by simp [PyData.eqvAll]
  | _ :: _, [] => by simp [PyData.eqvAll]
  | l :: r, m :: t => by
    rw [List.map_cons, List.map_cons, PyData.eqvAll, eqv_rowsD r t]
    have e : PyData.eqv (rD l) (rD m) = decide (l = m) := by
      show (S l == S m) = _
      exact SX.S_beq_eq
    rw [e]
    apply Bool.eq_iff_iff.mpr
    simp
theorem eqv_pics (ls ms : List (List Nat)) : PyData.eqv (.tuple (ls.map rD)) (.tuple (ms.map rD)) = decide (ls = ms) := by
  rw [← eqv_rowsD ls ms]
  simp [PyData.eqv]
theorem any_pics (ss : List Sh) (ls : List (List Nat)) : ((ss.map pDs).any fun z => PyData.eqv z (.tuple (ls.map rD))) = decide (ls ∈ ss.map (·.rs)) := by
  apply Bool.eq_iff_iff.mpr
  rw [List.any_eq_true, decide_eq_true_iff]
  constructor
  · rintro ⟨z, hz, e⟩
    obtain ⟨s, hs, rfl⟩ := List.mem_map.mp hz
    have e2 : PyData.eqv (.tuple (s.rs.map rD)) (.tuple (ls.map rD)) = true := e
    rw [eqv_pics, decide_eq_true_iff] at e2
    rw [← e2]
    exact List.mem_map.mpr ⟨s, hs, rfl⟩
  · intro h
    obtain ⟨s, hs, e⟩ := List.mem_map.mp h
    refine ⟨pDs s, List.mem_map.mpr ⟨s, hs, rfl⟩, ?_⟩
    show PyData.eqv (.tuple (s.rs.map rD)) (.tuple (ls.map rD)) = true
    rw [eqv_pics, e, decide_eq_true rfl]
/-! ### texts -/
theorem joinL_nil : ∀ ls : List (List Nat), TL.joinL [] ls = ls.flatten
  | [] => rfl
  | [c] => by
    show c = c ++ []
    rw [List.append_nil]
  | c :: d :: r => by
    show c ++ ([] ++ TL.joinL [] (d :: r)) = _
    rw [joinL_nil (d :: r)]
    rfl
theorem join_flat (ls : List (List Nat)) : Txt.join "" (ls.map S) = S ls.flatten := by
  rw [s_empty, SX.join_S, joinL_nil]
theorem lens_flat : ∀ {ls : List (List Nat)} {w : Nat}, (∀ l ∈ ls, l.length = w) → ((ls.map S).map (·.length)).sum = ls.length * w
  | [], w, _ => by simp
  | l :: r, w, h => by
    rw [List.map_cons, List.map_cons, List.sum_cons, lens_flat fun m hm => h m (List.mem_cons_of_mem _ hm), SX.S_len, h l List.mem_cons_self, List.length_cons, Nat.add_mul, Nat.one_mul, Nat.add_comm]
theorem cutS_to (l : List Nat) (n : Nat) : cutS (S l) none (some (n : Int)) = S (l.take n) := by
  unfold cutS
  rw [SX.S_len, HT.sIx_nat]
  have e0 : HT.sIx l.length 0 none = 0 := rfl
  rw [e0, Nat.sub_zero]
  show S (((S l).cps.toList.drop 0).take (min n l.length)) = _
  have e1 : (S l).cps.toList = l := by simp [S]
  rw [e1, List.drop_zero]
  congr 1
  by_cases h : n ≤ l.length
  · rw [Nat.min_eq_left h]
  · rw [Nat.min_eq_right (by omega), List.take_length, List.take_of_length_le (by omega)]
theorem gap_ok {g : Nat} (h : g ≤ 120) : MulOk "." (g : Int) ∧ Txt.mul "." (g : Int) = S (List.replicate g 46) := by
  rw [s_dot]
  rcases Nat.eq_zero_or_pos g with e | e
  · subst e
    refine ⟨⟨by decide, fun n => absurd (by decide) n, fun n => absurd (by decide) n⟩, ?_⟩
    unfold Txt.mul
    rw [if_pos (by decide)]
    rfl
  · exact ⟨mul_ok 46 g e h, mul_sign 46 g e⟩
theorem has_dot {rs : List (List Nat)} (h : 35 ∈ rs.flatten) : ∃ l ∈ rs, 35 ∈ l := by
  obtain ⟨l, hl, hm⟩ := List.mem_flatten.mp h
  exact ⟨l, hl, hm⟩
end Dt
namespace Dt
open PySem PySem.Spec PyProof.Rows L2 L2X
open SX (S)
/-! ### _law_shapes -/
abbrev sShp : Stmt := topS 52
abbrev nShp : List Str := ["draw", "high", "most", "wide", "found", "signs", "turn", "way", "one", "row", "more", "sign", "picture"]
theorem scShp : FnScope nShp ["draw", "high", "most", "wide"] (defScope sShp) := ⟨rfl, rfl, rfl, by decide +kernel, rfl, by decide +kernel, by decide +kernel⟩
def spShp : Sp := fun vs H Q _ => ∃ (d : Addr) (high most wide n : Nat), vs = [.ref d, .int high, .int most, .int wide] ∧ Du H d n ∧ n + 500000 ≤ fuel ∧ 1 ≤ high ∧ high ≤ 60 ∧ 1 ≤ most ∧ most ≤ 20 ∧ 1 ≤ wide ∧ wide ≤ 60 ∧
  ∀ (l : Addr) (xs : List V) (ss : List Sh) (H' : Hp), H l = none → H' l = some (.lst xs) → Shs H' xs ss → Goods high wide ss → 0 < ss.length → ss.length ≤ most → Du H' d (n + 500000) → Do d H H' → Q (.ref l) H'
def FdI (l : Addr) (high wide : Nat) (H : Hp) (ss : List Sh) : Prop := ∃ xs, H l = some (.lst xs) ∧ Shs H xs ss ∧ Goods high wide ss
theorem FdI.dn {d l : Addr} {high wide n : Nat} {H H' : Hp} {ss : List Sh} (h : FdI l high wide H ss) (D : Du H d n) (nl : l ≠ d) (s : Do d H H') : FdI l high wide H' ss :=
  let ⟨xs, h1, h2, h3⟩ := h; ⟨xs, s _ _ h1 nl, h2.dn D s, h3⟩
theorem FdI.same {l : Addr} {high wide : Nat} {H H' : Hp} {ss : List Sh} (h : FdI l high wide H ss) (s : Same H H') : FdI l high wide H' ss :=
  let ⟨xs, h1, h2, h3⟩ := h; ⟨xs, s _ _ h1, h2.same s, h3⟩
theorem neD_nil {ss : List Sh} (h : ss = []) : (!PyData.eqv (.list (ss.map sD)) (.list [])) = false := by
  rw [h]
  simp [PyData.eqv, PyData.eqvAll]
theorem neD_ne {ss : List Sh} (h : ss ≠ []) : (!PyData.eqv (.list (ss.map sD)) (.list [])) = true := by
  cases ss with
  | nil => exact absurd rfl h
  | cons s r => simp [PyData.eqv, PyData.eqvAll]
/-- the pictures alone -/
structure Pcs (H : Hp) (zs : List V) (ss : List Sh) : Prop where
  len : zs.length = ss.length
  at_ : ∀ (i : Nat) (z : V) (s : Sh), zs[i]? = some z → ss[i]? = some s → ∃ p, z = .ref p ∧ H p = some (.tup (s.rs.map rv))
theorem Pcs.same {H H' : Hp} {zs : List V} {ss : List Sh} (h : Pcs H zs ss) (sm : Same H H') : Pcs H' zs ss := ⟨h.len, fun i z s a b => let ⟨p, e, hp⟩ := h.at_ i z s a b; ⟨p, e, sm _ _ hp⟩⟩
theorem Pcs.updl {H : Hp} {zs : List V} {ss : List Sh} {l : Addr} {ys us : List V} (h : Pcs H zs ss) (hl : H l = some (.lst ys)) : Pcs (upd H l (.lst us)) zs ss := ⟨h.len, fun i z s a b => let ⟨p, e, hp⟩ := h.at_ i z s a b; ⟨p, e, by rw [upd_ne (ne_of hp hl (by intro z; cases z))]; exact hp⟩⟩
theorem Pcs.add {H : Hp} {zs : List V} {ss : List Sh} {p : Addr} {s : Sh} (h : Pcs H zs ss) (hp : H p = some (.tup (s.rs.map rv))) : Pcs H (zs ++ [.ref p]) (ss ++ [s]) := by
  refine ⟨by rw [List.length_append, List.length_append, h.len]; rfl, fun i y s' hy hs => ?_⟩
  by_cases hi : i < zs.length
  · rw [List.getElem?_append_left hi] at hy
    rw [List.getElem?_append_left (by rw [← h.len]; exact hi)] at hs
    exact h.at_ i y s' hy hs
  · rw [List.getElem?_append_right (by omega)] at hy
    rw [List.getElem?_append_right (by rw [← h.len]; omega), ← h.len] at hs
    rcases hk : i - zs.length with _ | k
    · rw [hk] at hy hs
      cases hy
      cases hs
      exact ⟨p, rfl, hp⟩
    · rw [hk] at hy
      cases hy
theorem dp_pcs {K : PySem.W.Frag} {H : Hp} : ∀ {zs : List V} {ss : List Sh}, Pcs H zs ss → DpAll K H zs (ss.map pDs)
  | [], [], _ => .nil
  | [], _ :: _, h => nomatch h.len
  | _ :: _, [], h => nomatch h.len
  | x :: xs, s :: ss, h => by
    obtain ⟨p, e, hp⟩ := h.at_ 0 x s rfl rfl
    subst e
    exact .cons (.tup (SqT.of hp) (dp_rows _)) (dp_pcs ⟨Nat.succ.inj h.len, fun i y q a b => h.at_ (i + 1) y q a b⟩)
section
variable {P : Program} {w : World} {K : PySem.W.Frag} {mg : Str → Option Value} {base : Heap}
theorem ok_shp {f : Addr} {fd : FuncData} {k : Nat} (F : Fun K "_law_shapes" "_law_shapes" sShp f fd) (T : Tx mg) (hz : mg "zip" = none) (GN : Pm P w K mg base CX0 (k + 3) "_law_next" ["draw", "below"] spNx) (GK : Pm P w K mg base CX0 (k + 3) "_law_pick" ["draw", "some"] (spPk K))
    (GP : Pm P w K mg base CX0 (k + 3) "_law_picture" ["draw", "high", "wide", "dense"] spPc) (GR : Pm P w K mg base CX0 (k + 3) "_law_near" ["draw", "picture"] spNr) : FnOk P w K mg base CX0 (k + 4) f fd ["draw", "high", "most", "wide"] spShp := by
  obtain ⟨fN, fdN, GN, mN, kN, bN⟩ := GN.ex
  obtain ⟨fK, fdK, GK, mK, kK, bK⟩ := GK.ex
  obtain ⟨fP, fdP, GP, mP, kP, bP⟩ := GP.ex
  obtain ⟨fR, fdR, GR, mR, kR, bR⟩ := GR.ex
  refine F.ok scShp (fun vs H Q E h => ?_) (fun cdv A outer s H vs Q E hr h => ?_)
  · obtain ⟨d, high, most, wide, n, rfl, _⟩ := h
    rfl
  · obtain ⟨d, high, most, wide, n, rfl, D, hn, h0, h1, m0, m1, w0, w1, q⟩ := h
    have nd := scShp.nd
    have hu64 := hr.units
    have hu65 : (A.deeper (envOfC "_law_shapes" (defScope sShp) s.heap.objs.size f cdv)).units + 65 < cLine := by
      have := hr.un
      omega
    refine ⟨_, pss_cons (ps_par (i := 4) (j := 5) (by rfl) nd rfl rfl (by decide) rfl rfl (pa_cons (pe_lst pa_nil) (pa_cons (pe_call GK hr (by rfl) mK kK bK .nil pass0 (pa_cons (pv 0) (pa_cons (pe_lst (pa_cons pe_str (pa_cons pe_str (pa_cons pe_str (pa_cons pe_str pa_nil))))) pa_nil))) pa_nil)) (by rfl))
      (pss_cons (ps_for PassesOwn.never rfl (pi_range1 rfl T.range (pa_cons (pe_op op_add pe_int (pe_call GN hr (by rfl) mN kN bN .nil pass0 (pa_cons (pv 0) (pa_cons (pv 2) pa_nil)))) pa_nil)) (pg_name (i := 6) nd rfl (.inl rfl))
        (C8.pss_cut (ps_par (i := 7) (j := 8) (by rfl) nd rfl rfl (by decide) rfl rfl (pa_cons (pe_call GN hr (by rfl) mN kN bN .nil pass0 (pa_cons (pv 0) (pa_cons pe_int pa_nil))) (pa_cons (pe_call GP hr (by rfl) mP kP bP .nil pass0 (pa_cons (pv 0) (pa_cons (pv 1) (pa_cons (pe_op op_add pe_int (pe_call GN hr (by rfl) mN kN bN .nil pass0 (pa_cons (pv 0) (pa_cons (pv 3) pa_nil)))) (pa_cons (pe_op op_add pe_int (pe_call GN hr (by rfl) mN kN bN .nil pass0 (pa_cons (pv 0) (pa_cons pe_int pa_nil)))) pa_nil))))) pa_nil)) (by rfl))
        (C8.pss_cut (ps_if (PW.pt (pw_and (pt_cmpR (op_neD hu64) (pv 4) (pe_lst pa_nil) (nomark _)) (pw_and1 (pt_cmpR op_eq (pv 7) pe_int (nomark _)))))
            (pss_one (ps_set (i := 8) nd rfl (.inl rfl) (pe_call GR hr (by rfl) mR kR bR .nil pass0 (pa_cons (pv 0) (pa_cons (pe_ix (r := rIxT K) ix_tup (pe_call GK hr (by rfl) mK kK bK .nil pass0 (pa_cons (pv 0) (pa_cons (pv 4) pa_nil))) pe_int (fun _ _ => rfl)) pa_nil)))))
            (pss_one (ps_if (PW.pt (pw_and (pt_cmpR (op_neD hu64) (pv 4) (pe_lst pa_nil) (nomark _)) (pw_and1 (pt_cmpR op_eq (pv 7) pe_int (nomark _)))))
              (pss_cons (ps_set (i := 8) nd rfl (.inl rfl) (pe_callTy call_tuple_of (by rfl) T.tuple (by decide +kernel) (pa_cons (pe_lc (own := [("row", 9), ("more", 10)]) (g := gTup K 2 (gCons (gName 9) (gCons (gName 10) gNil))) (tt := tYes) rfl nd (pi_zipG (by rfl) hz (pa_cons (pe_ix (r := rIxT K) ix_tup (pe_call GK hr (by rfl) mK kK bK .nil pass0 (pa_cons (pv 0) (pa_cons (pv 4) pa_nil))) pe_int (fun _ _ => rfl)) (pa_cons (pv 8) pa_nil))) (blkOk_by (N := nShp) (sc := defScope sShp) (by decide +kernel))
                  (fun _ _ _ _ _ => pg_tup rfl (pgs_cons (pg_name (i := 9) nd rfl (Or.inl rfl)) (pgs_cons (pg_name (i := 10) nd rfl (Or.inl rfl)) pgs_nil))) (fun _ _ _ _ _ => pts_nil) (fun _ _ _ _ _ => pe_op op_add_str (pv 9) (pv 10))) pa_nil)))
              (pss_one (ps_set (i := 8) nd rfl (.inl rfl) (pe_callTy call_tuple_of (by rfl) T.tuple (by decide +kernel) (pa_cons (pe_lc (own := [("row", 9)]) (g := gName 9) (tt := tYes) rfl nd (pi_tup (pv 8)) (blkOk_by (N := nShp) (sc := defScope sShp) (by decide +kernel)) (fun _ _ _ _ _ => pg_name (i := 9) nd rfl (Or.inl rfl)) (fun _ _ _ _ _ => pts_nil)
                  (fun _ _ _ _ _ => pe_slice sl_str (pv 9) po_none (po_some (pv 3)))) pa_nil))))) pss_nil)))
        (pss_one (ps_if (PW.pt (pw_and (pt_cmpR op_in_sign pe_str (pe_joinK (K := K) rfl pe_str (pv 8)) (by with_unfolding_all rfl)) (pw_and1 (pt_cmpR (op_notInD hu65) (pv 8) (pe_lc (own := [("sign", 11), ("picture", 12)]) (g := gTup K 2 (gCons (gName 11) (gCons (gName 12) gNil))) (tt := tYes) rfl nd (pi_list (pv 4)) (blkOk_by (N := nShp) (sc := defScope sShp) (by decide +kernel))
              (fun _ _ _ _ _ => pg_tup rfl (pgs_cons (pg_name (i := 11) nd rfl (Or.inl rfl)) (pgs_cons (pg_name (i := 12) nd rfl (Or.inl rfl)) pgs_nil))) (fun _ _ _ _ _ => pts_nil) (fun _ _ _ _ _ => pv 12)) (by with_unfolding_all rfl)))))
            (pss_one (ps_expr (pe_bm PySem.F.plainAttrs_list PySem.F.slot_list_append PySem.F.type_list_append mt_append (pv 4) (pa_cons (pe_tup (pa_cons (pe_call GK hr (by rfl) mK kK bK .nil pass0 (pa_cons (pv 0) (pa_cons (pe_slice sl_str (pv 5) po_none (po_some (pe_op op_add pe_int (pe_call GN hr (by rfl) mN kN bN .nil pass0 (pa_cons (pv 0) (pa_cons pe_int pa_nil)))))) pa_nil))) (pa_cons (pv 8) pa_nil))) pa_nil)))) pss_nil)))))
      (pss_one (ps_ret (pe_ifExp (pt_cmpR (op_neD hu64) (pv 4) (pe_lst pa_nil) (nomark _)) (pv 4) (pe_lst (pa_cons (pe_tup (pa_cons pe_str (pa_cons (pe_op op_repA (pe_tup (pa_cons pe_str pa_nil)) (pv 1)) pa_nil))) pa_nil)))))), ?_⟩
    have fu : n + 500000 ≤ 1000000000000 := hn
    refine ⟨by show 0 ≤ sizeLine; decide, fun l hl => ?_⟩
    have sl := same_upd (o := .lst []) hl
    have nl := D.new hl
    have Dl := D.same sl
    refine ⟨.ref d, rfl, by show 4 ≤ sizeLine; decide, fun l2 hl2 => ?_⟩
    have s2 := same_upd (o := .lst [V.str "abcdef", V.str "lIi1|!", V.str "?ab-.,", V.str "zZ~!#A"]) hl2
    have D2 := Dl.same s2
    refine ⟨d, .ref l2, n, rfl, D2, (by show n ≤ 1000000000000; omega), .inl ⟨l2, _, rfl, Dl.new hl2, upd_same, by decide, by decide, fun j y H3 hy D3 dn3 => ?_⟩⟩
    obtain ⟨zl, rfl, zlen, zsg⟩ : ∃ zl : List Nat, y = .str (S zl) ∧ zl.length = 6 ∧ ∀ c ∈ zl, 33 ≤ c ∧ c ≤ 126 := by
      rcases j with _ | _ | _ | _ | j
      · cases hy
        exact ⟨("abcdef" : Str).cps.toList, by rw [SX.S_tl], by decide +kernel, by decide +kernel⟩
      · cases hy
        exact ⟨("lIi1|!" : Str).cps.toList, by rw [SX.S_tl], by decide +kernel, by decide +kernel⟩
      · cases hy
        exact ⟨("?ab-.," : Str).cps.toList, by rw [SX.S_tl], by decide +kernel, by decide +kernel⟩
      · cases hy
        exact ⟨("zZ~!#A" : Str).cps.toList, by rw [SX.S_tl], by decide +kernel, by decide +kernel⟩
      · cases hy
    have F3 : FdI l high wide H3 [] := ⟨[], dn3 _ _ (s2 _ _ upd_same) nl, Shs.nil, Goods.nil⟩
    have dnA : Do d H H3 := ((Do.same sl).trans (Do.same s2)).trans dn3
    refine ⟨_, _, rfl, .ref d, rfl, .int most, rfl, d, most, n + 1, rfl, D3, (by show n + 1 ≤ 1000000000000; omega), by omega, by omega, fun m H4 mm0 mm1 D4 dn4 => ⟨1, m, rfl, rfl, _, rfl, by omega, by omega, ?_⟩⟩
    obtain ⟨t, rfl⟩ := Int.eq_ofNat_of_zero_le mm0
    have et : (1 + (t : Int)) = ((1 + t : Nat) : Int) := by omega
    rw [et]
    refine for_range (lo := 0) (n := 1 + t) (fun i σ H5 => ∃ (y6 y7 y8 : Option V) (ss : List Sh), σ = [some (.ref d), some (.int high), some (.int most), some (.int wide), some (.ref l), some (.str (S zl)), y6, y7, y8, none, none, none, none] ∧ FdI l high wide H5 ss ∧ ss.length ≤ i ∧ Du H5 d (n + 2 + 20100 * i) ∧ Do d H H5)
      ⟨none, none, none, [], rfl, F3.dn D3 nl dn4, Nat.le_refl _, D4, dnA.trans dn4⟩ ?_ ?_
    · rintro i σ H5 hi ⟨y6, y7, y8, ss, rfl, F5, sl5, D5, dn5⟩
      generalize (V.int (0 + (i : Int))) = tv
      -- way, one
      refine ⟨fun σ' H' => ∃ (way : Int) (p : Addr) (w1 : Nat) (rs : List (List Nat)), σ' = [some (.ref d), some (.int high), some (.int most), some (.int wide), some (.ref l), some (.str (S zl)), some tv, some (.int way), some (.ref p), none, none, none, none] ∧ PicR high w1 rs ∧ w1 ≤ wide ∧ H' p = some (.tup (rs.map rv)) ∧ FdI l high wide H' ss ∧ Du H' d (n + 2 + 20100 * i + 20003) ∧ Do d H H', ?_, ?_⟩
      · refine ⟨.ref d, rfl, d, 4, _, rfl, D5, (by show _ ≤ 1000000000000; omega), by decide, by decide, fun way H6 wa0 wa1 D6 dn6 => ?_⟩
        refine ⟨.ref d, rfl, .int high, rfl, .ref d, rfl, .int wide, rfl, d, wide, _, rfl, D6, (by show _ ≤ 1000000000000; omega), by omega, by omega, fun a H7 a0 a1 D7 dn7 => ⟨1, a, rfl, rfl, ?_⟩⟩
        refine ⟨.ref d, rfl, d, 6, _, rfl, D7, (by show _ ≤ 1000000000000; omega), by decide, by decide, fun b H8 b0 b1 D8 dn8 => ⟨3, b, rfl, rfl, ?_⟩⟩
        obtain ⟨a, rfl⟩ := Int.eq_ofNat_of_zero_le a0
        have ea : (1 + (a : Int)) = ((1 + a : Nat) : Int) := by omega
        have dn58 := dn6.trans (dn7.trans dn8)
        refine ⟨d, high, 1 + a, _, 3 + b, congrArg (fun z => [V.ref d, V.int high, V.int z, V.int (3 + b)]) ea, D8, (by show _ ≤ 1000000000000; omega), h0, h1, by omega, by omega, fun p rs H9 pr np hp D9 dn9 => ?_⟩
        exact ⟨_, _, rfl, way, p, 1 + a, rs, rfl, pr, by omega, hp, F5.dn D5 nl (dn58.trans dn9), D9.le (by omega), dn5.trans (dn58.trans dn9)⟩
      rintro _ H6 ⟨way, p, w1', rs, rfl, pr, hw, hp, F6, D6, dn6⟩
      -- near to another, put to another
      refine ⟨fun σ' H' => ∃ (p : Addr) (w1 : Nat) (rs : List (List Nat)), σ' = [some (.ref d), some (.int high), some (.int most), some (.int wide), some (.ref l), some (.str (S zl)), some tv, some (.int way), some (.ref p), none, none, none, none] ∧ PicR high w1 rs ∧ w1 ≤ wide ∧ H' p = some (.tup (rs.map rv)) ∧ FdI l high wide H' ss ∧ Du H' d (n + 2 + 20100 * i + 20050) ∧ Do d H H', ?_, ?_⟩
      · obtain ⟨xs, hxs, S6, G6⟩ := id F6
        refine ⟨.ref l, rfl, by show 0 ≤ sizeLine; decide, fun e0 he0 => ⟨.list (ss.map sD), .list [], .lst (SqL.of (same_upd he0 _ _ hxs)) (dp_shs (S6.same (same_upd he0))), .lst (SqL.of upd_same) .nil, shaped_shs G6.all, by decide +kernel, _, rfl, ?_⟩⟩
        have sE := same_upd (o := .lst []) he0
        have again : ∀ (H7 : Hp), Same H6 H7 → ∃ (p8 : Addr) (w1 : Nat) (rs : List (List Nat)), ([some (.ref d), some (.int high), some (.int most), some (.int wide), some (.ref l), some (.str (S zl)), some tv, some (.int way), some (.ref p), none, none, none, none] : L2.St) = [some (.ref d), some (.int high), some (.int most), some (.int wide), some (.ref l), some (.str (S zl)), some tv, some (.int way), some (.ref p8), none, none, none, none] ∧ PicR high w1 rs ∧ w1 ≤ wide ∧ H7 p8 = some (.tup (rs.map rv)) ∧ FdI l high wide H7 ss ∧ Du H7 d (n + 2 + 20100 * i + 20050) ∧ Do d H H7 :=
          fun H7 s67 => ⟨p, w1', rs, rfl, pr, hw, s67 _ _ hp, F6.same s67, (D6.same s67).le (by omega), dn6.trans (Do.same s67)⟩
        have lx : xs.length ≤ 1000 := by
          rw [S6.len]
          omega
        by_cases e : ss = []
        · refine iteE (neD_nil e) (iteF ?_)
          refine ⟨.ref l, rfl, by show 0 ≤ sizeLine; decide, fun e1 he1 => ⟨.list (ss.map sD), .list [], .lst (SqL.of (same_upd he1 _ _ (sE _ _ hxs))) (dp_shs ((S6.same sE).same (same_upd he1))), .lst (SqL.of upd_same) .nil, shaped_shs G6.all, by decide +kernel, _, rfl, ?_⟩⟩
          exact iteE (neD_nil e) (iteF (again _ (sE.trans (same_upd he1))))
        · have hpos : 0 < xs.length := by
            rw [S6.len]
            exact List.length_pos_iff.mpr e
          refine iteY (neD_ne e) ⟨.int way, rfl, rfl, _, rfl, ?_⟩
          have DE := D6.same sE
          cases decide (V.int way = V.int 0) with
          | true =>
            refine iteT ⟨.ref d, rfl, .ref d, rfl, .ref l, rfl, d, .ref l, _, rfl, DE, (by show _ ≤ 1000000000000; omega), .inl ⟨l, xs, rfl, nl, sE _ _ hxs, hpos, lx, fun j y H8 hy D8 dn8 => ?_⟩⟩
            have hj : j < ss.length := by
              rw [← S6.len]
              exact (List.getElem?_eq_some_iff.mp hy).1
            have S8 := (S6.same sE).dn DE dn8
            obtain ⟨t2, p2, rfl, ht2, hp2⟩ := S8.at_ j y ss[j] hy (List.getElem?_eq_getElem hj)
            have g2 := G6.all ss[j] (List.getElem_mem hj)
            refine ⟨t2, _, 1, .ref p2, rfl, rfl, SqT.of ht2, rfl, d, p2, high, ss[j].w, _, ss[j].rs, rfl, D8, (by show _ ≤ 1000000000000; omega), hp2, g2.pic, fun p3 rs3 H9 pr3 np3 hp3 D9 dn9 => ?_⟩
            exact ⟨p3, ss[j].w, rs3, rfl, pr3, g2.w8, hp3, (F6.same sE).dn DE nl (dn8.trans dn9), D9.le (by omega), (dn6.trans (Do.same sE)).trans (dn8.trans dn9)⟩
          | false =>
            refine iteF ⟨.ref l, rfl, by show 0 ≤ sizeLine; decide, fun e1 he1 => ⟨.list (ss.map sD), .list [], .lst (SqL.of (same_upd he1 _ _ (sE _ _ hxs))) (dp_shs ((S6.same sE).same (same_upd he1))), .lst (SqL.of upd_same) .nil, shaped_shs G6.all, by decide +kernel, _, rfl, iteY (neD_ne e) ⟨.int way, rfl, rfl, _, rfl, ?_⟩⟩⟩
            have sE2 := sE.trans (same_upd (o := .lst []) he1)
            have DE2 := D6.same sE2
            cases decide (V.int way = V.int 1) with
            | false => exact iteF (again _ sE2)
            | true =>
              refine iteT ⟨.ref d, rfl, .ref l, rfl, d, .ref l, _, rfl, DE2, (by show _ ≤ 1000000000000; omega), .inl ⟨l, xs, rfl, nl, sE2 _ _ hxs, hpos, lx, fun j y H8 hy D8 dn8 => ?_⟩⟩
              have hj : j < ss.length := by
                rw [← S6.len]
                exact (List.getElem?_eq_some_iff.mp hy).1
              have S8 := (S6.same sE2).dn DE2 dn8
              obtain ⟨t2, p2, rfl, ht2, hp2⟩ := S8.at_ j y ss[j] hy (List.getElem?_eq_getElem hj)
              have g2 := G6.all ss[j] (List.getElem_mem hj)
              generalize ss[j] = s2' at g2 hp2 ht2
              have hp8 : H8 p = some (.tup (rs.map rv)) := by
                obtain ⟨a1, b1, c1, hd1, _⟩ := id DE2
                exact dn8 _ _ (sE2 _ _ hp) (ne_of (sE2 _ _ hp) hd1 (by intro z; cases z))
              have F8 := (F6.same sE2).dn DE2 nl dn8
              have dn68 := (dn6.trans (Do.same sE2)).trans dn8
              have hl1 := g2.pic.len
              have hl2 := pr.len
              have hw1 := g2.w8
              refine ⟨t2, _, 1, .ref p2, rfl, rfl, SqT.of ht2, rfl, .ref p, rfl, .tup p2, .tup p, s2'.rs.map rv, rs.map rv, rfl, SqT.of hp2, SqT.of hp8, fun D5' hD5 => lc_zipG (K := K) (A := .tup p2) (B := .tup p) (xs := s2'.rs.map rv) (ys := rs.map rv) (by rw [List.length_map, List.length_map, hl1, hl2]) (fun i H9 => Same H8 H9 ∧ H9 D5' = some (.lst ((((s2'.rs.zip rs).take i).map fun q => q.1 ++ q.2).map rv))) ⟨same_upd hD5, upd_same⟩ (fun i H9 _ z => ⟨SqT.of (z.1 _ _ hp2), SqT.of (z.1 _ _ hp8)⟩) ?_ ?_⟩
              · rintro i x y H9 T' hx hy ⟨sm, h9⟩ hT
                obtain ⟨l1, hl1', rfl⟩ := map_at2 hx
                obtain ⟨m1', hm1, rfl⟩ := map_at2 hy
                have hz' : (s2'.rs.zip rs)[i]? = some (l1, m1') := List.getElem?_zip_eq_some.mpr ⟨hl1', hm1⟩
                have sT := same_upd (o := .tup [rv l1, rv m1']) hT
                have q1 := (g2.pic.row l1 (List.mem_of_getElem? hl1')).len
                have q2 := (pr.row m1' (List.mem_of_getElem? hm1)).len
                have q3 : i < s2'.rs.length := (List.getElem?_eq_some_iff.mp hl1').1
                refine ⟨T', _, rfl, SqT.of upd_same, rfl, _, _, rfl, _, _, rfl, rfl, rfl, rv l1, rfl, rv m1', rfl, S l1, S m1', rfl, rfl, ?_, ?_⟩
                · rw [SX.S_len, SX.S_len]
                  exact Nat.le_of_lt (small1000 (by omega))
                · rw [SX.S_cat]
                  refine ⟨_, sT _ _ h9, ?_, same_over (sm.trans sT) hD5, ?_⟩
                  · rw [List.length_map, List.length_map, List.length_take]
                    exact small1000 (by omega)
                  · rw [upd_same, take_snoc hz', List.map_append, List.map_append]
                    rfl
              · rintro H9 ⟨sm, h9⟩
                have e9 : (s2'.rs.zip rs).take (s2'.rs.map rv).length = s2'.rs.zip rs := by
                  apply List.take_of_length_le
                  rw [List.length_map, List.length_zip]
                  omega
                rw [e9] at h9
                have rows9 : ∀ r ∈ (s2'.rs.zip rs).map fun q => q.1 ++ q.2, r.length = s2'.w + w1' ∧ ∀ c ∈ r, c = 35 ∨ c = 46 := by
                  intro r hr'
                  obtain ⟨⟨u, v⟩, huv, rfl⟩ := List.mem_map.mp hr'
                  obtain ⟨hu, hv⟩ := List.of_mem_zip huv
                  have q1 := g2.pic.row u hu
                  have q2 := pr.row v hv
                  refine ⟨by rw [List.length_append, q1.len, q2.len], fun c hc => ?_⟩
                  rcases List.mem_append.mp hc with z | z
                  · exact q1.sg c z
                  · exact q2.sg c z
                have len9 : ((s2'.rs.zip rs).map fun q => q.1 ++ q.2).length = high := by
                  rw [List.length_map, List.length_zip]
                  omega
                generalize (s2'.rs.zip rs).map (fun q => q.1 ++ q.2) = ls at h9 rows9 len9
                refine ⟨D5', _, rfl, .inl ⟨SqL.of h9, fun p5 hp5 => ?_⟩⟩
                have s5 := same_upd (o := .tup (ls.map rv)) hp5
                refine ⟨.ref p5, rfl, p5, rfl, ⟨_, SqT.of upd_same⟩, fun D6' hD6 => lc_tup (K := K) (a := p5) (xs := ls.map rv) (fun i H10 => Same (upd H9 p5 (.tup (ls.map rv))) H10 ∧ H10 D6' = some (.lst (((ls.take i).map fun r => r.take wide).map rv))) ⟨same_upd hD6, upd_same⟩ (fun i H10 _ z => SqT.of (z.1 _ _ upd_same)) ?_ ?_⟩
                · rintro i x H10 hi ⟨sm10, h10⟩
                  obtain ⟨r, hr', rfl⟩ := map_at2 hi
                  have lr := (rows9 r (List.mem_of_getElem? hr')).1
                  have q3 : i < ls.length := (List.getElem?_eq_some_iff.mp hr').1
                  refine ⟨rfl, rv r, rfl, .int wide, rfl, wide, rfl, S r, rfl, ?_, ?_⟩
                  · rw [SX.S_len]
                    exact Nat.le_of_lt (small1000 (by omega))
                  · rw [cutS_to]
                    refine ⟨_, h10, ?_, same_over sm10 hD6, ?_⟩
                    · rw [List.length_map, List.length_map, List.length_take]
                      exact small1000 (by omega)
                    · rw [upd_same, take_snoc hr', List.map_append, List.map_append]
                      rfl
                · rintro H10 ⟨sm10, h10⟩
                  rw [List.length_map, List.take_length] at h10
                  refine ⟨D6', _, rfl, .inl ⟨SqL.of h10, fun p7 hp7 => ?_⟩⟩
                  have s7 := same_upd (o := .tup ((ls.map fun r => r.take wide).map rv)) hp7
                  have sAll : Same H8 (upd H10 p7 (.tup ((ls.map fun r => r.take wide).map rv))) := ((sm.trans s5).trans sm10).trans s7
                  have pw0 := pr.w0
                  refine ⟨p7, min wide (s2'.w + w1'), ls.map fun r => r.take wide, rfl, ⟨by rw [List.length_map]; exact len9, fun r hr' => ?_, h0, h1, by omega, by omega⟩, by omega, upd_same, F8.same sAll, (D8.same sAll).le (by omega), dn68.trans (Do.same sAll)⟩
                  obtain ⟨u, hu, rfl⟩ := List.mem_map.mp hr'
                  obtain ⟨q1, q2⟩ := rows9 u hu
                  exact ⟨by rw [List.length_take, q1], fun c hc => q2 c (List.mem_of_mem_take hc)⟩
      rintro _ H7 ⟨p, w1, rs, rfl, pr, hw, hp, F7, D7, dn7⟩
      obtain ⟨xs, hxs, S7, G7⟩ := id F7
      have fin0 : ∀ H8, Same H7 H8 → ∃ (y6 y7 y8 : Option V) (ss : List Sh), ([some (.ref d), some (.int high), some (.int most), some (.int wide), some (.ref l), some (.str (S zl)), some tv, some (.int way), some (.ref p), none, none, none, none] : L2.St) = [some (.ref d), some (.int high), some (.int most), some (.int wide), some (.ref l), some (.str (S zl)), y6, y7, y8, none, none, none, none] ∧ FdI l high wide H8 ss ∧ ss.length ≤ i + 1 ∧ Du H8 d (n + 2 + 20100 * (i + 1)) ∧ Do d H H8 :=
        fun H8 s8 => ⟨_, _, _, ss, rfl, F7.same s8, by omega, (D7.same s8).le (by omega), dn7.trans (Do.same s8)⟩
      refine ⟨⟨"", rfl⟩, .ref p, rfl, "", p, rs.map S, rfl, rfl, .inr (SqT.of (by rw [List.map_map]; exact hp)), ?_, ?_⟩
      · rw [lens_flat (w := w1) fun r hr' => (pr.row r hr').len, pr.len]
        have := Nat.mul_le_mul h1 (show w1 ≤ 60 by omega)
        show high * w1 + _ * 0 ≤ 16777216
        omega
      rw [join_flat]
      refine ⟨35, S rs.flatten, congrArg V.str s_hash, rfl, _, rfl, ite2 (fun e => ?_) (fun e => iteF (fin0 _ (Same.refl _)))⟩
      have hdot : ∃ r ∈ rs, 35 ∈ r := by
        refine has_dot ?_
        have := of_decide_eq_true e
        simpa [S] using this
      refine ⟨.ref p, rfl, .ref l, rfl, l, rfl, ⟨_, SqL.of hxs⟩, fun Dd hDd => lc_list (K := K) (a := l) (xs := xs) (fun j H8 => Same H7 H8 ∧ ∃ zs, H8 Dd = some (.lst zs) ∧ Pcs H8 zs (ss.take j)) ⟨same_upd hDd, [], upd_same, ⟨rfl, fun i z s h => nomatch h⟩⟩ (fun j H8 _ z => SqL.of (z.1 _ _ hxs)) ?_ ?_⟩
      · rintro j x H8 hj ⟨sm, zs, hz, pc⟩
        have hj' : j < ss.length := by
          rw [← S7.len]
          exact (List.getElem?_eq_some_iff.mp hj).1
        have es : ss[j]? = some ss[j] := List.getElem?_eq_getElem hj'
        generalize ss[j] = s2' at es
        obtain ⟨t2, p2, rfl, ht2, hp2⟩ := S7.at_ j x s2' hj es
        have nD : p2 ≠ Dd := ne_of (sm _ _ hp2) hz (by intro z; cases z)
        refine ⟨t2, _, rfl, SqT.of (sm _ _ ht2), rfl, _, _, rfl, _, _, rfl, rfl, rfl, .ref p2, rfl, zs, hz, ?_, same_over sm hDd, _, upd_same, ?_⟩
        · rw [pc.len, List.length_take]
          exact small1000 (by omega)
        · rw [take_snoc es]
          exact (pc.updl hz).add (by rw [upd_ne nD]; exact sm _ _ hp2)
      · rintro H8 ⟨sm, zs, hz, pc⟩
        rw [S7.len, List.take_length] at pc
        refine ⟨.tuple (rs.map rD), ss.map pDs, .tup (SqT.of (sm _ _ hp)) (dp_rows _), .lst (SqL.of hz) (dp_pcs pc), shaped_rows pr.rows, shaped_pics G7.all, _, rfl, ?_⟩
        rw [any_pics]
        by_cases e2 : rs ∈ ss.map (·.rs)
        · rw [decide_eq_true e2]
          exact iteF (fin0 _ sm)
        · rw [decide_eq_false e2]
          have D8 := D7.same sm
          refine iteT ⟨.ref l, rfl, .inl ⟨rfl, _, SqL.of (sm _ _ hxs)⟩, .ref d, rfl, .str (S zl), rfl, .ref d, rfl, d, 6, _, rfl, D8, (by show _ ≤ 1000000000000; omega), by decide, by decide, fun m H9 mm0 mm1 D9 dn9 => ⟨1, m, rfl, rfl, _, rfl, S zl, rfl, ?_, ?_⟩⟩
          · rw [SX.S_len, zlen]
            decide
          obtain ⟨m, rfl⟩ := Int.eq_ofNat_of_zero_le mm0
          have em : (1 + (m : Int)) = ((1 + m : Nat) : Int) := by omega
          rw [em, cutS_to]
          refine ⟨d, .str (S (zl.take (1 + m))), _, rfl, D9, (by show _ ≤ 1000000000000; omega), .inr ⟨_, rfl, ?_, ?_, fun c H10 hc D10 dn10 => ?_⟩⟩
          · rw [SX.S_len, List.length_take, zlen]
            omega
          · rw [SX.S_len, List.length_take, zlen]
            omega
          have hc' : c ∈ zl := by
            have : c ∈ zl.take (1 + m) := by simpa [S] using hc
            exact List.mem_of_mem_take this
          have cc := zsg c hc'
          refine ⟨.ref p, rfl, by show 2 ≤ sizeLine; decide, fun T' hT => ?_⟩
          have dnB := dn9.trans dn10
          have F10 := (F7.same sm).dn D8 nl dnB
          obtain ⟨xs2, hx2, S10, _⟩ := id F10
          have sT := same_upd (o := .tup [V.str ⟨#[c]⟩, V.ref p]) hT
          have hp10 : H10 p = some (.tup (rs.map rv)) := by
            obtain ⟨a1, b1, c1, hd1, _⟩ := id D8
            exact dnB _ _ (sm _ _ hp) (ne_of (sm _ _ hp) hd1 (by intro z; cases z))
          have nlT : T' ≠ l := (ne_of_none hx2 hT).symm
          have npl : p ≠ l := ne_of hp10 hx2 (by intro z; cases z)
          refine ⟨l, xs2, .ref T', rfl, rfl, sT _ _ hx2, ?_, _, _, _, ss ++ [⟨c, w1, rs⟩], rfl, ⟨_, upd_same, ((S10.same sT).updl (sT _ _ hx2)).add ⟨T', p, rfl, ?_, ?_⟩, G7.add ⟨pr, hw, cc.1, cc.2, hdot⟩ e2⟩, ?_, ?_, ?_⟩
          · rw [S10.len]
            exact small1000 (by omega)
          · rw [upd_ne nlT]
            exact upd_same
          · rw [upd_ne npl]
            exact sT _ _ hp10
          · rw [List.length_append, List.length_singleton]
            omega
          · exact ((D10.same sT).upd nl).le (by omega)
          · exact ((dn7.trans (Do.same sm)).trans (dnB.trans (Do.same sT))).upd hl
    · rintro σ H5 ⟨y6, y7, y8, ss, rfl, F5, sl5, D5, dn5⟩
      obtain ⟨xs, hxs, S5, G5⟩ := id F5
      refine ⟨.ref l, rfl, by show 0 ≤ sizeLine; decide, fun e0 he0 => ⟨.list (ss.map sD), .list [], .lst (SqL.of (same_upd he0 _ _ hxs)) (dp_shs (S5.same (same_upd he0))), .lst (SqL.of upd_same) .nil, shaped_shs G5.all, by decide +kernel, _, rfl, ?_⟩⟩
      have sE := same_upd (o := .lst []) he0
      by_cases e : ss = []
      · refine iteE (neD_nil e) ⟨by show 1 ≤ sizeLine; decide, fun t1 ht1 => ⟨.int high, rfl, rep_any upd_same h0 (by omega) fun z H6 s6 hz => ⟨by show 2 ≤ sizeLine; decide, fun t2 ht2 => ⟨by show 1 ≤ sizeLine; decide, fun l3 hl3 => ?_⟩⟩⟩⟩
        have s1 := same_upd (o := .tup [V.str "#"]) ht1
        have s2' := same_upd (o := .tup [V.str "a", V.ref z]) ht2
        have s3 := same_upd (o := .lst [V.ref t2]) hl3
        have sAll := (((sE.trans s1).trans s6).trans s2').trans s3
        have hz3 := s3 _ _ (s2' _ _ hz)
        have ea : ("a" : Str) = S [97] := by decide +kernel
        refine q l3 [.ref t2] [⟨97, 1, List.replicate high [35]⟩] _ ?_ upd_same (Shs.nil.add ⟨t2, z, rfl, ?_, ?_⟩) (Goods.nil.add ⟨⟨List.length_replicate, fun r hr' => ?_, h0, h1, Nat.le_refl _, (by show (1 : Nat) ≤ 120; decide)⟩, w0, (by show (33 : Nat) ≤ 97; decide), (by show (97 : Nat) ≤ 126; decide), [35], ?_, List.mem_singleton.mpr rfl⟩ (fun h => nomatch h)) Nat.zero_lt_one m0 ((D5.same sAll).le (by omega)) (dn5.trans (Do.same sAll))
        · exact dn5.nn D5 ((((sE.trans s1).trans s6).trans s2').free hl3)
        · have := s3 _ _ (upd_same (H := H6) (a := t2) (o := .tup [V.str "a", V.ref z]))
          rw [ea] at this
          rw [ea]
          exact this
        · rw [hz3]
          show _ = some (HO.tup ((List.replicate high [35]).map rv))
          rw [List.map_replicate, s_hash]
          rfl
        · rw [(List.mem_replicate.mp hr').2]
          exact ⟨rfl, fun c hc => .inl (List.mem_singleton.mp hc)⟩
        · exact List.mem_replicate.mpr ⟨by omega, rfl⟩
      · refine iteY (neD_ne e) ⟨.ref l, rfl, ?_⟩
        exact q l xs ss _ hl (sE _ _ hxs) (S5.same sE) G5 (List.length_pos_iff.mpr e) (by omega) ((D5.same sE).le (by omega)) (dn5.trans (Do.same sE))
end
end Dt
namespace L2X
open PySem PySem.Spec PyProof.Rows L2
theorem op_eqDK {X : Cx} {K : PySem.W.Frag} (hK : X.K = K) (hu : X.A.units + 64 < cLine) : OpR X (compareOp .Eq) (rEqD K) := by
  subst hK
  exact op_eqD hu
end L2X
namespace Dt
open PySem PySem.Spec PyProof.Rows L2 L2X
open SX (S)
theorem passX0 {X : Cx} : Passes (L2.CX X.prog X.w) X E0 := fun _ _ _ _ _ _ _ h => by
  obtain ⟨_, _, _, _, _, _, _, _, _, _, _, _, z⟩ := h
  exact z.elim
/-! ### an alphabet as it stands, made of what is right -/
theorem ahs : ¬ (("_high" : Str) = "_shapes") := by decide +kernel
def aF (h : Int) (t : Addr) : List (Str × V) := putF "_shapes" (.ref t) (putF "_high" (.int h) [])
theorem aF_eq (h : Int) (t : Addr) : aF h t = ([("_high", V.int h), ("_shapes", V.ref t)] : List (Str × V)) := by
  show (if ("_high" : Str) = "_shapes" then [(("_high" : Str), V.ref t)] else (("_high" : Str), V.int h) :: putF "_shapes" (V.ref t) []) = ([("_high", V.int h), ("_shapes", V.ref t)] : List (Str × V))
  rw [if_neg ahs]
  all_goals rfl
theorem aF_high (h : Int) (t : Addr) : (aF h t).lookup ("_high" : Str) = some (.int h) := by
  unfold aF
  rw [lookup_putF, if_neg ahs, lookup_putF, if_pos rfl]
theorem aF_shapes (h : Int) (t : Addr) : (aF h t).lookup ("_shapes" : Str) = some (.ref t) := by
  unfold aF
  rw [lookup_putF, if_pos rfl]
theorem aF_no (h : Int) (t : Addr) {m : Str} (h1 : ¬ m = "_shapes") (h2 : ¬ m = "_high") : (aF h t).lookup m = none := by
  unfold aF
  rw [lookup_putF, if_neg h1, lookup_putF, if_neg h2]
  rfl
def AlpAt (C : Addr) (H : Hp) (o : Addr) (high : Nat) (ss : List Sh) : Prop := ∃ dx t xs, H o = some (.ins C dx (aF high t)) ∧ H t = some (.tup xs) ∧ Shs H xs ss
theorem AlpAt.same {C : Addr} {H H' : Hp} {o : Addr} {high : Nat} {ss : List Sh} (h : AlpAt C H o high ss) (s : Same H H') : AlpAt C H' o high ss :=
  let ⟨dx, t, xs, h1, h2, h3⟩ := h; ⟨dx, t, xs, s _ _ h1, s _ _ h2, h3.same s⟩
/-- what is asked of the class -/
structure Tal (K : PySem.W.Frag) (mg : Str → Option Value) (C : Addr) : Prop where
  cl : Cls K C
  nH : NoAttr K C "_high"
  nS : NoAttr K C "_shapes"
  mC : mg "Alphabet" = some (.ref C)
/-- a method with its promise -/
structure Mm (P : Program) (w : World) (K : PySem.W.Frag) (mg : Str → Option Value) (base : Heap) (k : Nat) (C : Addr) (m : Str) (ps : List Str) (sp : Sp) : Prop where
  ex : ∃ f fd, FnOk P w K mg base CX0 k f fd ps sp ∧ Meth K C m f ∧ Binds K fd ps []
abbrev cAl : Stmt := topS 33
abbrev sSg : Stmt := topS 34
theorem scSg : FnScope ["thing"] ["thing"] (defScope sSg) := ⟨rfl, rfl, rfl, by decide +kernel, rfl, by decide +kernel, by decide +kernel⟩
def spSg : Sp := fun vs H Q _ => ∃ c, vs = [ch c] ∧ 33 ≤ c ∧ c ≤ 126 ∧ Q (.bl true) H
abbrev sIS : Stmt := topS 35
theorem scIS : FnScope ["thing", "high", "rows", "columns"] ["thing", "high"] (defScope sIS) := ⟨rfl, rfl, rfl, by decide +kernel, rfl, by decide +kernel, by decide +kernel⟩
def spIS : Sp := fun vs H Q _ => ∃ (x : V) (high : Nat) (s : Sh), vs = [x, .int high] ∧ ShAt H x s ∧ Good high 8 s ∧ ∀ H', Same H H' → Q (.bl true) H'
abbrev sIPO : Stmt := topS 36
theorem scIPO : FnScope ["picture", "shapes", "shape"] ["picture", "shapes"] (defScope sIPO) := ⟨rfl, rfl, rfl, by decide +kernel, rfl, by decide +kernel, by decide +kernel⟩
def spIPO : Sp := fun vs H Q _ => ∃ (a l : Addr) (high wide w2 : Nat) (rs : List (List Nat)) (xs : List V) (ss : List Sh), vs = [.ref a, .ref l] ∧ H a = some (.tup (rs.map rv)) ∧ RowsR high wide rs ∧ H l = some (.lst xs) ∧ Shs H xs ss ∧ (∀ s ∈ ss, Good high w2 s) ∧ ss.length ≤ 100 ∧ ∀ H', Same H H' → Q (.bl (decide (rs ∈ ss.map (·.rs)))) H'
theorem lt1 (a b : Nat) : decide ([a] < [b]) = decide (a < b) := by
  apply Bool.eq_iff_iff.mpr
  rw [decide_eq_true_iff, decide_eq_true_iff]
  exact List.cons_lt_cons_iff.trans (by simp)
theorem rowDots_ne {r : Nat} {l : List Nat} (h : 35 ∈ l) : rowDots r l ≠ [] := by
  obtain ⟨j, hj⟩ := List.mem_iff_getElem?.mp h
  intro e
  have hm : (35, j) ∈ l.zipIdx := List.mk_mem_zipIdx_iff_getElem?.mpr hj
  have : (r, j) ∈ rowDots r l := List.mem_map.mpr ⟨(35, j), List.mem_filter.mpr ⟨hm, by simp⟩, rfl⟩
  rw [e] at this
  cases this
theorem dotsP_pos {rs : List (List Nat)} (h : ∃ l ∈ rs, 35 ∈ l) : 0 < (dotsP rs).length := by
  obtain ⟨l, hl, hd⟩ := h
  obtain ⟨i, hi⟩ := List.mem_iff_getElem?.mp hl
  refine List.length_pos_iff.mpr fun e => ?_
  have hm : (l, i) ∈ rs.zipIdx := List.mk_mem_zipIdx_iff_getElem?.mpr hi
  unfold dotsP at e
  have := List.flatten_eq_nil_iff.mp e (rowDots i l) (List.mem_map.mpr ⟨(l, i), hm, rfl⟩)
  exact rowDots_ne hd this
section
variable {P : Program} {w : World} {K : PySem.W.Frag} {mg : Str → Option Value} {base : Heap} {C CA : Addr}
theorem ok_sg {f : Addr} {fd : FuncData} {k : Nat} (F : Fun K "is_sign" "is_sign" sSg f fd) (T : Tx mg) (GT : Pm P w K mg base CX0 (k + 1) "is_text" ["thing"] (spIsText K)) : FnOk P w K mg base CX0 (k + 2) f fd ["thing"] spSg := by
  obtain ⟨fT, fdT, GT, mT, kT, bT⟩ := GT.ex
  refine F.ok scSg (fun vs H Q E h => ?_) (fun cdv A outer s H vs Q E hr h => ?_)
  · obtain ⟨c, rfl, _⟩ := h
    rfl
  · obtain ⟨c, rfl, c0, c1, q⟩ := h
    refine ⟨_, pss_one (ps_ret (pe_and (pe_call GT hr (by rfl) mT kT bT .nil pass0 (pa_cons (pv 0) pa_nil)) (pe_and (pe_cmpR op_eq (pe_callB call_len_str (by rfl) T.len PySem.boot_len (pa_cons (pv 0) pa_nil)) pe_int (nomark _)) (pe_one (pe_chain op_le_str op_le_str pe_str (pv 0) pe_str))))), ?_⟩
    refine ⟨ch c, rfl, ch c, rfl, kn_str2 (by show 1 ≤ sizeLine; decide), _, rfl, iteT ⟨ch c, rfl, ⟨#[c]⟩, rfl, (by show 1 ≤ sizeLine; decide), rfl, _, rfl, iteT ?_⟩⟩
    have e1 : ("!" : Str) = S [33] := by decide +kernel
    have e2 : ("~" : Str) = S [126] := by decide +kernel
    refine ⟨ch c, rfl, "!", ⟨#[c]⟩, rfl, rfl, _, rfl, ?_⟩
    have t1 : (!decide ((⟨#[c]⟩ : Str).cps.toList < ("!" : Str).cps.toList)) = true := by
      rw [e1]
      show (!decide ([c] < [33])) = true
      rw [lt1, decide_eq_false (by omega)]
      rfl
    have t2 : (!decide (("~" : Str).cps.toList < (⟨#[c]⟩ : Str).cps.toList)) = true := by
      rw [e2]
      show (!decide ([126] < [c])) = true
      rw [lt1, decide_eq_false (by omega)]
      rfl
    refine iteY t1 ⟨⟨#[c]⟩, "~", rfl, rfl, ?_⟩
    rw [t2]
    exact q
theorem ok_is {f : Addr} {fd : FuncData} {k : Nat} (F : Fun K "_is_shape" "_is_shape" sIS f fd) (T : Tx mg) (mw : ∃ t, mg "MOST_WIDE" = some (.int 8 t)) (GU : Pm P w K mg base CX0 (k + 1) "is_tuple" ["thing", "many"] (spIsTup K)) (GG : Pm P w K mg base CX0 (k + 1) "is_sign" ["thing"] spSg)
    (GI : Pm P w K mg base CX0 (k + 1) "is_picture" ["thing"] (spIsPic K)) (GZ : GS P w K mg base C (k + 1)) (GD : Pm P w K mg base (L2.CX P w) (k + 1) "dots" ["picture"] (spDots K)) : FnOk P w K mg base CX0 (k + 2) f fd ["thing", "high"] spIS := by
  obtain ⟨fU, fdU, GU, mU, kU, bU⟩ := GU.ex
  obtain ⟨fG, fdG, GG, mG, kG, bG⟩ := GG.ex
  obtain ⟨fI, fdI, GI, mI, kI, bI⟩ := GI.ex
  obtain ⟨fZ, fdZ, GZ, mZ, kZ, bZ⟩ := GZ.ex
  obtain ⟨fD, fdD, GD, mD, kD, bD⟩ := GD.ex
  obtain ⟨tw, hmw⟩ := mw
  refine F.ok scIS (fun vs H Q E h => ?_) (fun cdv A outer s H vs Q E hr h => ?_)
  · obtain ⟨x, high, s, rfl, _⟩ := h
    rfl
  · obtain ⟨x, high, sh, rfl, ha, g, q⟩ := h
    have nd := scIS.nd
    refine ⟨_, pss_cons (ps_if (PW.pt (pw_or (pt_not (pt_val (pe_call GU hr (by rfl) mU kU bU .nil pass0 (pa_cons (pv 0) (pa_cons pe_int pa_nil))))) (pw_or (pt_not (pt_val (pe_call GG hr (by rfl) mG kG bG .nil pass0 (pa_cons (pe_ix (r := rIxT K) ix_tup (pv 0) pe_int (fun _ _ => rfl)) pa_nil)))) (pw_or1 (pt_not (pt_val (pe_call GI hr (by rfl) mI kI bI .nil pass0 (pa_cons (pe_ix (r := rIxT K) ix_tup (pv 0) pe_int (fun _ _ => rfl)) pa_nil))))))))
        (pss_one (ps_ret pe_bl)) pss_nil)
      (pss_cons (ps_asg (pe_call GZ hr (by rfl) mZ kZ bZ .nil passX0 (pa_cons (pe_ix (r := rIxT K) ix_tup (pv 0) pe_int (fun _ _ => rfl)) pa_nil)) (pg_tup rfl (pgs_cons (pg_name (i := 2) nd rfl (Or.inl rfl)) (pgs_cons (pg_name (i := 3) nd rfl (Or.inl rfl)) pgs_nil))))
      (pss_one (ps_ret (pe_and (pe_cmpR op_eq (pv 2) (pv 1) (nomark _)) (pe_and (pe_cmpR op_le (pv 3) (pe_glob (v := .int 8) (by rfl) hmw ⟨_, rfl⟩) (nomark _)) (pe_one (pe_cmpR op_gt (pe_callB call_len_seq (by rfl) T.len PySem.boot_len (pa_cons (pe_call GD hr (by rfl) mD kD bD .nil passX0 (pa_cons (pe_ix (r := rIxT K) ix_tup (pv 0) pe_int (fun _ _ => rfl)) pa_nil)) pa_nil)) pe_int (nomark _)))))))), ?_⟩
    obtain ⟨t, p, rfl, ht, hp⟩ := id ha
    refine ⟨.ref t, rfl, .ref t, 2, rfl, .inr ⟨t, _, rfl, SqT.of ht, _, rfl, iteF ?_⟩⟩
    refine ⟨.ref t, rfl, t, _, 0, ch sh.sg, rfl, rfl, SqT.of ht, rfl, sh.sg, rfl, g.s0, g.s1, _, rfl, iteF ?_⟩
    refine ⟨.ref t, rfl, t, _, 1, .ref p, rfl, rfl, SqT.of ht, rfl, .ref p, true, rfl, askPic g.pic hp, fun H1 s1 => ⟨_, rfl, iteF ?_⟩⟩
    have pz := picSize g.pic
    refine ⟨.ref t, rfl, t, _, 1, .ref p, rfl, rfl, SqT.of (s1 _ _ ht), rfl, .ref p, rfl, .inr ⟨p, _, rfl, SqT.of (s1 _ _ hp), kn_rows g.pic, picOk_pic g.pic, fun p3 H3 s3 n3 h3 => ?_⟩⟩
    rw [pz.1, pz.2] at h3
    have s13 := s1.trans s3
    refine ⟨p3, _, rfl, SqT.of h3, rfl, _, _, rfl, _, _, rfl, rfl, .int high, rfl, .int high, rfl, rfl, _, rfl, ?_⟩
    rw [decide_eq_true rfl]
    refine iteT ⟨.int sh.w, rfl, sh.w, 8, rfl, rfl, _, rfl, iteY (decide_eq_true (by have := g.w8; omega)) ?_⟩
    refine ⟨.ref t, rfl, t, _, 1, .ref p, rfl, rfl, SqT.of (s13 _ _ ht), rfl, p, high, sh.w, sh.rs, rfl, s13 _ _ hp, g.pic, fun D xs H4 s4 nD hD pl lx => ?_⟩
    have l0 : 0 < xs.length := by
      rw [pl.len]
      exact dotsP_pos g.dot
    refine ⟨D, xs, rfl, .inl (SqL.of hD), (xs.length : Int), 0, rfl, rfl, ?_⟩
    have e : (decide ((0 : Int) < (xs.length : Int))) = true := decide_eq_true (by omega)
    show Q (.bl (decide ((0 : Int) < (xs.length : Int)))) H4
    rw [e]
    exact q H4 (s13.trans s4)
theorem ok_ipo {f : Addr} {fd : FuncData} {k : Nat} (F : Fun K "_is_picture_of" "_is_picture_of" sIPO f fd) (an : mg "any" = none) : FnOk P w K mg base CX0 (k + 1) f fd ["picture", "shapes"] spIPO := by
  refine F.ok scIPO (fun vs H Q E h => ?_) (fun cdv A outer s H vs Q E hr h => ?_)
  · obtain ⟨a, l, _, _, _, _, _, _, rfl, _⟩ := h
    rfl
  · obtain ⟨a, l, high, wide, w2, rs, xs, ss, rfl, ha, R, hl, Ss, Gs, ls, q⟩ := h
    have nd := scIPO.nd
    refine ⟨_, pss_one (ps_ret (pe_callB (cr_any rfl) (by rfl) an (by decide +kernel) (pa_cons (pe_lc (own := [("shape", 2)]) (g := gName 2) (tt := tYes) rfl nd (pi_list (pv 1)) (blkOk_by (N := ["picture", "shapes", "shape"]) (sc := defScope sIPO) (by decide +kernel)) (fun _ _ _ _ _ => pg_name (i := 2) nd rfl (Or.inl rfl)) (fun _ _ _ _ _ => pts_nil)
        (fun _ _ _ _ _ => pe_cmpR (op_eqDK (K := K) rfl hr.units) (pv 0) (pe_ix (r := rIxT K) ix_tup (pv 2) pe_int (fun _ _ => rfl)) (nomark _))) pa_nil))), ?_⟩
    refine ⟨.ref l, rfl, l, rfl, ⟨_, SqL.of hl⟩, fun D hD => lc_list (K := K) (a := l) (xs := xs) (fun j H2 => Same H H2 ∧ H2 D = some (.lst (((ss.take j).map fun s => decide (rs = s.rs)).map V.bl))) ⟨same_upd hD, upd_same⟩ (fun j H2 _ z => SqL.of (z.1 _ _ hl)) ?_ ?_⟩
    · rintro j x H2 hj ⟨sm, h2⟩
      have hj' : j < ss.length := by
        rw [← Ss.len]
        exact (List.getElem?_eq_some_iff.mp hj).1
      have es : ss[j]? = some ss[j] := List.getElem?_eq_getElem hj'
      generalize ss[j] = s2 at es
      obtain ⟨t2, p2, rfl, ht2, hp2⟩ := Ss.at_ j x s2 hj es
      have g2 := Gs s2 (List.mem_of_getElem? es)
      refine ⟨rfl, .ref a, rfl, .ref t2, rfl, t2, _, 1, .ref p2, rfl, rfl, SqT.of (sm _ _ ht2), rfl, .tuple (rs.map rD), .tuple (s2.rs.map rD), .tup (SqT.of (sm _ _ ha)) (dp_rows _), .tup (SqT.of (sm _ _ hp2)) (dp_rows _), shaped_rows R, shaped_rows g2.pic.rows, ?_⟩
      rw [eqv_pics]
      refine ⟨_, h2, ?_, same_over sm hD, ?_⟩
      · rw [List.length_map, List.length_map, List.length_take]
        exact small1000 (by omega)
      · rw [upd_same, take_snoc es, List.map_append, List.map_append]
        rfl
    · rintro H2 ⟨sm, h2⟩
      rw [Ss.len, List.take_length] at h2
      refine ⟨D, _, rfl, SqL.of h2, ?_⟩
      have e : ((ss.map fun s => decide (rs = s.rs)).any id) = decide (rs ∈ ss.map (·.rs)) := by
        apply Bool.eq_iff_iff.mpr
        rw [decide_eq_true_iff, List.any_eq_true]
        constructor
        · rintro ⟨b, hb, e⟩
          obtain ⟨s, hs, rfl⟩ := List.mem_map.mp hb
          have : rs = s.rs := of_decide_eq_true e
          exact List.mem_map.mpr ⟨s, hs, this.symm⟩
        · intro h
          obtain ⟨s, hs, e⟩ := List.mem_map.mp h
          exact ⟨_, List.mem_map.mpr ⟨s, hs, rfl⟩, decide_eq_true e.symm⟩
      rw [e]
      exact q H2 sm
end
end Dt
namespace L2X
open PySem PySem.Spec PyProof.Rows L2
theorem for_enumG {K : PySem.W.Frag} {A : Src} {xs : List V} {g : TG} {tb : TS} {D : Ends} {σ : L2.St} {H : Hp} (Pv : Nat → L2.St → Hp → Prop) (h0 : Pv 0 σ H) (hl : ∀ i σ H, i ≤ xs.length → Pv i σ H → A.has K H xs)
    (hs : ∀ i x σ H T, xs[i]? = some x → Pv i σ H → H T = none → g (.ref T) σ (upd H T (.tup [.int (i : Nat), x])) fun σ2 H2 => tb { D with nx := Pv (i + 1), ct := Pv (i + 1), bk := D.nx } σ2 H2) (hd : ∀ σ H, Pv xs.length σ H → D.nx σ H) :
    ∃ W : Nat → Nat → L2.St → Hp → Prop, (∃ m, W 0 m σ H) ∧ ∀ i m σ H, W i m σ H →
      ((IteG K A).stop i H ∧ D.nx σ H) ∨ ((IteG K A).go i H ∧ ∃ N : L2.St → Hp → Prop, (∀ σ' H', N σ' H' → ∃ m', m' < m ∧ W (i + 1) m' σ' H') ∧ ∀ x H', (IteG K A).yld i H x H' → g x σ H' fun σ2 H2 => tb { D with nx := N, ct := N, bk := D.nx } σ2 H2) := by
  refine ⟨fun i m σ H => m = xs.length - i ∧ i ≤ xs.length ∧ Pv i σ H, ⟨xs.length, by simp, Nat.zero_le _, h0⟩, ?_⟩
  rintro i m σ H ⟨rfl, hi, p⟩
  have qx := hl i σ H hi p
  by_cases hlt : i < xs.length
  · have ex : xs[i]? = some xs[i] := List.getElem?_eq_getElem hlt
    refine .inr ⟨⟨xs, _, qx, ex⟩, Pv (i + 1), fun σ' H' p' => ⟨xs.length - (i + 1), by omega, rfl, hlt, p'⟩, fun x H' y => ?_⟩
    obtain ⟨T, u, rfl, nT, rfl, z1⟩ := y
    exact hs i u σ H T (z1 xs qx) p nT
  · have e : i = xs.length := by omega
    subst e
    exact .inl ⟨⟨xs, qx, rfl⟩, hd σ H p⟩
theorem for_zipG {K : PySem.W.Frag} {A B : Src} {xs ys : List V} {g : TG} {tb : TS} {D : Ends} {σ : L2.St} {H : Hp} (hn : xs.length = ys.length) (Pv : Nat → L2.St → Hp → Prop) (h0 : Pv 0 σ H) (hl : ∀ i σ H, i ≤ xs.length → Pv i σ H → A.has K H xs ∧ B.has K H ys)
    (hs : ∀ i x y σ H T, xs[i]? = some x → ys[i]? = some y → Pv i σ H → H T = none → g (.ref T) σ (upd H T (.tup [x, y])) fun σ2 H2 => tb { D with nx := Pv (i + 1), ct := Pv (i + 1), bk := D.nx } σ2 H2) (hd : ∀ σ H, Pv xs.length σ H → D.nx σ H) :
    ∃ W : Nat → Nat → L2.St → Hp → Prop, (∃ m, W 0 m σ H) ∧ ∀ i m σ H, W i m σ H →
      ((ItzG K A B).stop i H ∧ D.nx σ H) ∨ ((ItzG K A B).go i H ∧ ∃ N : L2.St → Hp → Prop, (∀ σ' H', N σ' H' → ∃ m', m' < m ∧ W (i + 1) m' σ' H') ∧ ∀ x H', (ItzG K A B).yld i H x H' → g x σ H' fun σ2 H2 => tb { D with nx := N, ct := N, bk := D.nx } σ2 H2) := by
  refine ⟨fun i m σ H => m = xs.length - i ∧ i ≤ xs.length ∧ Pv i σ H, ⟨xs.length, by simp, Nat.zero_le _, h0⟩, ?_⟩
  rintro i m σ H ⟨rfl, hi, p⟩
  obtain ⟨qx, qy⟩ := hl i σ H hi p
  by_cases hlt : i < xs.length
  · have hlt2 : i < ys.length := by omega
    have ex : xs[i]? = some xs[i] := List.getElem?_eq_getElem hlt
    have ey : ys[i]? = some ys[i] := List.getElem?_eq_getElem hlt2
    refine .inr ⟨⟨xs, ys, _, _, qx, qy, ex, ey⟩, Pv (i + 1), fun σ' H' p' => ⟨xs.length - (i + 1), by omega, rfl, hlt, p'⟩, fun x H' y => ?_⟩
    obtain ⟨T, u, v, rfl, nT, rfl, z1, z2⟩ := y
    exact hs i u v σ H T (z1 xs qx) (z2 ys qy) p nT
  · have e : i = xs.length := by omega
    subst e
    exact .inl ⟨⟨xs, ys, qx, qy, .inl ⟨rfl, by omega⟩⟩, hd σ H p⟩
end L2X
namespace Dt
open PySem PySem.Spec PyProof.Rows L2 L2X
open SX (S)
abbrev sAI : Stmt := inClass cAl 0
abbrev sAH : Stmt := inClass cAl 1
abbrev sAS : Stmt := inClass cAl 2
abbrev sAW : Stmt := inClass cAl 4
abbrev sAN : Stmt := inClass cAl 7
theorem scAI : FnScope ["self", "high", "shapes", "at", "shape"] ["self", "high", "shapes"] (defScope sAI) := ⟨rfl, rfl, rfl, by decide +kernel, rfl, by decide +kernel, by decide +kernel⟩
theorem scAH : FnScope ["self"] ["self"] (defScope sAH) := ⟨rfl, rfl, rfl, by decide +kernel, rfl, by decide +kernel, by decide +kernel⟩
theorem scAS : FnScope ["self"] ["self"] (defScope sAS) := ⟨rfl, rfl, rfl, by decide +kernel, rfl, by decide +kernel, by decide +kernel⟩
theorem scAW : FnScope ["self", "number"] ["self", "number"] (defScope sAW) := ⟨rfl, rfl, rfl, by decide +kernel, rfl, by decide +kernel, by decide +kernel⟩
theorem scAN : FnScope ["self", "number"] ["self", "number"] (defScope sAN) := ⟨rfl, rfl, rfl, by decide +kernel, rfl, by decide +kernel, by decide +kernel⟩
def spAI (C : Addr) : Sp := fun vs H Q _ => ∃ (p dx l : Addr) (high : Nat) (xs : List V) (ss : List Sh), vs = [.ref p, .int high, .ref l] ∧ H p = some (.ins C dx []) ∧ 1 ≤ high ∧ high ≤ 9 ∧ H l = some (.lst xs) ∧ Shs H xs ss ∧ Goods high 8 ss ∧ 0 < ss.length ∧ ss.length ≤ 16 ∧
  ∀ H', AlpAt C H' p high ss → (∀ b o, H b = some o → b ≠ p → H' b = some o) → Q .non H'
def spAH (C : Addr) : Sp := fun vs H Q _ => ∃ (o : Addr) (high : Nat) (ss : List Sh), vs = [.ref o] ∧ AlpAt C H o high ss ∧ Q (.int high) H
def spAS (C : Addr) : Sp := fun vs H Q _ => ∃ (o : Addr) (high : Nat) (ss : List Sh), vs = [.ref o] ∧ AlpAt C H o high ss ∧ ∀ (l : Addr) (xs : List V) (H' : Hp), Same H H' → H l = none → H' l = some (.lst xs) → Shs H' xs ss → Q (.ref l) H'
def spAN (C : Addr) : Sp := fun vs H Q _ => ∃ (o : Addr) (high i : Nat) (ss : List Sh), vs = [.ref o, .int i] ∧ AlpAt C H o high ss ∧ i < ss.length ∧ ∀ H', Same H H' → Q .non H'
def spAW (C : Addr) : Sp := fun vs H Q _ => ∃ (o : Addr) (high i : Nat) (ss : List Sh) (s : Sh), vs = [.ref o, .int i] ∧ AlpAt C H o high ss ∧ ss[i]? = some s ∧ PicR high s.w s.rs ∧ ∀ H', Same H H' → Q (.int s.w) H'
section
variable {P : Program} {w : World} {K : PySem.W.Frag} {mg : Str → Option Value} {base : Heap} {C CA : Addr}
theorem ok_ai {f : Addr} {fd : FuncData} {k : Nat} (F : Fun K "__init__" "Alphabet.__init__" sAI f fd) (T : Tx mg) (TA : Tal K mg CA) (en : mg "enumerate" = none) (mh : ∃ t, mg "MOST_HIGH" = some (.int 9 t)) (ms : ∃ t, mg "MOST_SHAPES" = some (.int 16 t))
    (GB : Pm P w K mg base CX0 (k + 1) "is_between" ["thing", "least", "most"] (spBetw K)) (GL : Pm P w K mg base CX0 (k + 1) "is_list" ["thing"] (spIsList K)) (GS : Pm P w K mg base CX0 (k + 1) "_is_shape" ["thing", "high"] spIS) (GO : Pm P w K mg base CX0 (k + 1) "_is_picture_of" ["picture", "shapes"] spIPO) :
    FnOk P w K mg base CX0 (k + 2) f fd ["self", "high", "shapes"] (spAI CA) := by
  obtain ⟨fB, fdB, GB, mB, kB, bB⟩ := GB.ex
  obtain ⟨fL, fdL, GL, mL, kL, bL⟩ := GL.ex
  obtain ⟨fS, fdS, GS, mS, kS, bS⟩ := GS.ex
  obtain ⟨fO, fdO, GO, mO, kO, bO⟩ := GO.ex
  obtain ⟨th, hmh⟩ := mh
  obtain ⟨ts, hms⟩ := ms
  refine F.ok scAI (fun vs H Q E h => ?_) (fun cdv A outer s H vs Q E hr h => ?_)
  · obtain ⟨p, dx, l, high, xs, ss, rfl, _⟩ := h
    rfl
  · obtain ⟨p, dx, l, high, xs, ss, rfl, hp, h0, h1, hl, Ss, Gs, l0, l1, q⟩ := h
    have nd := scAI.nd
    refine ⟨_, pss_cons (ps_if (pt_not (pt_val (pe_call GB hr (by rfl) mB kB bB .nil pass0 (pa_cons (pv 1) (pa_cons pe_int (pa_cons (pe_glob (v := .int 9) (by rfl) hmh ⟨_, rfl⟩) pa_nil)))))) pss_never pss_nil)
      (pss_cons (ps_if (PW.pt (pw_or (pt_not (pt_val (pe_call GL hr (by rfl) mL kL bL .nil pass0 (pa_cons (pv 2) pa_nil)))) (pw_or1 (pt_cmpR op_eq (pe_callB call_len_seq (by rfl) T.len PySem.boot_len (pa_cons (pv 2) pa_nil)) pe_int (nomark _))))) pss_never pss_nil)
      (pss_cons (ps_for PassesOwn.never rfl (pi_enumG (by rfl) en (pa_cons (pv 2) pa_nil)) (pg_tup rfl (pgs_cons (pg_name (i := 3) nd rfl (Or.inl rfl)) (pgs_cons (pg_name (i := 4) nd rfl (Or.inl rfl)) pgs_nil)))
        (pss_one (ps_if (PW.pt (pw_or (pt_cmpR op_eq (pv 3) (pe_glob (v := .int 16) (by rfl) hms ⟨_, rfl⟩) (nomark _)) (pw_or (pt_not (pt_val (pe_call GS hr (by rfl) mS kS bS .nil pass0 (pa_cons (pv 4) (pa_cons (pv 1) pa_nil))))) (pw_or1 (pt_val (pe_call GO hr (by rfl) mO kO bO .nil pass0 (pa_cons (pe_ix (r := rIxT K) ix_tup (pv 4) pe_int (fun _ _ => rfl)) (pa_cons (pe_slice sl_list (pv 2) po_none (po_some (pv 3))) pa_nil)))))))) pss_never pss_nil)))
      (pss_cons (ps_fld (pv 0) (pv 1) rfl)
      (pss_one (ps_fld (pv 0) (pe_callTy call_tuple_of (by rfl) T.tuple (by decide +kernel) (pa_cons (pv 2) pa_nil)) rfl))))), ?_⟩
    refine ⟨.int high, rfl, .int high, 1, 9, rfl, kt_int _, _, rfl, ?_⟩
    have eb : betw (.int high) 1 9 = true := by
      rw [betw_int, decide_eq_true (by omega), decide_eq_true (by omega)]
      rfl
    rw [eb]
    refine iteF ⟨.ref l, rfl, .ref l, "list", rfl, .lst (SqL.of hl), rfl, fun H1 s1 => ⟨_, rfl, iteF ?_⟩⟩
    have lx : xs.length = ss.length := Ss.len
    refine ⟨.ref l, rfl, l, xs, rfl, .inl (SqL.of (s1 _ _ hl)), rfl, _, rfl, ?_⟩
    have e0 : decide (V.int (xs.length : Int) = V.int 0) = false := decide_eq_false fun e => by
      have := V.int.inj e
      omega
    rw [e0]
    refine iteF ⟨.ref l, rfl, .lst l, xs, rfl, SqL.of (s1 _ _ hl), for_enumG (K := K) (A := .lst l) (xs := xs) (fun i σ H2 => ∃ y3 y4, σ = [some (.ref p), some (.int high), some (.ref l), y3, y4] ∧ Same H H2) ⟨none, none, rfl, s1⟩ (fun i σ H2 _ z => by
      obtain ⟨_, _, _, sm⟩ := z
      exact SqL.of (sm _ _ hl)) ?_ ?_⟩
    · rintro i x σ H2 T' hx ⟨y3, y4, rfl, sm⟩ hT
      have hi : i < ss.length := by
        rw [← lx]
        exact (List.getElem?_eq_some_iff.mp hx).1
      have es : ss[i]? = some ss[i] := List.getElem?_eq_getElem hi
      have gi := Gs.all ss[i] (List.getElem_mem hi)
      have sT := same_upd (o := .tup [V.int (i : Nat), x]) hT
      have s2 := sm.trans sT
      have shi := (Ss.same s2).at_ i x _ hx es
      refine ⟨T', _, rfl, SqT.of upd_same, rfl, _, _, rfl, _, _, rfl, rfl, ?_⟩
      refine ⟨.int i, rfl, rfl, _, rfl, ?_⟩
      have e16 : decide (V.int (i : Int) = V.int 16) = false := decide_eq_false fun e => by
        have := V.int.inj e
        omega
      rw [e16]
      refine iteF ⟨x, rfl, .int high, rfl, x, high, ss[i], rfl, shi, gi, fun H3 s3 => ⟨_, rfl, iteF ?_⟩⟩
      obtain ⟨t, p2, rfl, ht, hp2⟩ := shi
      have s23 := s2.trans s3
      refine ⟨.ref t, rfl, t, _, 1, .ref p2, rfl, rfl, SqT.of (s3 _ _ ht), rfl, .ref l, rfl, .int i, rfl, i, rfl, l, xs, rfl, SqL.of (s23 _ _ hl), fun l2 hl2 => ?_⟩
      have s4 := same_upd (o := .lst (cutV xs none (some (i : Int)))) hl2
      have ecut : cutV xs none (some (i : Int)) = xs.take i := by
        unfold cutV
        rw [HT.sIx_nat]
        show (xs.drop 0).take (min i xs.length - 0) = _
        rw [List.drop_zero, Nat.sub_zero, Nat.min_eq_left (by omega)]
      have s234 := s23.trans s4
      have hsub : Shs (upd H3 l2 (.lst (cutV xs none (some (i : Int))))) (xs.take i) (ss.take i) := by
        have S4 := Ss.same s234
        refine ⟨by rw [List.length_take, List.length_take, S4.len], fun j y s' hy hs => ?_⟩
        rw [List.getElem?_take] at hy hs
        split at hy
        · rename_i hlt
          rw [if_pos hlt] at hs
          exact S4.at_ j y s' hy hs
        · cases hy
      refine ⟨p2, l2, high, ss[i].w, 8, ss[i].rs, xs.take i, ss.take i, rfl, s4 _ _ (s3 _ _ hp2), gi.pic.rows, by rw [upd_same, ecut], hsub, fun s' hs => Gs.all s' (List.mem_of_mem_take hs), ?_, fun H5 s5 => ⟨_, rfl, ?_⟩⟩
      · rw [List.length_take]
        omega
      have e5 : decide (ss[i].rs ∈ (ss.take i).map (·.rs)) = false := by
        refine decide_eq_false fun hm => ?_
        have hnd := Gs.nd
        rw [List.map_take] at hm
        obtain ⟨j, hj⟩ := List.mem_iff_getElem?.mp hm
        rw [List.getElem?_take] at hj
        split at hj
        · rename_i hlt
          have hi2 : (ss.map (·.rs))[i]? = some ss[i].rs := by rw [List.getElem?_map, es]; rfl
          obtain ⟨q1, q2⟩ := List.getElem?_eq_some_iff.mp hj
          obtain ⟨q3, q4⟩ := List.getElem?_eq_some_iff.mp hi2
          have := (List.getElem_inj hnd).mp (q2.trans q4.symm)
          omega
        · cases hj
      rw [e5]
      exact iteF ⟨_, _, rfl, s234.trans s5⟩
    · rintro σ H2 ⟨y3, y4, rfl, sm⟩
      have hp2 := sm _ _ hp
      refine ⟨.int high, rfl, .ref p, rfl, p, CA, dx, [], rfl, hp2, TA.cl, TA.nH, (by show 0 < 1000; decide), ?_⟩
      have npl : l ≠ p := ne_of hl hp (by intro z; cases z)
      have hl2 : (upd H2 p (.ins CA dx (putF "_high" (.int high) []))) l = some (.lst xs) := by
        rw [upd_ne npl]
        exact sm _ _ hl
      refine ⟨.ref l, rfl, l, xs, rfl, .inl ⟨SqL.of hl2, fun z hz => ⟨.ref p, rfl, p, CA, dx, putF "_high" (.int high) [], rfl, ?_, TA.cl, TA.nS, (by show 1 < 1000; decide), ?_⟩⟩⟩
      · rw [upd_ne (ne_of_none upd_same hz)]
        exact upd_same
      have nzp : z ≠ p := (ne_of_none upd_same hz).symm
      refine q _ ⟨dx, z, xs, upd_same, by rw [upd_ne nzp]; exact upd_same, Ss.len, fun i x s' hx hs => ?_⟩ fun b o e hb => ?_
      · obtain ⟨t, p2, rfl, ht, hp2'⟩ := Ss.at_ i x s' hx hs
        have put : ∀ (b : Addr) (ys : List V), H b = some (.tup ys) → (upd (upd (upd H2 p (.ins CA dx (putF "_high" (.int high) []))) z (.tup xs)) p (.ins CA dx (aF high z))) b = some (.tup ys) := fun b ys hb => by
          have n1 : b ≠ p := ne_of hb hp (by intro z; cases z)
          have n2 : (upd H2 p (.ins CA dx (putF "_high" (.int high) []))) b = some (.tup ys) := by
            rw [upd_ne n1]
            exact sm _ _ hb
          rw [upd_ne n1, upd_ne (ne_of_none n2 hz)]
          exact n2
        exact ⟨t, p2, rfl, put _ _ ht, put _ _ hp2'⟩
      · have n2 : (upd H2 p (.ins CA dx (putF "_high" (.int high) []))) b = some o := by
          rw [upd_ne hb]
          exact sm _ _ e
        rw [upd_ne hb, upd_ne (ne_of_none n2 hz)]
        exact n2
theorem ok_ah {f : Addr} {fd : FuncData} {k : Nat} (F : Fun K "high" "Alphabet.high" sAH f fd) (TA : Tal K mg CA) : FnOk P w K mg base CX0 (k + 1) f fd ["self"] (spAH CA) := by
  refine F.ok scAH (fun vs H Q E h => ?_) (fun cdv A outer s H vs Q E hr h => ?_)
  · obtain ⟨o, high, ss, rfl, _⟩ := h
    rfl
  · obtain ⟨o, high, ss, rfl, ⟨dx, t, xs, ho, ht, Ss⟩, q⟩ := h
    refine ⟨_, pss_one (ps_ret (pe_fld (pv 0) rfl)), ?_⟩
    exact ⟨.ref o, rfl, o, CA, dx, _, .int high, rfl, ho, TA.cl, TA.nH, aF_high _ _, q⟩
theorem ok_as {f : Addr} {fd : FuncData} {k : Nat} (F : Fun K "shapes" "Alphabet.shapes" sAS f fd) (T : Tx mg) (TA : Tal K mg CA) : FnOk P w K mg base CX0 (k + 1) f fd ["self"] (spAS CA) := by
  refine F.ok scAS (fun vs H Q E h => ?_) (fun cdv A outer s H vs Q E hr h => ?_)
  · obtain ⟨o, high, ss, rfl, _⟩ := h
    rfl
  · obtain ⟨o, high, ss, rfl, ⟨dx, t, xs, ho, ht, Ss⟩, q⟩ := h
    refine ⟨_, pss_one (ps_ret (pe_callTy call_list_of (by rfl) T.list (by decide +kernel) (pa_cons (pe_fld (pv 0) rfl) pa_nil))), ?_⟩
    refine ⟨.ref o, rfl, o, CA, dx, _, .ref t, rfl, ho, TA.cl, TA.nS, aF_shapes _ _, t, xs, rfl, .inr (SqT.of ht), fun l hl => ?_⟩
    have sl := same_upd (o := .lst xs) hl
    exact q l xs _ sl hl upd_same (Ss.same sl)
theorem ok_an {f : Addr} {fd : FuncData} {k : Nat} (F : Fun K "_want_number" "Alphabet._want_number" sAN f fd) (T : Tx mg) (TA : Tal K mg CA) (GB : Pm P w K mg base CX0 (k + 1) "is_between" ["thing", "least", "most"] (spBetw K)) : FnOk P w K mg base CX0 (k + 2) f fd ["self", "number"] (spAN CA) := by
  obtain ⟨fB, fdB, GB, mB, kB, bB⟩ := GB.ex
  refine F.ok scAN (fun vs H Q E h => ?_) (fun cdv A outer s H vs Q E hr h => ?_)
  · obtain ⟨o, high, i, ss, rfl, _⟩ := h
    rfl
  · obtain ⟨o, high, i, ss, rfl, ⟨dx, t, xs, ho, ht, Ss⟩, hi, q⟩ := h
    refine ⟨_, pss_one (ps_if (pt_not (pt_val (pe_call GB hr (by rfl) mB kB bB .nil pass0 (pa_cons (pv 1) (pa_cons pe_int (pa_cons (pe_op op_sub (pe_callB call_len_seq (by rfl) T.len PySem.boot_len (pa_cons (pe_fld (pv 0) rfl) pa_nil)) pe_int) pa_nil)))))) pss_never pss_nil), ?_⟩
    have lx := Ss.len
    refine ⟨.int i, rfl, .ref o, rfl, o, CA, dx, _, .ref t, rfl, ho, TA.cl, TA.nS, aF_shapes _ _, t, xs, rfl, .inr (SqT.of ht), _, 1, rfl, rfl, .int i, 0, _, rfl, kt_int _, _, rfl, ?_⟩
    have eb : betw (.int i) 0 ((xs.length : Int) - 1) = true := by
      rw [betw_int, decide_eq_true (by omega), decide_eq_true (by omega)]
      rfl
    rw [eb]
    exact iteF (q H (Same.refl H))
theorem ok_aw {f : Addr} {fd : FuncData} {k : Nat} (F : Fun K "wide" "Alphabet.wide" sAW f fd) (TA : Tal K mg CA) (GZ : GS P w K mg base C (k + 1)) (GM : Mm P w K mg base (k + 1) CA "_want_number" ["self", "number"] (spAN CA)) : FnOk P w K mg base CX0 (k + 2) f fd ["self", "number"] (spAW CA) := by
  obtain ⟨fM, fdM, GM, mM, bM⟩ := GM.ex
  obtain ⟨fZ, fdZ, GZ, mZ, kZ, bZ⟩ := GZ.ex
  refine F.ok scAW (fun vs H Q E h => ?_) (fun cdv A outer s H vs Q E hr h => ?_)
  · obtain ⟨o, high, i, ss, s, rfl, _⟩ := h
    rfl
  · obtain ⟨o, high, i, ss, sh, rfl, al, hi, pr, q⟩ := h
    refine ⟨_, pss_cons (ps_expr (pe_meth (pv 0) TA.cl mM GM hr bM .nil pass0 (pa_cons (pv 1) pa_nil)))
      (pss_one (ps_ret (pe_ix (r := rIxT K) ix_tup (pe_call GZ hr (by rfl) mZ kZ bZ .nil passX0 (pa_cons (pe_ix (r := rIxT K) ix_tup (pe_ix (r := rIxT K) ix_tup (pe_fld (pv 0) rfl) (pv 1) (fun _ _ => rfl)) pe_int (fun _ _ => rfl)) pa_nil)) pe_int (fun _ _ => rfl)))), ?_⟩
    obtain ⟨dx, t, xs, ho, ht, Ss⟩ := id al
    have hlt := (List.getElem?_eq_some_iff.mp hi).1
    have lx := Ss.len
    refine ⟨.ref o, rfl, o, dx, _, rfl, ho, aF_no _ _ (by decide +kernel) (by decide +kernel), .int i, rfl, o, high, i, ss, rfl, al, hlt, fun H1 s1 => ?_⟩
    have ex : xs[i]? = some (xs[i]'(by omega)) := List.getElem?_eq_getElem (by omega)
    obtain ⟨t2, p2, e2, ht2, hp2⟩ := Ss.at_ i _ sh ex hi
    rw [e2] at ex
    refine ⟨.ref o, rfl, o, CA, dx, _, .ref t, rfl, s1 _ _ ho, TA.cl, TA.nS, aF_shapes _ _, .int i, rfl, t, xs, i, .ref t2, rfl, rfl, SqT.of (s1 _ _ ht), atI_nat ex, t2, _, 1, .ref p2, rfl, rfl, SqT.of (s1 _ _ ht2), rfl, .ref p2, rfl, .inr ⟨p2, _, rfl, SqT.of (s1 _ _ hp2), kn_rows pr, picOk_pic pr, fun p3 H3 s3 n3 h3 => ?_⟩⟩
    have pz := picSize pr
    rw [pz.1, pz.2] at h3
    exact ⟨p3, _, 1, .int sh.w, rfl, rfl, SqT.of h3, rfl, q H3 (s1.trans s3)⟩
end
end Dt
namespace Dt
open PySem PySem.Spec PyProof.Rows L2 L2X
open SX (S)
/-! ### ways, and the words of a way -/
def wdt (ss : List Sh) (n : Nat) : Nat := match ss[n]? with
  | some s => s.w
  | none => 0
def sgt (ss : List Sh) (n : Nat) : Nat := match ss[n]? with
  | some s => s.sg
  | none => 0
theorem wdt_at {ss : List Sh} {n : Nat} {s : Sh} (h : ss[n]? = some s) : wdt ss n = s.w := by
  unfold wdt
  rw [h]
theorem sgt_at {ss : List Sh} {n : Nat} {s : Sh} (h : ss[n]? = some s) : sgt ss n = s.sg := by
  unfold sgt
  rw [h]
/-- where the windows ahead of the i-th end -/
def edge (ss : List Sh) (ws : List (Nat × Nat)) : Nat → Nat
  | 0 => 0
  | i + 1 => match ws[i]? with
    | some p => p.1 + wdt ss p.2
    | none => 0
theorem edge_at {ss : List Sh} {ws : List (Nat × Nat)} {i : Nat} {p : Nat × Nat} (h : ws[i]? = some p) : edge ss ws (i + 1) = p.1 + wdt ss p.2 := by
  show (match ws[i]? with | some p => p.1 + wdt ss p.2 | none => 0) = _
  rw [h]
def WayOk (ss : List Sh) (cols : Nat) (ws : List (Nat × Nat)) : Prop := ∀ (i : Nat) (p : Nat × Nat), ws[i]? = some p → p.2 < ss.length ∧ edge ss ws i ≤ p.1 ∧ p.1 + wdt ss p.2 ≤ cols
theorem WayOk.nil {ss : List Sh} {cols : Nat} : WayOk ss cols [] := fun i p h => nomatch h
theorem edge_app {ss : List Sh} {ws vs : List (Nat × Nat)} {i : Nat} (h : i ≤ ws.length) : edge ss (ws ++ vs) i = edge ss ws i := by
  cases i with
  | zero => rfl
  | succ i =>
    show (match (ws ++ vs)[i]? with | some p => p.1 + wdt ss p.2 | none => 0) = (match ws[i]? with | some p => p.1 + wdt ss p.2 | none => 0)
    rw [List.getElem?_append_left (by omega)]
theorem WayOk.snoc {ss : List Sh} {cols : Nat} {ws : List (Nat × Nat)} {p : Nat × Nat} (h : WayOk ss cols ws) (h1 : p.2 < ss.length) (h2 : edge ss ws ws.length ≤ p.1) (h3 : p.1 + wdt ss p.2 ≤ cols) : WayOk ss cols (ws ++ [p]) := by
  intro i q hq
  by_cases hi : i < ws.length
  · rw [List.getElem?_append_left hi] at hq
    rw [edge_app (by omega)]
    exact h i q hq
  · have hl := (List.getElem?_eq_some_iff.mp hq).1
    rw [List.length_append, List.length_singleton] at hl
    have e : i = ws.length := by omega
    subst e
    rw [List.getElem?_append_right (Nat.le_refl _), Nat.sub_self] at hq
    cases hq
    rw [edge_app (Nat.le_refl _)]
    exact ⟨h1, h2, h3⟩
theorem WayOk.le {ss : List Sh} {c d : Nat} {ws : List (Nat × Nat)} (h : WayOk ss c ws) (l : c ≤ d) : WayOk ss d ws := fun i p e => by
  obtain ⟨h1, h2, h3⟩ := h i p e
  exact ⟨h1, h2, by omega⟩
/-- a word begins at this window -/
def isSt (ss : List Sh) (ws : List (Nat × Nat)) (b : Int) (i : Nat) : Bool := (i == 0) || decide (b ≤ ((ws.getD i (0, 0)).1 : Int) - (edge ss ws i : Int))
theorem isSt0 {ss : List Sh} {ws : List (Nat × Nat)} {b : Int} : isSt ss ws b 0 = true := rfl
theorem isSt_at {ss : List Sh} {ws : List (Nat × Nat)} {b : Int} {i : Nat} {p q : Nat × Nat} (hp : ws[i]? = some p) (hq : ws[i + 1]? = some q) : isSt ss ws b (i + 1) = decide (b ≤ (q.1 : Int) - (p.1 : Int) - (wdt ss p.2 : Int)) := by
  unfold isSt
  rw [edge_at hp, List.getD_eq_getElem?_getD, hq]
  show (false || decide (b ≤ (q.1 : Int) - ((p.1 + wdt ss p.2 : Nat) : Int))) = _
  rw [Bool.false_or]
  congr 2
  omega
def fl (f : Nat → Bool) (k : Nat) : List Nat := (List.range k).filter f
def zz (f : Nat → Bool) (k : Nat) : List (Nat × Nat) := (fl f k).zip ((fl f k).drop 1 ++ [k])
theorem fl_yes {f : Nat → Bool} {k : Nat} (h : f k = true) : fl f (k + 1) = fl f k ++ [k] := by
  unfold fl
  rw [List.range_succ, List.filter_append, List.filter_cons, h]
  rfl
theorem fl_no {f : Nat → Bool} {k : Nat} (h : f k = false) : fl f (k + 1) = fl f k := by
  unfold fl
  rw [List.range_succ, List.filter_append, List.filter_cons, h]
  exact List.append_nil _
theorem fl_lt {f : Nat → Bool} {k i : Nat} (h : i ∈ fl f k) : i < k := List.mem_range.mp (List.mem_filter.mp h).1
theorem fl_len (f : Nat → Bool) (k : Nat) : (fl f k).length ≤ k := Nat.le_trans (List.length_filter_le _ _) (by rw [List.length_range]; exact Nat.le_refl k)
theorem zip_last {S : List Nat} {U : List Nat} {l x : Nat} (h : S = U ++ [l]) : S.zip (S.drop 1 ++ [x]) = U.zip (S.drop 1) ++ [(l, x)] := by
  subst h
  have : U.length = ((U ++ [l]).drop 1).length := by
    rw [List.length_drop, List.length_append, List.length_singleton]
    omega
  exact List.zip_append this
theorem zz_start {f : Nat → Bool} {k : Nat} (h : f k = true) : zz f (k + 1) = zz f k ++ [(k, k + 1)] := by
  unfold zz
  rw [fl_yes h, zip_last (S := fl f k ++ [k]) (U := fl f k) (l := k) rfl]
  congr 1
  cases fl f k with
  | nil => rfl
  | cons a r => rfl
theorem fl_ne {f : Nat → Bool} (h0 : f 0 = true) : ∀ k, 0 < k → ∃ U l, fl f k = U ++ [l] ∧ l < k
  | 0, h => absurd h (by decide)
  | k + 1, _ => by
    cases h : f k with
    | true => exact ⟨fl f k, k, fl_yes h, by omega⟩
    | false =>
      rw [fl_no h]
      rcases Nat.eq_zero_or_pos k with e | e
      · rw [e] at h
        rw [h0] at h
        cases h
      · obtain ⟨U, l, h1, h2⟩ := fl_ne h0 k e
        exact ⟨U, l, h1, by omega⟩
theorem zz_cont {f : Nat → Bool} {k : Nat} (h0 : f 0 = true) (hk : 0 < k) (h : f k = false) : ∃ T l, zz f k = T ++ [(l, k)] ∧ zz f (k + 1) = T ++ [(l, k + 1)] ∧ l < k := by
  obtain ⟨U, l, h1, h2⟩ := fl_ne h0 k hk
  refine ⟨U.zip ((fl f k).drop 1), l, zip_last h1, ?_, h2⟩
  unfold zz
  rw [fl_no h]
  exact zip_last h1
theorem zz_mem {f : Nat → Bool} (h0 : f 0 = true) : ∀ k, ∀ p ∈ zz f k, p.1 < p.2 ∧ p.2 ≤ k
  | 0 => fun p h => nomatch h
  | k + 1 => fun p h => by
    cases e : f k with
    | true =>
      rw [zz_start e] at h
      rcases List.mem_append.mp h with z | z
      · have := zz_mem h0 k p z
        exact ⟨this.1, by omega⟩
      · rw [List.mem_singleton.mp z]
        exact ⟨by show k < k + 1; omega, by show k + 1 ≤ k + 1; omega⟩
    | false =>
      rcases Nat.eq_zero_or_pos k with hk | hk
      · rw [hk, h0] at e
        cases e
      · obtain ⟨T, l, h1, h2, h3⟩ := zz_cont h0 hk e
        rw [h2] at h
        rcases List.mem_append.mp h with z | z
        · have := zz_mem h0 k p (by rw [h1]; exact List.mem_append_left _ z)
          exact ⟨this.1, by omega⟩
        · rw [List.mem_singleton.mp z]
          exact ⟨by show l < k + 1; omega, by show k + 1 ≤ k + 1; omega⟩
theorem zz_len {f : Nat → Bool} (k : Nat) : (zz f k).length ≤ k := by
  unfold zz
  rw [List.length_zip]
  exact Nat.le_trans (Nat.min_le_left _ _) (fl_len f k)
/-- the signs of the windows from a first one on -/
def seg (sg : List Nat) (a b : Nat) : List Nat := (sg.drop a).take (b - a)
theorem seg_snoc {sg : List Nat} {a k c : Nat} (h : a ≤ k) (hc : sg[k]? = some c) : seg sg a (k + 1) = seg sg a k ++ [c] := by
  unfold seg
  rw [show k + 1 - a = (k - a) + 1 by omega]
  exact take_snoc (by rw [List.getElem?_drop, show a + (k - a) = k by omega]; exact hc)
theorem seg_self (sg : List Nat) (k : Nat) : seg sg k k = [] := by
  unfold seg
  rw [Nat.sub_self, List.take_zero]
theorem seg_len (sg : List Nat) (a b : Nat) : (seg sg a b).length ≤ b - a := by
  unfold seg
  rw [List.length_take]
  exact Nat.min_le_left _ _
abbrev Wd : Type := List Nat × Nat × Nat
def wOf (sg : List Nat) (p : Nat × Nat) : Wd := (seg sg p.1 p.2, p.1, p.2)
def wz (sg : List Nat) (f : Nat → Bool) (k : Nat) : List Wd := (zz f k).map (wOf sg)
/-- the signs of a way -/
def sgs (ss : List Sh) (ws : List (Nat × Nat)) : List Nat := ws.map fun p => sgt ss p.2
theorem sgs_at {ss : List Sh} {ws : List (Nat × Nat)} {i : Nat} {p : Nat × Nat} (h : ws[i]? = some p) : (sgs ss ws)[i]? = some (sgt ss p.2) := by
  unfold sgs
  rw [List.getElem?_map, h]
  rfl
/-- the words of a way -/
def wds (ss : List Sh) (ws : List (Nat × Nat)) (b : Int) : List Wd := wz (sgs ss ws) (isSt ss ws b) ws.length
theorem wz_start {sg : List Nat} {f : Nat → Bool} {k c : Nat} (h : f k = true) (hc : sg[k]? = some c) : wz sg f (k + 1) = wz sg f k ++ [([c], k, k + 1)] := by
  unfold wz
  rw [zz_start h, List.map_append]
  congr 1
  show [(seg sg k (k + 1), k, k + 1)] = _
  rw [seg_snoc (Nat.le_refl k) hc, seg_self]
  rfl
theorem wz_cont {sg : List Nat} {f : Nat → Bool} {k c : Nat} (h0 : f 0 = true) (hk : 0 < k) (h : f k = false) (hc : sg[k]? = some c) : ∃ T t l, wz sg f k = T ++ [(t, l, k)] ∧ wz sg f (k + 1) = T ++ [(t ++ [c], l, k + 1)] := by
  obtain ⟨T, l, h1, h2, h3⟩ := zz_cont h0 hk h
  refine ⟨T.map (wOf sg), seg sg l k, l, ?_, ?_⟩
  · unfold wz
    rw [h1, List.map_append]
    rfl
  · unfold wz
    rw [h2, List.map_append]
    show _ ++ [(seg sg l (k + 1), l, k + 1)] = _
    rw [seg_snoc (by omega) hc]
structure WdOk (w : Wd) : Prop where
  t : ∀ c ∈ w.1, 33 ≤ c ∧ c ≤ 126
  l : w.1.length ≤ 60
  a : w.2.1 ≤ 60
  b : w.2.2 ≤ 60
theorem wds_ok {ss : List Sh} {ws : List (Nat × Nat)} {b : Int} (hw : ws.length ≤ 60) (hg : ∀ c ∈ sgs ss ws, 33 ≤ c ∧ c ≤ 126) : ∀ w ∈ wds ss ws b, WdOk w := by
  intro w h
  obtain ⟨p, hp, rfl⟩ := List.mem_map.mp h
  obtain ⟨h1, h2⟩ := zz_mem (isSt0 (b := b)) _ p hp
  refine ⟨fun c hc => hg c (List.mem_of_mem_drop (List.mem_of_mem_take hc)), ?_, by show p.1 ≤ 60; omega, by show p.2 ≤ 60; omega⟩
  exact Nat.le_trans (seg_len _ _ _) (by omega)
theorem wds_len {ss : List Sh} {ws : List (Nat × Nat)} {b : Int} : (wds ss ws b).length ≤ ws.length := by
  unfold wds wz
  rw [List.length_map]
  exact zz_len _
/-! ### the words as they stand -/
def wV (w : Wd) : List V := [.str (S w.1), .int w.2.1, .int w.2.2]
structure Wds (H : Hp) (xs : List V) (ws : List Wd) : Prop where
  len : xs.length = ws.length
  at_ : ∀ (i : Nat) (x : V) (w : Wd), xs[i]? = some x → ws[i]? = some w → ∃ t, x = .ref t ∧ H t = some (.tup (wV w))
theorem Wds.same {H H' : Hp} {xs : List V} {ws : List Wd} (h : Wds H xs ws) (s : Same H H') : Wds H' xs ws := ⟨h.len, fun i x w a b => let ⟨t, e, z⟩ := h.at_ i x w a b; ⟨t, e, s _ _ z⟩⟩
theorem Wds.nil {H : Hp} : Wds H [] [] := ⟨rfl, fun i x w h => nomatch h⟩
theorem Wds.updl {H : Hp} {xs : List V} {ws : List Wd} {l : Addr} {ys zs : List V} (h : Wds H xs ws) (hl : H l = some (.lst ys)) : Wds (upd H l (.lst zs)) xs ws :=
  ⟨h.len, fun i x w a b => let ⟨t, e, z⟩ := h.at_ i x w a b; ⟨t, e, by rw [upd_ne (ne_of z hl (by intro q; cases q))]; exact z⟩⟩
theorem Wds.add {H : Hp} {xs : List V} {ws : List Wd} {t : Addr} {w : Wd} (h : Wds H xs ws) (ht : H t = some (.tup (wV w))) : Wds H (xs ++ [.ref t]) (ws ++ [w]) := by
  refine ⟨by rw [List.length_append, List.length_append, h.len]; rfl, fun i y s' hy hs => ?_⟩
  by_cases hi : i < xs.length
  · rw [List.getElem?_append_left hi] at hy
    rw [List.getElem?_append_left (by rw [← h.len]; exact hi)] at hs
    exact h.at_ i y s' hy hs
  · rw [List.getElem?_append_right (by omega)] at hy
    rw [List.getElem?_append_right (by rw [← h.len]; omega)] at hs
    have e0 : i - xs.length = 0 := by
      have := (List.getElem?_eq_some_iff.mp hy).1
      rw [List.length_singleton] at this
      omega
    rw [← h.len] at hs
    rw [e0] at hy hs
    cases hy
    cases hs
    exact ⟨t, rfl, ht⟩
def wD (w : Wd) : PyData := .tuple [.str (S w.1), .int w.2.1, .int w.2.2]
theorem dp_wds {K : PySem.W.Frag} {H : Hp} : ∀ {xs : List V} {ws : List Wd}, Wds H xs ws → DpAll K H xs (ws.map wD)
  | [], [], _ => .nil
  | [], _ :: _, h => nomatch h.len
  | _ :: _, [], h => nomatch h.len
  | x :: xs, w :: ws, h => by
    obtain ⟨t, e, ht⟩ := h.at_ 0 x w rfl rfl
    subst e
    exact .cons (.tup (SqT.of ht) (.cons (.str _) (.cons (.int _) (.cons (.int _) .nil)))) (dp_wds ⟨Nat.succ.inj h.len, fun i y q a b => h.at_ (i + 1) y q a b⟩)
end Dt
/-! a comprehension whose elements are walked with the frame around it at hand -/
namespace L2X
open PySem PySem.Spec PyProof.Rows L2
section
variable {X : Cx}
/-- the block of a comprehension, begun at s1 over H1 -/
abbrev Bk (X : Cx) (sc : Scope) (s1 : Shared) (H1 : Hp) (L : Addr) (cl : List (Str × Addr)) (fp : List Addr) : Cx :=
  X.blk s1 H1 sc (compEnvC sc cl L X.env) fp
/-- from within the block the frame around it is seen -/
theorem out_of {pins pj : List (Addr × Obj)} {σ τ : L2.St} {H1 H2 : Hp} {s1 s2 : Shared} {sc : Scope} {L : Addr} {cl : List (Str × Addr)} {fp : List Addr}
    (I : Inv X pins σ H1 s1) (hf : ∀ b ∈ fp, FpOk X pins H1 b)
    (B : Inv (Bk X sc s1 H1 L cl fp) pj τ H2 s2) : Inv X pins σ H2 s2 := by
  refine I.call' (ch := fp) B.os B.base B.hok B.bare fun b hb => ?_
  have z := hf b hb
  exact ⟨z.2.2.2.1, z.2.1, z.2.2.2.2.1, z.2.2.2.2.2⟩
theorem pe_lcI {elt tg iter : Expr} {sc : Scope} {own : List (Str × Nat)} {pos : Pos} {wi : TI} {g : TG} {te : L2.St → TE}
    (hc : X.calm = true) (hN : X.N.Nodup) (hi : PI X tg iter wi) (ok : BlkOk X.N X.env.scope sc own)
    (hg : ∀ (s1 : Shared) (H1 : Hp) (L : Addr) (cl : List (Str × Addr)) (fp : List Addr), PG (Bk X sc s1 H1 L cl fp) tg g)
    (he : ∀ (pins : List (Addr × Obj)) (σ : L2.St) (s1 : Shared) (H1 : Hp) (L : Addr) (cl : List (Str × Addr)) (fp : List Addr),
      Inv X pins σ H1 s1 → (∀ b ∈ fp, FpOk X pins H1 b) → PE (Bk X sc s1 H1 L cl fp) elt (te σ))
    (hs : ∀ x, foldedSetIterable iter X.env x = pure x := by intro _; rfl) :
    PE X (.ListComp elt [⟨tg, iter, [], 0⟩] sc pos) (fun σ H Q => tLc wi g tYes (te σ) (own.map (·.2)) σ H Q) := by
  constructor
  intro pins s σ H Q I h
  rw [eval_ListComp]
  have freeIn : ∀ y ∈ sc.names, y.2 = .free → ∃ c, X.env.cells.lookup y.1 = some c := by
    intro y hy e
    cases ok.free y hy e with
    | inl k => exact I.ok.has _ (.inl k)
    | inr k => exact I.ok.has _ (.inr k)
  have uq : ∀ y ∈ sc.names, _ := fun y hy (e : y.2 = .local) => (ok.uniq y hy).trans (congrArg some e)
  apply wpAny_comprehension_free (use := none) rfl hs (closure_ok freeIn) ok.kind uq
  refine thn (hi.run pins s σ H _ I h) ?_
  intro xv sa hx
  refine thn hx ?_
  rintro itv sb ⟨it, fp, tn, J, Hb, rfl, Ib, T, stb, fb, rd⟩
  apply wpAny_newObj_type
  · apply newEnv_comp
    have newD : Hb sb.heap.objs.size = none := Ib.hok.fresh (Nat.le_refl _)
    obtain ⟨W, ⟨m0, w0⟩, tu⟩ := rd sb.heap.objs.size newD
    generalize eD : sb.heap.objs.size = D at newD w0 tu ⊢
    have objD : (sb.heap.push { cls := .type "list", data := .seq ([] : List Value).toArray }).get? D = some { cls := .type "list", data := .seq ([] : List Value).toArray } := by
      rw [← eD]
      exact Heap.get?_push_size _ rfl
    have Ic : Inv X pins σ (upd Hb D (.lst [])) { sb with heap := sb.heap.push { cls := .type "list", data := .seq ([] : List Value).toArray } } :=
      Ib.laid (t' := sb.toks) (fun b o e => Heap.get?_push_of_some _ e) (by rw [eD]; exact Nat.le_refl _) ⟨by show 0 ≤ sizeLine; decide, [], 0, .nil, objD⟩
    have stc : tn 0 (sb.heap.push { cls := .type "list", data := .seq ([] : List Value).toArray }) := T.keep _ _ _ stb fun b _ o e => Heap.get?_push_of_some _ e
    have fc : ∀ b ∈ fp, FpOk X pins (upd Hb D (.lst [])) b ∧ b < (sb.heap.push { cls := .type "list", data := .seq ([] : List Value).toArray }).objs.size := by
      intro b hb
      obtain ⟨o, e, _⟩ := T.obj _ _ stb b hb
      have lt := Heap.lt_size e
      have z := fb b hb
      constructor
      · refine ⟨?_, z.2⟩
        rw [upd_ne (show b ≠ D from Nat.ne_of_lt (eD ▸ lt))]
        exact z.1
      · rw [Heap.size_push]
        exact Nat.lt_succ_of_lt lt
    generalize eC : ({ sb with heap := sb.heap.push { cls := .type "list", data := .seq ([] : List Value).toArray } } : Shared) = sC at Ic
    have eCh : sb.heap.push { cls := .type "list", data := .seq ([] : List Value).toArray } = sC.heap := by rw [← eC]
    rw [eCh] at stc fc
    generalize eHc : upd Hb D (.lst []) = Hc at Ic fc w0
    have Id := block_start Ic ok hN fc
    generalize eCells : cellsFrom (sC.heap.objs.size + 1) sc.names (cloFrom X.env.cells sc.names []) = cl at Id ⊢
    change codeAny _ _ (.compStart (.ListComp elt [⟨tg, iter, [], 0⟩] sc pos) 0 (.ref it) (.ref D) (compEnvC sc cl sC.heap.objs.size X.env))
      (compPost (model X.prog X.w) X.A X.xe none (EP X pins σ Q) (.ref D) sC.heap.objs.size) _
    have gT := hg sC Hc sC.heap.objs.size cl fp
    have gE := he pins σ sC Hc sC.heap.objs.size cl fp Ic fun b hb => (fc b hb).1
    have std : tn 0 (pushCells (sC.heap.push { cls := .type "dict", data := .dict #[] }) sc.names) :=
      T.keep _ _ _ stc fun b _ o e => pushCells_keeps _ _ _ _ (Heap.get?_push_of_some _ e)
    generalize eD4 : ({ sC with heap := pushCells (sC.heap.push { cls := .type "dict", data := .dict #[] }) sc.names } : Shared) = sD at Id ⊢
    have eDh : pushCells (sC.heap.push { cls := .type "dict", data := .dict #[] }) sc.names = sD.heap := by rw [← eD4]
    rw [eDh] at std
    have walk : codeAny (model X.prog X.w) X.A (.compLoop (.ListComp elt [⟨tg, iter, [], 0⟩] sc pos) 0 (.ref it) (.ref D) (compEnvC sc cl sC.heap.objs.size X.env))
        (compPost (model X.prog X.w) X.A X.xe none (EP X pins σ Q) (.ref D) sC.heap.objs.size) sD := by
      apply compLoop_any (fun n t => ∃ (i : Nat) (G : Hp), Inv (Bk X sc sC Hc sC.heap.objs.size cl fp) [] (wipe σ (own.map (·.2))) G t ∧ tn i t.heap ∧ (∀ b ∈ fp, G b = none) ∧ W i n G) _ m0
        ⟨0, Hc, Id, std, fun b hb => (fc b hb).1.1, w0⟩
      rintro n t ⟨i, G, It, tt, gn, wi⟩
      have fpB : ∀ {τ : L2.St} {G' : Hp} {t' : Shared}, Inv (Bk X sc sC Hc sC.heap.objs.size cl fp) [] τ G' t' → (∀ b ∈ fp, G' b = none) → ∀ b ∈ fp, FpOk (Bk X sc sC Hc sC.heap.objs.size cl fp) [] G' b := by
        intro τ G' t' B hn b hb
        have z := B.ok.exf b hb
        exact ⟨hn b hb, z.1, B.ok.exfs b hb, .inl hb, fun x c e => z.2 x c e, fun p hp => nomatch (show p ∈ ([] : List (Addr × Obj)) from hp)⟩
      rcases tu i n G wi with ⟨st, q⟩ | ⟨go, Nx, toW, step⟩
      · apply thnF (T.done (Bk X sc sC Hc sC.heap.objs.size cl fp) rfl rfl rfl hc i [] t _ G (fun _ _ => False) It (fpB It gn) tt st)
        rintro r u ⟨rfl, Iu⟩
        have Iout := out_of Ic (fun b hb => (fc b hb).1) Iu
        obtain ⟨m, nsL, _⟩ := id Iu.loc
        have freeL : G sC.heap.objs.size = none := Iu.free
        refine ⟨m, nsL, fun h' sb' => ?_⟩
        have fL := Ic.fpOk (Nat.le_refl _) freeL
        exact ⟨.ref D, G, Iout.turned (t' := u.toks) (fun b o hb e => (sb'.2 b hb).trans e) fL.1 fL.2.1 fL.2.2.2.1 fL.2.2.2.2.1 fL.2.2.2.2.2, rfl, q⟩
      · apply thnF (T.item (Bk X sc sC Hc sC.heap.objs.size cl fp) rfl rfl rfl hc i [] t _ G (fun _ _ => False) It (fpB It gn) tt go)
        rintro r t1 ⟨u, rfl, hu⟩
        refine thnF hu ?_
        rintro _ t2 ⟨x, G2, I2, rx, yl, tt2, gn2⟩
        have Ip := I2.pinned (fpB I2 gn2) (T.obj _ _ tt2)
        refine thnF (gT.run _ t2 _ G2 x u _ Ip rx (step x G2 yl)) ?_
        rintro _ t3 ⟨τ, G3, I3, wq, q3⟩
        simp only [tYes, if_true] at q3
        apply wpAny_tests_nil
        simp only [if_true]
        refine thnF (gE.run _ t3 τ G3 _ I3 q3) ?_
        rintro z t4 ⟨y, G4, I4, ry, acc, accD, accL, nx⟩
        refine app_ok (X := Bk X sc sC Hc sC.heap.objs.size cl fp) I4 accD accL ry fun t5 I5 => ?_
        obtain ⟨m, lt, wm⟩ := toW _ nx
        have still : ∀ b ∈ fp, ∀ o, t2.heap.get? b = some o → t5.heap.get? b = some o ∧ (upd G4 D (.lst (acc ++ [y]))) b = none := by
          intro b hb o e
          have z := I5.pin (b, o) (List.mem_append_right _ (List.mem_append_right _ (mem_pinsAt hb e)))
          exact ⟨z.1, z.2.1⟩
        refine ⟨m, lt, i + 1, _, (I5.unpinned (pins := [])).weak ?_ fun j v e => ?_, T.keep _ _ _ tt2 fun b hb o e => (still b hb o e).1, fun b hb => ?_, wm⟩
        · rw [← wq, wipe_length]
        · rw [← wq] at e
          exact (wipe_some e).1
        · obtain ⟨o, e, _⟩ := T.obj _ _ tt2 b hb
          exact (still b hb o e).2
    exact codeAny_compStart_list walk (T.self X.A 0 _ _ _ std walk)
  · show 0 ≤ sizeLine
    decide
end
end L2X
/-! objects taken under watch, and let go; a caught exception kept behind its clause -/
namespace L2X
open PySem PySem.Spec PyProof.Rows L2
section
variable {X : Cx} {pins : List (Addr × Obj)} {σ : L2.St} {H : Hp} {s : Shared}
/-- an object that is younger than the entry comes under watch -/
theorem adopt {a : Addr} {o : HO} {oe : Obj} (I : Inv X pins σ H s) (ha : s.heap.get? a = some oe) (nc : ∀ v, oe.data ≠ .cell v) (na : H a = none) (nL : a ≠ X.env.locals)
    (n0 : X.s_0.heap.get? a = none) (np : ∀ p ∈ X.pn ++ pins, p.1 ≠ a) (new : ObjOk X.prog X.w (upd H a o) s.heap a o) : Inv X pins σ (upd H a o) s := by
  have old : ∀ b u, H b = some u → (upd H a o) b = some u := by
    intro b u e
    rw [upd_ne (ne_of_none e na)]
    exact e
  have ent : ∀ b u, X.s_0.heap.get? b = some u → b ≠ a := by
    rintro b u e rfl
    rw [n0] at e
    cases e
  constructor
  · exact I.ok
  · exact I.os
  · exact I.bare
  · constructor
    · exact I.base.keep
    · exact I.base.slot
    · intro b u e n hx
      rw [upd_ne (ent b u e)]
      exact I.base.free b u e n hx
    · exact I.base.there
    · exact fun b xs e => old _ _ (I.base.tups b xs e)
    · exact fun b u v e => old _ _ (I.base.frzs b u v e)
    · intro b ps e
      obtain ⟨m, q⟩ := I.base.tbls b ps e
      exact ⟨m, old _ _ q⟩
  · exact I.loc
  · exact I.cell
  · rw [upd_ne nL.symm]
    exact I.free
  · intro x c e
    have nca : c ≠ a := by
      rintro rfl
      obtain ⟨v, oc, hoc, hd⟩ := I.cell x c e
      rw [ha] at hoc
      cases hoc
      exact nc _ hd
    rw [upd_ne nca]
    exact I.freeC x c e
  · intro p hp
    obtain ⟨e, n, r⟩ := I.pin p hp
    refine ⟨e, ?_, r⟩
    rw [upd_ne (np p hp)]
    exact n
  · intro b u e
    by_cases hb : b = a
    · subst hb
      rw [upd_same] at e
      cases e
      exact new
    · rw [upd_ne hb] at e
      exact (I.hok b u e).stay (fun _ _ _ q => q) (fun c q => old _ _ q) fun c xs q => old _ _ q
  · exact I.len
/-- a thing of our own is let go -/
theorem letgo {a : Addr} {φ : Heap → Prop} (I : Inv X pins σ H s) (ha : H a = some (.ext φ)) : Inv X pins σ (delH H a) s := by
  have oth : ∀ b u, H b = some u → (∀ ψ, u ≠ .ext ψ) → delH H a b = some u := by
    intro b u e ne
    rw [delH_ne]
    · exact e
    · rintro rfl
      rw [ha] at e
      cases e
      exact ne _ rfl
  have non : ∀ b, H b = none → delH H a b = none := by
    intro b e
    by_cases hb : b = a
    · rw [hb]
      exact delH_same
    · rw [delH_ne hb]
      exact e
  constructor
  · exact I.ok
  · exact I.os
  · exact I.bare
  · constructor
    · exact I.base.keep
    · exact I.base.slot
    · exact fun b u e n hx => non b (I.base.free b u e n hx)
    · exact I.base.there
    · exact fun b xs e => oth _ _ (I.base.tups b xs e) fun ψ z => nomatch z
    · exact fun b u v e => oth _ _ (I.base.frzs b u v e) fun ψ z => nomatch z
    · intro b ps e
      obtain ⟨m, q⟩ := I.base.tbls b ps e
      exact ⟨m, oth _ _ q fun ψ z => nomatch z⟩
  · exact I.loc
  · exact I.cell
  · exact non _ I.free
  · exact fun x c e => non _ (I.freeC x c e)
  · intro p hp
    obtain ⟨e, n, r⟩ := I.pin p hp
    exact ⟨e, non _ n, r⟩
  · intro b u e
    by_cases hb : b = a
    · rw [hb, delH_same] at e
      cases e
    · rw [delH_ne hb] at e
      exact (I.hok b u e).stay (fun _ _ _ q => q) (fun c q => oth _ _ q fun ψ z => nomatch z) fun c xs q => oth _ _ q fun ψ z => nomatch z
  · exact I.len
end
/-- a caught exception of the class cls stands at a -/
def ExI (cls : Value) (d : Option Addr) (a : Addr) : HO := .ext fun h => ∃ oe, h.get? a = some oe ∧ Zc cls d oe ∧ ∃ vs, oe.data = .fields vs
theorem exI_ok {P : Program} {w : World} {H : Hp} {h : Heap} {a : Addr} {cls : Value} {d : Option Addr} {oe : Obj} {vs : Array Value} (e : h.get? a = some oe) (z : Zc cls d oe) (f : oe.data = .fields vs) : ObjOk P w H h a (ExI cls d a) := by
  refine ⟨⟨oe, e, z, vs, f⟩, ⟨oe, e⟩, ?_⟩
  rintro h1 h2 ⟨o, q, r⟩ k
  exact ⟨o, k _ q, r⟩
/-- the wish of a clause 'except x as n' that takes all that comes, and behind which the exception is kept -/
def wKeep (K : PySem.W.Frag) (c : Value) (i : Nat) (ts : Addr → Value → Option Addr → TS) (D : Ends) : WX := fun cls d σ H =>
  PySem.W.exmOne K cls c = some true ∧ ∀ a, H a = none → ts a cls d { nx := fun σ' H' => D.nx (σ'.set i none) (upd H' a (ExI cls d a)), rt := fun _ _ => False } (σ.set i (some (.ref a))) H
section
variable {X : Cx} {x n : Str} {c : Value} {i : Nat} {body sr : List Stmt} {b0 : Stmt} {np p1 p2 : Pos} {tb : WX → TS} {ts : Addr → Value → Option Addr → TS}
/-- what the watch over a try's body does with an exception -/
def Watch (X : Cx) (pins : List (Addr × Obj)) (D : Ends) (hd : ExceptHandler) : Value → Shared → Prop := fun e sa =>
  wpAny (model X.prog X.w) X.A (noteFrame e X.env)
    (fun _ sb => wpAny (model X.prog X.w) X.A (setFlight e none)
      (fun _ sc => wpAny (model X.prog X.w) X.A (handleBy e X.env [hd]) (SP X pins D) X.xe sc) X.xe sb) X.xe sa
theorem watched {pins : List (Addr × Obj)} {D : Ends} (st : X.stack = X.env :: X.outer) (fr : X.env.frame = some X.env.locals) (hex : X.ex = []) (hN : X.N.Nodup) (hi : X.N[i]? = some n) (hln : X.env.kindOf n = some .local) (hc : Names X x c) (ok : X.Ok)
    (hsu : ∀ (a : Addr) (oe : Obj) (cls : Value) (d : Option Addr) (pn : List (Addr × Obj)), Zc cls d oe → (∃ vs, oe.data = .fields vs) → PSs (X.suite a ((a, oe) :: pn)) (b0 :: sr) (ts a cls d)) :
    Takes (X.tr (X.pn ++ pins) (Watch X pins D (.ExceptHandler (some (.Name x np)) (some n) (b0 :: sr) p2))) (wKeep X.K c i ts D) := by
  rintro u t ⟨a, B, sI, pj, τ, G, cls, d, rfl, Jt, toB, up, sky, na, os, ag, caught, suiteOk⟩
  have J : Inv X pins τ G sI := Jt.ofTry ok
  have fs : X.A.frames = some (X.env :: X.outer) := ok.frames.trans (congrArg some st)
  have sky' : Sky B (X.env :: X.outer) a (Zc cls d) X.env.locals t.heap := st ▸ sky
  unfold Watch
  apply Sky.land Zc.steady fs fr sky'
  intro h3 fly up3
  have J3 : Inv X pins τ G { t with heap := h3 } := J.landed toB fly.1 (up.trans up3) os ag
  obtain ⟨oe3, vs3, got3, cls3, dat3⟩ := fly.there
  have noFrame : a ∉ frs (X.env :: X.outer) := by
    intro hm
    obtain ⟨_, o', e', nf⟩ := fly.2.2.1.mem hm
    rw [got3] at e'
    cases e'
    exact nf _ dat3
  have neL : a ≠ X.env.locals := fun z => noFrame (List.mem_filterMap.mpr ⟨X.env, List.mem_cons_self, by rw [fr, z]⟩)
  have neF : a ∉ X.fs := by
    intro hm
    obtain ⟨e, he, q⟩ := List.mem_filterMap.mp hm
    exact noFrame (List.mem_filterMap.mpr ⟨e, List.mem_cons_of_mem _ he, q⟩)
  have notI : sI.heap.get? a = none := by
    cases e : sI.heap.get? a with
    | none => rfl
    | some o =>
      have z := toB a o e (by rw [st]; exact noFrame)
      rw [fly.2.1] at z
      cases z
  have not0 : X.s_0.heap.get? a = none := by
    cases e : X.s_0.heap.get? a with
    | none => rfl
    | some o =>
      obtain ⟨o', z⟩ := J.base.there a o e (by rw [hex]; exact fun z => nomatch z)
      rw [notI] at z
      cases z
  have notPin : ∀ p ∈ X.pn ++ pins, p.1 ≠ a := by
    rintro p hp rfl
    have z := (J.pin p hp).1
    rw [notI] at z
    cases z
  have S3 := J3.suite got3 dat3 na neL neF
  apply wpAny_handleBy_cons (codeAny_handlers_test _) (by intro q; cases q)
  have lookT : PySem.W.Looks (model X.prog X.w) h3 (typeOf (.ref a)) cls := by
    intro A Q E s k q
    exact wpAny_typeOf_ref (k _ _ got3) (cls3.1 ▸ q)
  have lookM := PySem.W.exm_one (M := model X.prog X.w) J3.kIn lookT caught
  have named : ∀ {Q E : Value → Shared → Prop}, Q c { t with heap := h3 } → wpAny (model X.prog X.w) (X.A.mark (some (.ref a))) (eval (.Name x np) X.env) Q E { t with heap := h3 } := by
    intro Q E q
    rcases hc with ⟨hg, hdb, hm | ⟨hm, hv, hnn⟩⟩
    · exact ld_glob (X := X.suite a ((a, oe3) :: (X.pn ++ pins))) S3 hg hm q hdb
    · exact ld_blt (X := X.suite a ((a, oe3) :: (X.pn ++ pins))) S3 hg hm hv q hnn hdb
  apply named
  apply lookM.here
  refine codeAny_handlers_suite_as ?_
  apply HandSPX.lands_againZ fly
  intro h4 fly4 up4
  have J4 : Inv X pins τ G { t with heap := h4 } := J.landed toB fly4.1 ((up.trans up3).trans up4) os ag
  obtain ⟨oe4, vs4, got4, cls4, dat4⟩ := fly4.there
  have S4 := J4.suite got4 dat4 na neL neF
  refine store_ok (X := X.suite a ((a, oe4) :: (X.pn ++ pins))) (v := .ref a) S4 hN hi (.inl hln) rfl (fun s5 S5 => ?_) (.inr hln)
  refine wpAny_mono ((hsu a oe4 cls d (X.pn ++ pins) cls4 ⟨_, dat4⟩).run [] s5 _ G _ S5 (suiteOk a na)) ?_ (fun _ _ z => False.elim z)
  rintro f s6 hsp
  cases f with
  | next =>
    obtain ⟨τ6, G6, S6, q6⟩ := hsp
    have pinned : Inv X ((a, oe4) :: pins) τ6 G6 s6 := by
      refine (S6.unsuite ok).pins_of fun p hp => ?_
      have z := S6.pin p
      cases List.mem_cons.mp hp with
      | inl e => exact z (by rw [e]; exact List.mem_append_left _ List.mem_cons_self)
      | inr e => exact z (List.mem_append_left _ (List.mem_cons_of_mem _ (List.mem_append_right _ e)))
    refine gone_ok pinned hN hi hln fun s7 J7 => ?_
    have z := J7.pin (a, oe4) (List.mem_append_right _ List.mem_cons_self)
    have J8 : Inv X pins (τ6.set i none) G6 s7 := J7.pins_of fun p hp => J7.pin p (List.mem_append_right _ (List.mem_cons_of_mem _ hp))
    exact ⟨_, _, adopt J8 z.1 z.2.2.2.2 z.2.1 z.2.2.1 not0 notPin (exI_ok z.1 cls4 dat4), q6⟩
  | brk =>
    obtain ⟨τ6, G6, S6, q6⟩ := hsp
    exact q6.elim
  | cont =>
    obtain ⟨τ6, G6, S6, q6⟩ := hsp
    exact q6.elim
  | ret u =>
    obtain ⟨v6, τ6, G6, S6, r6, q6⟩ := hsp
    exact q6.elim
/-- try: body / except x as n: suite, n's exception kept under watch behind it -/
theorem ps_try_keep (st : X.stack = X.env :: X.outer) (fr : X.env.frame = some X.env.locals) (hex : X.ex = []) (hN : X.N.Nodup) (hi : X.N[i]? = some n) (hln : X.env.kindOf n = some .local) (hc : Names X x c)
    (hb : ∀ (W : WX) (pn : List (Addr × Obj)) (xe : Value → Shared → Prop), Takes (X.tr pn xe) W → PassesOwn (model X.prog X.w) X.A X.env xe → PSs (X.tr pn xe) body (tb W))
    (hsu : ∀ (a : Addr) (oe : Obj) (cls : Value) (d : Option Addr) (pn : List (Addr × Obj)), Zc cls d oe → (∃ vs, oe.data = .fields vs) → PSs (X.suite a ((a, oe) :: pn)) (b0 :: sr) (ts a cls d)) :
    PS X (.Try body [.ExceptHandler (some (.Name x np)) (some n) (b0 :: sr) p2] [] [] p1) (fun D σ H => tb (wKeep X.K c i ts D) D σ H) := by
  constructor
  intro pins s σ H D I h
  apply wpAny_Try_except
  have run := (hb (wKeep X.K c i ts D) (X.pn ++ pins) (Watch X pins D (.ExceptHandler (some (.Name x np)) (some n) (b0 :: sr) p2)) (watched st fr hex hN hi hln hc I.ok hsu) PassesOwn.looking).run [] s σ H D (I.toTry _) h
  refine wpAny_mono run ?_ (fun _ _ z => z)
  rintro f t hsp
  cases f with
  | next =>
    obtain ⟨τ, G, J, q⟩ := hsp
    exact wpAny_execs_nil ⟨τ, G, J.ofTry I.ok, q⟩
  | brk =>
    obtain ⟨τ, G, J, q⟩ := hsp
    exact ⟨τ, G, J.ofTry I.ok, q⟩
  | cont =>
    obtain ⟨τ, G, J, q⟩ := hsp
    exact ⟨τ, G, J.ofTry I.ok, q⟩
  | ret u =>
    obtain ⟨v, τ, G, J, r, q⟩ := hsp
    exact ⟨v, τ, G, J.ofTry I.ok, r, q⟩
end
end L2X
namespace L2X
open PySem PySem.Spec PyProof.Rows L2
/-- isinstance(e, c), e a kept exception -/
def rIsX (K : PySem.W.Frag) : List V → Hp → VK → Prop := fun xs H Q => ∃ (a D : Addr) (c : V) (cv : Value) (b : Bool), xs = [.ref a, c] ∧ H a = some (ExI (.ref D) none a) ∧ ExcC K D ∧ (∀ u, RelV c u → u = cv) ∧ PySem.W.kitOne K (.ref D) cv = some b ∧ Q (.bl b) H
theorem call_isX {X : Cx} : CallR X (.builtin "isinstance") (rIsX X.K) := by
  intro pins s σ H xs us Q I r h
  obtain ⟨a, D, c, cv, b, rfl, ha, C, hcv, e, q⟩ := h
  cases r with
  | cons rx rr =>
    cases rr with
    | cons rt rr =>
      cases rr
      cases rx
      have ec := hcv _ rt
      subst ec
      obtain ⟨⟨oe, got, ⟨zc, zd⟩, vs, hv⟩, _⟩ := I.hok a _ ha
      have J : PySem.W.InstAt s.heap a oe D none := ⟨got, zc, by unfold PySem.W.notCls; rw [hv], by rw [zd]; trivial⟩
      exact PySem.W.kia_one (PySem.W.handS_kitx_exc C.hg C.hk C.hs C.hd C.ha C.hn C.ht C.hm) I.kIn J e (fun z => nomatch z) fun tk => ⟨.bl b, H, I.kept (t' := tk) fun _ _ z => z, rfl, q⟩
end L2X
/-! lambdas as values: made, kept under watch, called through a def -/
namespace L2X
open PySem PySem.Spec PyProof.Rows L2 LamX
/-- the lambda of these cells stands at f, its code at c -/
def CloO (q : Str) (pr : Arguments) (body : Expr) (sc : Scope) (cl : List (Str × Addr)) (c f : Addr) : HO :=
  .ext fun h => ∃ pm ctv, h.get? f = some (PySem.W.kla_obj "<lambda>" q pr body sc cl pm c ctv)
theorem cloO_ok {P : Program} {w : World} {H : Hp} {h : Heap} {q : Str} {pr : Arguments} {body : Expr} {sc : Scope} {cl : List (Str × Addr)} {c f : Addr} {pm ctv : Value}
    (e : h.get? f = some (PySem.W.kla_obj "<lambda>" q pr body sc cl pm c ctv)) : ObjOk P w H h f (CloO q pr body sc cl c f) := by
  refine ⟨⟨pm, ctv, e⟩, ⟨_, e⟩, ?_⟩
  rintro h1 h2 ⟨pm', ctv', e'⟩ k
  exact ⟨pm', ctv', k _ e'⟩
section
variable {X : Cx}
def lamQ (X : Cx) : Str := X.env.qual ++ "<lambda>"
/-- what the making of a lambda asks, and what comes of it -/
def tLamV (T : List (Addr × Str)) (X : Cx) (pr : Arguments) (body : Expr) (sc : Scope) : TE := fun _ H Q =>
  Tabs T H ∧ ∀ (f c : Addr) (H1 : Hp), ExtN H H1 → Tabs T H1 → H1 c = some (CodeO c (lamQ X)) → H1 f = none → H f = none →
    (∀ b q' pr' body' sc' cl' c', H1 b = some (CloO q' pr' body' sc' cl' c' b) → c ≠ b) → Q (.ref f) (upd H1 f (CloO (lamQ X) pr body sc (cloFrom X.env.cells sc.names []) c f))
theorem pe_lamV {T : List (Addr × Str)} {c P : Addr} {pr : Arguments} {body : Expr} {sc : Scope} {pos : Pos} (TB : TabB X.base X.mg c P) (hcode : X.env.code = .ref c) (hm : (P, lamQ X) ∈ T)
    (hu : ∀ p ∈ T, p.1 = P → p.2 = lamQ X) (L : LamS X.env.scope sc) (hdef : defaultsOf pr X.env = ([], [])) : PE X (.Lambda pr body sc pos) (tLamV T X pr body sc) := by
  constructor
  rintro pins s σ H Q I ⟨hT, h⟩
  obtain ⟨ps, hP, trip, known⟩ := hT _ hm
  have clOk := closure_ok (L.has I.ok)
  have globs : s.heap.Ns mainGlobals X.mg := I.mod.glob.keeps I.bk
  have code0 := TB.code.keeps I.bk
  have blt0 : s.heap.BuiltinsAt X.mg P := TB.bm.keeps I.bk
  have atP : s.heap.get? P = some { cls := .none, data := .fields ps } := I.hok P _ hP
  -- the end of both ways: the def object is new
  have fin : ∀ (h' : Heap) (tk : Nat) (c' : Addr) (pm ctv : Value) (H1 : Hp), s.heap.objs.size ≤ h'.objs.size →
      Inv X pins σ H1 { s with heap := h'.push (PySem.W.kla_obj "<lambda>" (lamQ X) pr body sc (cloFrom X.env.cells sc.names []) pm c' ctv), toks := tk } →
      ExtN H H1 → Tabs T H1 → H1 c' = some (CodeO c' (lamQ X)) → H1 h'.objs.size = none →
      EP X pins σ Q (.ref h'.objs.size) { s with heap := h'.push (PySem.W.kla_obj "<lambda>" (lamQ X) pr body sc (cloFrom X.env.cells sc.names []) pm c' ctv), toks := tk } := by
    intro h' tk c' pm ctv H1 big J ext tabs hc n1
    have got : (h'.push (PySem.W.kla_obj "<lambda>" (lamQ X) pr body sc (cloFrom X.env.cells sc.names []) pm c' ctv)).get? h'.objs.size = _ := Heap.get?_push_size _ rfl
    have older : ∀ {b : Addr} {o : Obj}, s.heap.get? b = some o → b ≠ h'.objs.size := fun e => Nat.ne_of_lt (Nat.lt_of_lt_of_le (Heap.lt_size e) big)
    have n0 : X.s_0.heap.get? h'.objs.size = none := Heap.get?_none_of_le (Nat.le_trans I.sz big)
    have nL : h'.objs.size ≠ X.env.locals := Nat.ne_of_gt (Nat.lt_of_lt_of_le I.lt big)
    have np : ∀ p ∈ X.pn ++ pins, p.1 ≠ h'.objs.size := fun p hp => older (I.pin p hp).1
    have apart : ∀ b q' pr' body' sc' cl' c2, H1 b = some (CloO q' pr' body' sc' cl' c2 b) → c' ≠ b := by
      rintro b q' pr' body' sc' cl' c2 hb rfl
      obtain ⟨⟨pm2, ct2, e1⟩, _⟩ := J.hok c' _ hb
      obtain ⟨⟨oc, vs, t, e2, e3, _⟩, _⟩ := J.hok c' _ hc
      rw [e1] at e2
      cases e2
      cases e3
    refine ⟨.ref h'.objs.size, _, adopt J got (fun v z => ?_) n1 nL n0 np (cloO_ok got), rfl, h _ c' H1 ext tabs hc n1 (I.hok.fresh big) apart⟩
    cases z
  refine PySem.W.kla_eval hdef ?_
  cases among : codeAmong pos ps.toList with
  | some cv =>
    obtain ⟨c', rfl, hc'⟩ := known pos cv among
    refine PySem.W.kla_makeFunctionHit (mg := X.mg) (c := c) (P := P) (ps := ps) clOk I.ok.glob globs hcode code0 atP trip among blt0 ?_
    intro ctv h' tk keeps big
    exact fin h' tk c' _ ctv H big (I.kept fun b o e => Heap.get?_push_of_some _ (keeps b o e)) (ExtN.refl H) hT hc' (I.hok.fresh big)
  | none =>
    refine PySem.W.kla_makeFunction (mg := X.mg) (c := c) (P := P) (ps := ps) clOk I.ok.glob globs hcode code0 atP trip among TB.gP blt0 ?_
    intro c' ctv h' tk keeps ge lt rec tab
    obtain ⟨c2, oc, vs, t, e2, hoc, hd, hv⟩ := rec
    cases e2
    have big : s.heap.objs.size ≤ h'.objs.size := Nat.le_of_lt (Nat.lt_of_le_of_lt ge lt)
    have nc : H c' = none := I.hok.fresh ge
    have nPc : P ≠ c' := ne_of_none hP nc
    have J := inv_table (t' := tk) (more := #[rawInt pos.line, rawInt pos.col, .ref c']) (q := lamQ X) I hP
      (h' := h'.push (PySem.W.kla_obj "<lambda>" (lamQ X) pr body sc (cloFrom X.env.cells sc.names []) ((X.mg "__name__").getD .none) c' ctv))
      (fun b o hb e => Heap.get?_push_of_some _ (keeps b o hb e)) (Heap.get?_push_of_some _ tab) ge ⟨oc, vs, t, Heap.get?_push_of_some _ hoc, hd, hv⟩
    have ext : ExtN H (upd (upd H P (.tbl (ps ++ #[rawInt pos.line, rawInt pos.col, .ref c']))) c' (CodeO c' (lamQ X))) := by
      intro b o e notTab
      have nb : b ≠ P := by
        rintro rfl
        rw [hP] at e
        cases e
        exact notTab ps rfl
      rw [upd_ne (ne_of_none e nc), upd_ne nb]
      exact e
    have lst : (ps ++ #[rawInt pos.line, rawInt pos.col, .ref c']).toList = ps.toList ++ [rawInt pos.line, rawInt pos.col, .ref c'] := by simp
    refine fin h' tk c' _ ctv _ big J ext ?_ upd_same ?_
    · intro p hp
      by_cases hb : p.1 = P
      · refine ⟨ps ++ #[rawInt pos.line, rawInt pos.col, .ref c'], ?_, ?_, ?_⟩
        · rw [hb, upd_ne nPc, upd_same]
        · rw [lst]
          exact PySem.TriplesOk_snoc _ _ _ _ trip
        · intro p' cv hcv
          rw [hu p hp hb]
          rw [lst] at hcv
          cases among_app _ trip hcv with
          | inl z =>
            obtain ⟨c0, e1, e2⟩ := known p' cv z
            exact ⟨c0, e1, ext _ _ e2 codeO_ne⟩
          | inr z => exact ⟨c', z, upd_same⟩
      · obtain ⟨ps', a1, a2, a3⟩ := hT p hp
        refine ⟨ps', ?_, a2, ?_⟩
        · rw [upd_ne (ne_of_none a1 nc), upd_ne hb]
          exact a1
        · intro p' cv hcv
          obtain ⟨c0, e1, e2⟩ := a3 p' cv hcv
          exact ⟨c0, e1, ext _ _ e2 codeO_ne⟩
    · have n1 : h'.objs.size ≠ c' := Nat.ne_of_gt lt
      have n2 : h'.objs.size ≠ P := Nat.ne_of_gt (Nat.lt_of_lt_of_le (Heap.lt_size atP) big)
      rw [upd_ne n1, upd_ne n2]
      exact I.hok.fresh big
/-- a def that calls what it gets, a; TT: what it makes of the lambda's reading (with room for calls of its own) -/
def GivesR (X : Cx) (k : Nat) (Ng : List Str) (x : Str) (sg : Scope) (g : Addr) (cdg : Value) (bg : List Stmt) (a : Str) (q : Str) (TT : (XK → Hp → VK → Prop) → Hp → VK → Prop) : Prop :=
  ∀ (f c : Addr) (s : Shared) (H : Hp) (Q : VK) (tl : XK → Hp → VK → Prop), Room k (X.A.deeper (envOfC x sg s.heap.objs.size g cdg)) →
    (∀ (W : WX) (pn : List (Addr × Obj)) (xe : Value → Shared → Prop) (E : XK) (q1 q2 : Pos),
      Takes ((cxOf L2.CX0 X.prog X.w X.K X.mg X.base Ng x sg g cdg X.A X.stack s H L2.E0).tr pn xe) W → (∀ cls d σ' H', E cls d H' → W cls d σ' H') →
      PE ((cxOf L2.CX0 X.prog X.w X.K X.mg X.base Ng x sg g cdg X.A X.stack s H L2.E0).tr pn xe) (.Call (.Name a q1) [] [] q2)
        (fun σZ HZ Q => σZ[0]? = some (some (.ref f)) ∧ HZ c = some (CodeO c q) ∧ tl E HZ Q)) →
    H c = some (CodeO c q) → TT tl H Q →
    ∃ t, PSs (cxOf L2.CX0 X.prog X.w X.K X.mg X.base Ng x sg g cdg X.A X.stack s H L2.E0).nox bg t ∧ t { nx := fun _ H' => Q .non H', rt := Q } (L2.start Ng [.ref f]) H
/-- f(w) in a comprehension's block, w one of the frame's own lambdas, f a def that calls what it gets: the reading -/
def tCloCall {ι : Type} (X : Cx) (iw : Nat) (pr : ι → Arguments) (body : ι → Expr) (sc : ι → Scope) (t : ι → XK → TE) (TT : (XK → Hp → VK → Prop) → Hp → VK → Prop) (σ0 : L2.St) : TE := fun τ H Q =>
  ∃ (j : ι) (f c : Addr), τ[iw]? = some (some (.ref f)) ∧ H f = some (CloO (lamQ X) (pr j) (body j) (sc j) (cloFrom X.env.cells (sc j).names []) c f) ∧ H c = some (CodeO c (lamQ X)) ∧ c ≠ f ∧
    TT (fun E H' Q' => t j E σ0 H' Q') (delH H f) Q
theorem pe_clocall {ι : Type} {pins : List (Addr × Obj)} {σ0 : L2.St} {s1 : Shared} {H1 : Hp} {csc : Scope} {L : Addr} {cl : List (Str × Addr)} {fp : List Addr} (I1 : Inv X pins σ0 H1 s1) (hfp : ∀ b ∈ fp, FpOk X pins H1 b)
    {pr : ι → Arguments} {body : ι → Expr} {sc : ι → Scope} {t : ι → XK → TE} {TT : (XK → Hp → VK → Prop) → Hp → VK → Prop} {iw : Nat} {x a y : Str} {g : Addr} {k : Nat} {pg : Arguments} {bg : List Stmt} {sg : Scope} {dV kV doc pm cdv ct oc : Value} {an od : Option Addr}
    {osl : Array (Option Value)} {Ng : List Str} {p p' pos : Pos}
    (hg : Gl (Bk X csc s1 H1 L cl fp) x) (hm : X.mg x = some (.ref g)) (hk : PySem.W.keepIn X.K (.ref g) = true)
    (lk : X.K.lookup g = some ⟨oc, od, .func (PySem.W.fnOf x x pg bg sg dV kV doc pm an cdv ct), osl⟩) (hcg : PySem.W.codeIn X.K cdv x = true) (hb : L2.Binds X.K (PySem.W.fnOf x x pg bg sg dV kV doc pm an cdv ct) [a] [])
    (Sg : FnScope Ng [a] sg) (hNg : Ng[0]? = some a) (hva : Vis sg a) (hG : GivesR X (k + 1) Ng x sg g cdv bg a (lamQ X) TT) (hr : Room (k + 2) X.A)
    (hL : ∀ j, LamS X.env.scope (sc j)) (hbind : ∀ (j : ι) (q : Str) (cl : List (Str × Addr)) (pm cv ctv : Value), bindArgs (PySem.W.kla_fn "<lambda>" q (pr j) (body j) (sc j) cl pm cv ctv) ⟨[], []⟩ = pure [])
    (hbody : ∀ (j : ι) (A : Around) (outer : List Env) (s : Shared) (H : Hp) (E : XK) (f c : Addr), Room k (A.deeper (lamEnv X (sc j) s.heap.objs.size f c)) → PE (lamCx X A outer s H E (sc j) f c) (body j) (t j E))
    (hw : PE (Bk X csc s1 H1 L cl fp) (.Name y p') (tVar iw))
    (hdb : (x == ("__debug__" : Str)) = false := by decide) (hd : (a == ("__debug__" : Str)) = false := by decide) (hcd : (a == ("__classdict__" : Str)) = false := by decide) :
    PE (Bk X csc s1 H1 L cl fp) (.Call (.Name x p) [.Name y p'] [] pos) (tCloCall X iw pr body sc t TT σ0) := by
  constructor
  rintro pj s τ H Q B ⟨j, f, c, slot, clo, code, neC, h⟩
  refine wpAny_Call_Name_kw (ld_glob B hg hm ?_ hdb)
  have args : PA (Bk X csc s1 H1 L cl fp) [.Name y p'] (tCons (tVar iw) tNil) := pa_cons hw pa_nil
  refine PySem.W.callWith_K (h₀ := X.base) B.ok.mod.kin hk (thn (args.run pos pj s τ H (fun vs G => vs = [.ref f] ∧ G = H) B ⟨.ref f, slot, rfl, rfl⟩) ?_) (by rfl) (by rfl)
  rintro us s2 ⟨vs, G, B2, rel, rfl, rfl⟩
  refine ⟨B2.kIn, ?_⟩
  cases rel with
  | cons r0 rn =>
    cases rn
    cases r0
    have B3 := letgo B2 clo
    obtain ⟨⟨pm', ctv', got⟩, _⟩ := B2.hok f _ clo
    have offF : f ∉ frs X.stack := by
      intro hm'
      have z := B2.stkFree f hm'
      rw [clo] at z
      cases z
    have Iout : Inv X pins σ0 (delH G f) s2 := out_of I1 hfp B3
    have rc : codeAny (model X.prog X.w) X.A (.call (.ref g) ⟨[.ref f], []⟩) (CR L2.CX0 X.stack X.prog X.w (delH G f) s2 Q L2.E0) s2 := by
      refine run_ofS (N := Ng) (ps := [a]) (us := [.ref f]) (vs := [.ref f]) lk hcg Sg hr B3.env0 (hb s2 [.ref f] B3.kIn rfl) (.cons rfl .nil) rfl ?_
      intro hr'
      obtain ⟨t', ht', hq'⟩ := hG f c s2 (delH G f) Q (fun E H' Q' => t j E σ0 H' Q') hr'
        (fun W pn xe E q1 q2 tk hW => pe_act (i := 0) Iout (hL j) got delH_same offF (hbind j _ _ _ _ _) tk hW hr' (fun A outer s H hr2 => hbody j A outer s H E f c hr2) hNg hva hd hcd)
        (by rw [delH_ne neC]; exact code) h
      exact ⟨t', ht'.nox, hq'⟩
    refine wpAny_call (codeAny_mono rc ?_)
    rintro r s3 hq
    cases r with
    | error e => exact (show False from hq).elim
    | ok fl =>
      cases fl with
      | ret u => exact B3.after hq
      | next => exact False.elim hq
      | brk => exact False.elim hq
      | cont => exact False.elim hq
end
end L2X
namespace Dt
open PySem PySem.Spec PyProof.Rows L2 L2X LamX
theorem takesLen {X : Cx} {W : WX} (tk : Takes X W) : Takes X (fun cls d σ H => σ.length = X.N.length → W cls d σ H) := by
  rintro u s' ⟨a, B, sI, pins, σ, H, cls, d, e, I, nb, up, sky, na, os, ag, w⟩
  exact tk u s' ⟨a, B, sI, pins, σ, H, cls, d, e, I, nb, up, sky, na, os, ag, w I.len⟩
end Dt
/-! the end of a law whose own body asks who is around it: the law is run at its caller alone -/
namespace L2X
open PySem PySem.Spec PyProof.Rows L2 LamX
abbrev tabO : Obj := { cls := .none, data := .fields #[] }
abbrev lstO (vs : List Value) : Obj := { cls := .type "list", data := .seq vs.toArray }
/-- what is under watch when the law begins: the tables; the script, if the written part has it not -/
def beginH (K : PySem.W.Frag) (cs : List (Addr × Addr)) (a : Addr) (vs : List Value) (ns : List Int) : Hp := fun b =>
  if b ∈ cs.map (·.2) then some (.tbl #[]) else if b = a ∧ K.lookup a = none then some (.frz (lstO vs) (.lst (ns.map V.int))) else none
section
variable {P : Program} {w : World} {K : PySem.W.Frag} {mg mb : Str → Option Value} {fa a : Addr} {cs : List (Addr × Addr)} {s : Shared} {vs : List Value} {ns : List Int}
theorem begin_tab {p : Addr × Addr} (hp : p ∈ cs) : beginH K cs a vs ns p.2 = some (.tbl #[]) := by
  unfold beginH
  exact if_pos (List.mem_map.mpr ⟨p, hp, rfl⟩)
theorem begin_some {b : Addr} {u : HO} (e : beginH K cs a vs ns b = some u) : (b ∈ cs.map (·.2) ∧ u = .tbl #[]) ∨ (b = a ∧ K.lookup a = none ∧ u = .frz (lstO vs) (.lst (ns.map V.int))) := by
  unfold beginH at e
  split at e
  · rename_i h
    exact .inl ⟨h, (Option.some.inj e).symm⟩
  · split at e
    · rename_i h
      exact .inr ⟨h.1, h.2, (Option.some.inj e).symm⟩
    · cases e
theorem begin_none (hT : ∀ p ∈ cs, s.heap.get? p.2 = some tabO) (ha : s.heap.get? a = some (lstO vs)) {b : Addr} {o : Obj} (e : s.heap.get? b = some o) (n1 : o ≠ tabO) (n2 : o ≠ lstO vs) : beginH K cs a vs ns b = none := by
  cases q : beginH K cs a vs ns b with
  | none => rfl
  | some u =>
    exfalso
    rcases begin_some q with ⟨hm, _⟩ | ⟨rfl, _, _⟩
    · obtain ⟨p, hp, rfl⟩ := List.mem_map.mp hm
      rw [hT p hp] at e
      exact n1 (Option.some.inj e).symm
    · rw [ha] at e
      exact n2 (Option.some.inj e).symm
theorem law_callG (KX : K.In s.heap) (hns : s.heap.Ns mainGlobals mg) (hb : s.heap.Ns builtinsNs mb) (hbb : ∀ x : Str, x ≠ "__name__" → mb x = bootBuiltins x) (hlim : s.heap.NoLimit) (hg : s.gens = #[])
    (hT : ∀ p ∈ cs, s.heap.get? p.2 = some tabO) (nT : ∀ p ∈ cs, K.lookup p.2 = none) (C : ∀ p ∈ cs, PySem.W.CodeHd s.heap p.1 p.2)
    (hbm : ∃ (bm : Addr) (ob : Obj), mg "__builtins__" = some (.ref bm) ∧ bm ≠ builtinsNs ∧ s.heap.get? bm = some ob ∧ ob.cls = .type "module" ∧ ob.dict = some builtinsNs ∧ ob.data = .plain)
    (ha : s.heap.get? a = some (lstO vs)) (hi : IntsAre vs ns) (hl : ns.length ≤ sizeLine)
    (run : ∀ (base : Heap) (H : Hp), K.In base → base.Ns mainGlobals mg → (∀ p ∈ cs, TabB base mg p.1 p.2) → (∀ p ∈ cs, H p.2 = some (.tbl #[])) → SqL K H a (ns.map V.int) → Env0 P w K mg base callerA [] s H →
      codeAny (model P w) callerA (.call (.ref fa) ⟨[.ref a], []⟩) (CR L2.CX0 [] P w H s (fun v _ => v = .bl true) L2.E0) s) :
    codeAny (model P w) callerA (.call (.ref fa) ⟨[.ref a], []⟩) (fun r s' => r = .ok (.ret (.bool true)) ∧ OldK s.heap s'.heap ∧ s'.os = s.os ∧ AllBare s'.gens) s := by
  have rv := vals_ints hi
  have lv := hi.length
  generalize eH : beginH K cs a vs ns = H
  have tabs : ∀ p ∈ cs, H p.2 = some (.tbl #[]) := fun p hp => by rw [← eH]; exact begin_tab hp
  have off : ∀ {b : Addr} {o : Obj}, s.heap.get? b = some o → o ≠ tabO → o ≠ lstO vs → H b = none := fun e n1 n2 => by rw [← eH]; exact begin_none hT ha e n1 n2
  have isT : ∀ {b : Addr}, b ∈ cs.map (·.2) → s.heap.get? b = some tabO := by
    intro b hm
    obtain ⟨p, hp, rfl⟩ := List.mem_map.mp hm
    exact hT p hp
  have aT : a ∉ cs.map (·.2) := by
    intro hm
    have z := isT hm
    rw [ha] at z
    cases z
  -- the ground
  have nsK : ∀ {b : Addr} {m : Str → Option Value}, s.heap.Ns b m → (hidT s.heap H).Ns b m := by
    rintro b m ⟨o, es, ep, e, d, r⟩
    refine ⟨o, es, ep, hidT_get e (off e ?_ ?_), d, r⟩ <;> (rintro rfl; cases d)
  have inK : K.In (hidT s.heap H) := by
    intro b o e
    refine hidT_get (KX b o e) ?_
    cases q : H b with
    | none => rfl
    | some u =>
      exfalso
      rw [← eH] at q
      rcases begin_some q with ⟨hm, _⟩ | ⟨rfl, hk, _⟩
      · obtain ⟨p, hp, rfl⟩ := List.mem_map.mp hm
        rw [nT p hp] at e
        cases e
      · rw [hk] at e
        cases e
  have mod : L2.Mod K mg (hidT s.heap H) := by
    obtain ⟨mc, h1, h2⟩ := hlim
    exact ⟨inK, nsK hns, ⟨mb, nsK hb, hbb⟩, ⟨mc, nsK h1, h2⟩⟩
  have tabB : ∀ p ∈ cs, TabB (hidT s.heap H) mg p.1 p.2 := by
    intro p hp
    have tp := hT p hp
    obtain ⟨og, es, ep, gg, gd, _⟩ := id hns
    constructor
    · obtain ⟨o, us, file, tf, flags, tg, inF, text, tt, e1, r1, r2, r3, r4, r5, r6, r7, r8, hne⟩ := C p hp
      refine ⟨o, us, file, tf, flags, tg, inF, text, tt, hidT_get e1 (off e1 ?_ ?_), r1, r2, r3, r4, r5, r6, r7, r8, hne⟩
      · rintro rfl
        cases r2
        simp at r3
      · rintro rfl
        cases r2
    · obtain ⟨bm, ob, b1, b2, b3, b4, b5, b6⟩ := hbm
      refine ⟨bm, ob, b1, b2, ?_, ?_, hidT_get b3 (off b3 ?_ ?_), b4, b5, b6⟩
      · rintro rfl
        rw [gg] at b3
        cases b3
        rw [gd] at b6
        cases b6
      · rintro rfl
        rw [tp] at b3
        cases b3
        cases b6
      · rintro rfl
        cases b6
      · rintro rfl
        cases b6
    · intro z
      rw [z, tp] at gg
      cases gg
      cases gd
  have hokH : HOk P w H s.heap := by
    intro b u e
    rw [← eH] at e
    rcases begin_some e with ⟨hm, rfl⟩ | ⟨rfl, _, rfl⟩
    · exact isT hm
    · exact ⟨ha, by rw [List.length_map]; exact hl, vs, _, rv, ha⟩
  have sq : SqL K H a (ns.map V.int) := by
    cases hk : K.lookup a with
    | some o =>
      have z := KX a o hk
      rw [ha] at z
      cases z
      exact .inr ⟨_, vs.toArray, _, hk, rfl, rfl, rfl, by rw [List.size_toArray, lv]; exact hl, by simpa using rv⟩
    | none =>
      refine .inl (.inr ⟨lstO vs, ?_⟩)
      rw [← eH]
      unfold beginH
      rw [if_neg aT, if_pos ⟨rfl, hk⟩]
  have e0 : Env0 P w K mg (hidT s.heap H) callerA [] s H :=
    by
    constructor
    · rfl
    · exact mod
    · exact fun b o e => of_hidT e
    · exact Nat.le_of_eq (hidT_size _ _)
    · trivial
    · exact fun b hb => nomatch (show b ∈ ([] : List Addr) from hb)
    · exact hokH
    · exact .of_eq hg
  refine codeAny_mono (run _ H inK (nsK hns) tabB tabs sq e0) ?_
  rintro r s' h
  cases r with
  | error e => exact (show False from h).elim
  | ok fl =>
    cases fl with
    | next => exact False.elim h
    | brk => exact False.elim h
    | cont => exact False.elim h
    | ret u =>
      obtain ⟨v, H', os, bare, un, hok', rr, rfl⟩ := h
      obtain rfl : u = Value.bool true := rr
      have stay : ∀ b o, b ∉ cs.map (·.2) → s.heap.get? b = some o → s'.heap.get? b = some o := by
        intro b o nb e
        cases q : H b with
        | none => exact un.keep b o e q (fun z => nomatch z) (fun z => nomatch z)
        | some u =>
          have q2 := q
          rw [← eH] at q2
          rcases begin_some q2 with ⟨hm, _⟩ | ⟨rfl, _, rfl⟩
          · exact absurd hm nb
          · obtain ⟨z, _⟩ := hok' _ _ (un.frzs _ _ _ q)
            rw [ha] at e
            cases e
            exact z
      have grow : ∀ p ∈ cs, ∃ more : Array Value, s'.heap.get? p.2 = some { cls := .none, data := .fields more } := by
        intro p hp
        obtain ⟨more, z⟩ := un.tbls p.2 #[] (tabs p hp)
        exact ⟨_, hok' p.2 _ z⟩
      refine ⟨rfl, ⟨fun b o e => ?_, fun b o e => ?_⟩, os, bare⟩
      · by_cases hb : b ∈ cs.map (·.2)
        · obtain ⟨p, hp, rfl⟩ := List.mem_map.mp hb
          obtain ⟨more, hm⟩ := grow p hp
          rw [hT p hp] at e
          cases e
          exact .inr (.inl ⟨((C p hp).tab (hT p hp)).isCodeTable, rfl, #[], more, rfl, by rw [Array.empty_append]; exact hm⟩)
        · exact .inl (stay b o hb e)
      · by_cases hb : b ∈ cs.map (·.2)
        · obtain ⟨p, hp, rfl⟩ := List.mem_map.mp hb
          obtain ⟨more, hm⟩ := grow p hp
          exact ⟨_, hm⟩
        · exact ⟨o, stay b o hb e⟩
end
end L2X
/-! a lambda handed straight to a def that calls what it gets, with room for calls of its own; list.count of data -/
namespace L2X
open PySem PySem.Spec PyProof.Rows L2 LamX
section
variable {X : Cx}
theorem pe_lamcallR {T : List (Addr × Str)} {TT : (XK → Hp → VK → Prop) → Hp → VK → Prop} {x a : Str} {g c P : Addr} {k : Nat} {pg : Arguments} {bg : List Stmt} {sg : Scope} {dV kV doc pm cdv ct oc : Value} {an od : Option Addr} {osl : Array (Option Value)} {Ng : List Str}
    {params : Arguments} {body : Expr} {scope : Scope} {t : XK → TE} {p lpos pos : Pos} (hg : Gl X x) (hm : X.mg x = some (.ref g)) (hk : PySem.W.keepIn X.K (.ref g) = true)
    (lk : X.K.lookup g = some ⟨oc, od, .func (PySem.W.fnOf x x pg bg sg dV kV doc pm an cdv ct), osl⟩) (hcg : PySem.W.codeIn X.K cdv x = true) (hb : L2.Binds X.K (PySem.W.fnOf x x pg bg sg dV kV doc pm an cdv ct) [a] []) (Sg : FnScope Ng [a] sg) (hNg : Ng[0]? = some a) (hva : Vis sg a)
    (hG : GivesR X (k + 1) Ng x sg g cdv bg a (lamQ X) TT)
    (TB : TabB X.base X.mg c P) (hcode : X.env.code = .ref c) (hmT : (P, lamQ X) ∈ T) (hu : ∀ p ∈ T, p.1 = P → p.2 = lamQ X) (hr : Room (k + 2) X.A) (L : LamS X.env.scope scope) (hdef : defaultsOf params X.env = ([], []))
    (hbind : ∀ (q : Str) (cl : List (Str × Addr)) (pm cv ctv : Value), bindArgs (PySem.W.kla_fn "<lambda>" q params body scope cl pm cv ctv) ⟨[], []⟩ = pure [])
    (hbody : ∀ (A : Around) (outer : List Env) (s : Shared) (H : Hp) (E : XK) (f c' : Addr), Room k (A.deeper (lamEnv X scope s.heap.objs.size f c')) → PE (lamCx X A outer s H E scope f c') body (t E))
    (hdb : (x == ("__debug__" : Str)) = false := by decide) (hd : (a == ("__debug__" : Str)) = false := by decide) (hcd : (a == ("__classdict__" : Str)) = false := by decide) :
    PE X (.Call (.Name x p) [.Lambda params body scope lpos] [] pos) (tLam T TT t) := by
  constructor
  rintro pins s σ H Q I ⟨hT, h⟩
  refine wpAny_Call_Name_kw (ld_glob I hg hm ?_ hdb)
  refine PySem.W.callWith_K (h₀ := X.base) I.ok.mod.kin hk ?_ (by rfl) (by rfl)
  show wpAny _ _ (spliced ((false, eval (.Lambda params body scope lpos) X.env) :: backTo pos (starEach [] X.env))) _ _ s
  refine Calls.spliced_cons (lam_make2 I TB hcode hmT hu hT hdef (L.has I.ok) fun f c' pm' ctv H1 s' I1 eN T1 hf hfn hfr hco => ?_)
  refine Calls.spliced_nil ⟨I1.kIn, ?_⟩
  have rc : codeAny (model X.prog X.w) X.A (.call (.ref g) ⟨[.ref f], []⟩) (CR L2.CX0 X.stack X.prog X.w H1 s' Q L2.E0) s' := by
    refine run_ofS (N := Ng) (ps := [a]) (us := [.ref f]) (vs := [.ref f]) lk hcg Sg hr I1.env0 (hb s' [.ref f] I1.kIn rfl) (.cons rfl .nil) rfl ?_
    intro hr'
    obtain ⟨t', ht', hq'⟩ := hG f c' s' H1 Q (fun E H' Q' => t E σ H' Q') hr'
      (fun W pn xe E p1 p2 tk hW => pe_act (i := 0) I1 L hf hfn hfr (hbind _ _ _ _ _) tk hW hr' (fun A outer s H hr2 => hbody A outer s H E f c' hr2) hNg hva hd hcd) hco (h H1 eN T1)
    exact ⟨t', ht'.nox, hq'⟩
  refine wpAny_call (codeAny_mono rc ?_)
  rintro r s2 hq
  cases r with
  | error e => exact (show False from hq).elim
  | ok fl =>
    cases fl with
    | ret u => exact I1.after hq
    | next => exact False.elim hq
    | brk => exact False.elim hq
    | cont => exact False.elim hq
/-- l.count(x) of data -/
def rCountD (K : PySem.W.Frag) : V → List V → Hp → VK → Prop := fun x xs H Q => ∃ (a : Addr) (y : V) (d : PyData) (ds : List PyData), x = V.ref a ∧ xs = [y] ∧ Dp K H (V.ref a) (.list ds) ∧ Dp K H y d ∧
  SeqAt.shaped (.list ds) = true ∧ SeqAt.shaped d = true ∧ Q (.int (ds.countP fun z => PyData.eqv z d : Nat)) H
theorem mt_countD (hu : X.A.units + 65 < cLine) : MtR X "list.count" (rCountD X.K) := by
  intro pins s σ H x xs v us Q I rx rxs h
  obtain ⟨a, y, d, ds, rfl, rfl, hl, hy, sl, sd, q⟩ := h
  cases rx
  obtain ⟨uy, rfl, ry⟩ := rxs.one
  obtain ⟨bs, r1⟩ := Dp.reads I d y uy hy ry
  have hxs : PyData.canLayAll0 ds = true := SeqAt.canLay_of_shaped sl
  have hroom : X.A.units + 1 + min (PyData.depthAll ds) d.depth < cLine := room_in_shaped sd hu
  cases hl with
  | lst hs ha =>
    obtain ⟨its, rv, ⟨⟨cls, dd, data, sls⟩, n, ho, hc, hdn, hdt⟩, hlen⟩ := I.list hs
    simp only at hc hdt
    subst hc hdt
    obtain ⟨as, h4⟩ := Dp.readsAll I ds _ its ha rv
    have hmap : its.map (SeqAt.readOf s.heap) = ds := SeqAt.readsAll_map ds its as hxs h4
    refine call_meets PySem.F.slot_list_count ⟨_, ho, rfl⟩ PySem.F.entry_list_count (PySem.F.args_list_count_2 _ _)
      (SeqAt.list_countAt a its.toArray n dd sls uy (fun u => PyData.eqv (SeqAt.readOf s.heap u) d)) ⟨ho, SeqAt.items_eqAt (vs := its.toArray) (show ReadsAll s.heap its.toArray.toList ds as from h4) r1 hxs (SeqAt.canLay_of_shaped sd) hroom, ?_⟩
    have ec : its.toArray.toList.countP (fun u => PyData.eqv (SeqAt.readOf s.heap u) d) = ds.countP fun z => PyData.eqv z d := by
      rw [← hmap, List.countP_map]
      rfl
    refine ⟨.int (ds.countP fun z => PyData.eqv z d : Nat), H, I.tok _, ⟨s.toks, ?_⟩, q⟩
    show Value.int ((its.toArray.toList.countP (fun u => PyData.eqv (SeqAt.readOf s.heap u) d) : Nat) : Int) s.toks = Value.int ((ds.countP fun z => PyData.eqv z d : Nat) : Int) s.toks
    rw [ec]
end
end L2X
/-! kept exceptions, with or without a field -/
namespace L2X
open PySem PySem.Spec PyProof.Rows L2
/-- a kept exception stands at a, of the class at D; its dict, if it has one -/
def KX (H : Hp) (a D : Addr) (d : Option Addr) : Prop := H a = some (ExI (.ref D) d a) ∧ (d = none ∨ ∃ dd fs, d = some dd ∧ H dd = some (.xd fs))
theorem KX.same {H H' : Hp} {a D : Addr} {d : Option Addr} (h : KX H a D d) (s : Same H H') : KX H' a D d :=
  ⟨s _ _ h.1, h.2.imp id fun ⟨dd, fs, e, q⟩ => ⟨dd, fs, e, s _ _ q⟩⟩
theorem kx_kit {X : Cx} {pins : List (Addr × Obj)} {σ : L2.St} {H : Hp} {s : Shared} {a D : Addr} {d : Option Addr} (I : Inv X pins σ H s) (C : ExcC X.K D) (h : KX H a D d) :
    ∃ Pp : Heap → Prop, PySem.W.KitX X.K (.ref a) (.ref D) Pp ∧ Pp s.heap := by
  obtain ⟨ha, hd⟩ := h
  obtain ⟨⟨oe, got, ⟨zc, zd⟩, vs, hv⟩, _⟩ := I.hok a _ ha
  rcases hd with rfl | ⟨dd, fs, rfl, hd⟩
  · have J : PySem.W.InstAt s.heap a oe D none := ⟨got, zc, by unfold PySem.W.notCls; rw [hv], by rw [zd]; trivial⟩
    exact ⟨_, PySem.W.handS_kitx_exc C.hg C.hk C.hs C.hd C.ha C.hn C.ht C.hm, J⟩
  · have hx : ObjOk X.prog X.w H s.heap dd (.xd fs) := I.hok dd _ hd
    obtain ⟨mA, hns, _⟩ := hx
    obtain ⟨od, ho, _⟩ := lookIn_ns hns
    have J : PySem.W.InstAt s.heap a oe D (some od) := ⟨got, zc, by unfold PySem.W.notCls; rw [hv] <;> rfl, by rw [zd]; exact ho⟩
    have hcl : (PySem.W.clsIn X.K D).isSome = true := by
      cases hc : PySem.W.clsIn X.K D with
      | some cd => rfl
      | none =>
        have := C.hd
        unfold PySem.W.hasDictIn at this
        rw [hc] at this
        cases this
    exact ⟨_, PySem.W.kitx_exc hcl C.hg C.hk C.hs C.ha C.hn C.ht C.hm, J⟩
/-- isinstance(e, c), e a kept exception -/
def rIsY (K : PySem.W.Frag) : List V → Hp → VK → Prop := fun xs H Q => ∃ (a D : Addr) (d : Option Addr) (c : V) (cv : Value) (b : Bool), xs = [.ref a, c] ∧ KX H a D d ∧ ExcC K D ∧ (∀ u, RelV c u → u = cv) ∧ PySem.W.kitOne K (.ref D) cv = some b ∧ Q (.bl b) H
theorem call_isY {X : Cx} : CallR X (.builtin "isinstance") (rIsY X.K) := by
  intro pins s σ H xs us Q I r h
  obtain ⟨a, D, d, c, cv, b, rfl, ha, C, hcv, e, q⟩ := h
  cases r with
  | cons rx rr =>
    cases rr with
    | cons rt rr =>
      cases rr
      cases rx
      have ec := hcv _ rt
      subst ec
      obtain ⟨Pp, Z, p⟩ := kx_kit I C ha
      exact PySem.W.kia_one Z I.kIn p e (fun z => nomatch z) fun tk => ⟨.bl b, H, I.kept (t' := tk) fun _ _ z => z, rfl, q⟩
/-- .. of a tuple of classes -/
def rIsYT (K : PySem.W.Frag) : List V → Hp → VK → Prop := fun xs H Q => ∃ (a D : Addr) (d : Option Addr) (tp : Addr) (cs : List V) (us : List Value) (b : Bool), xs = [.ref a, .ref tp] ∧ KX H a D d ∧ ExcC K D ∧ H tp = some (.tup cs) ∧ Paired ClsV cs us ∧ PySem.W.kitAny K (.ref D) us = some b ∧ Q (.bl b) H
theorem call_isYT {X : Cx} : CallR X (.builtin "isinstance") (rIsYT X.K) := by
  intro pins s σ H xs us Q I r h
  obtain ⟨a, D, d, tp, cs, ws, b, rfl, ha, C, hT, k, e, q⟩ := h
  obtain ⟨u1, u2, rfl, r1, r2⟩ := vals2 r
  cases (show u1 = Value.ref a from r1)
  cases (show u2 = Value.ref tp from r2)
  obtain ⟨Pp, Z, p⟩ := kx_kit I C ha
  obtain ⟨_, its, rv, o, h1, h2, n, h3⟩ := (show ObjOk X.prog X.w H s.heap tp (.tup cs) from I.hok tp _ hT)
  have e3 := ClsV.all k rv
  subst e3
  obtain ⟨oc, od, dt, sl⟩ := o
  simp only at h2 h3
  subst h2 h3
  exact PySem.W.kia_tup Z I.kIn p h1 e (fun z => nomatch z) fun tk => ⟨.bl b, H, I.tok tk, rfl, q⟩
/-- the field of a kept exception -/
def tYf (C : Addr) (f : Str) (te : TE) : TE := fun σ H Q => te σ H fun x H1 => ∃ (a dd : Addr) (fs : List (Str × V)) (v : V), x = .ref a ∧ H1 a = some (ExI (.ref C) (some dd) a) ∧ H1 dd = some (.xd fs) ∧ fs.lookup f = some v ∧ Q v H1
theorem pe_yf {X : Cx} {C : Addr} {e : Expr} {te : TE} {pos : Pos} {n : Str} (T : XfC X.K C) (hno : PySem.W.findIn X.K (.ref C) n = some none) (he : PE X e te) (hb : attributeBase e n X.env (eval e X.env) = eval e X.env := by rfl) :
    PE X (.Attribute e n pos) (tYf C n te) := by
  refine ⟨fun pins s σ H Q I h => ?_⟩
  refine attr_of hb (thn (he.run pins s σ H _ I h) fun u s1 hh => ?_)
  obtain ⟨x, H1, I1, rx, a, dd, fs, v, ex, ea, ed, l, q⟩ := hh
  subst ex
  obtain rfl : u = Value.ref a := rx
  obtain ⟨⟨oe, got, ⟨zc, zd⟩, vs, hv⟩, _⟩ := I1.hok a _ ea
  have hx : ObjOk X.prog X.w H1 s1.heap dd (.xd fs) := I1.hok dd _ ed
  obtain ⟨mA, hns, hr⟩ := hx
  obtain ⟨od, ho, hl⟩ := lookIn_ns hns
  obtain ⟨u, hu, ru⟩ := RelO.some_of (v := v) (o := mA n) (by rw [← l]; exact hr n)
  have J : PySem.W.InstAt s1.heap a oe C (some od) := ⟨got, zc, by unfold PySem.W.notCls; rw [hv] <;> rfl, by rw [zd]; exact ho⟩
  exact HandSPX.exc_get I1.kIn J T.ga T.gg T.exC (PySem.W.findObj_own T.hdC hno rfl (by rw [hl, hu])) (handed_of ru) ⟨v, H1, I1.tok _, ru, q⟩
end L2X
namespace Dt
open PySem PySem.Spec PyProof.Rows L2 L2X
open SX (S)
/-! ### TooMany and its field -/
abbrev sTM : Stmt := inClass (topS 13) 0
theorem scTM : FnScope ["self", "most"] ["self", "most"] (defScope sTM) := ⟨rfl, rfl, rfl, by decide +kernel, rfl, by decide +kernel, by decide +kernel⟩
def spTM (C : Addr) : Sp := fun vs H Q _ => ∃ (a : Addr) (v : V), vs = [.ref a, v] ∧ H a = some (exo a C none) ∧ ∀ dx, H dx = none → dx ≠ a → Q .non (upd (upd H dx (exd dx [("most", v)])) a (exo a C (some dx)))
/-- the class TooMany as the top has made it -/
structure Ttm (K : PySem.W.Frag) (mg : Str → Option Value) (C : Addr) : Prop where
  g : mg "TooMany" = some (.ref C)
  o : OexC K C
  no : PySem.W.findIn K (.ref C) "most" = some none
  fi : ∃ fI fd, PySem.W.findIn K (.ref C) "__init__" = some (some (.ref fI)) ∧ PySem.W.typeIn K (.ref fI) = some (.type "function") ∧ Fun K "__init__" "TooMany.__init__" sTM fI fd ∧ Binds K fd ["self", "most"] []
/-- it leaves with this in its field -/
def RaiseM (E : XK) (C : Addr) (v : V) (H : Hp) : Prop := ∀ d H', Same H H' → H d = none → H' d = some (.xd [("most", v)]) → E (.ref C) (some d) H'
theorem RaiseM.same {E : XK} {C : Addr} {v : V} {H H' : Hp} (h : RaiseM E C v H) (s : Same H H') : RaiseM E C v H' := fun d H2 s2 n e => h d H2 (s.trans s2) (s.free n) e
theorem raiseM_by {E : XK} {C : Addr} {v : V} {H : Hp} (h : RaiseM E C v H) : [v].length ≤ 1000 ∧ ∀ a, H a = none → spTM C (.ref a :: ([v] ++ [])) (upd H a (exo a C none))
    (fun u H2 => u = .non ∧ ∃ (d : Addr) (fs : List (Str × V)), H2 a = some (exo a C (some d)) ∧ H2 d = some (exd d fs) ∧ H d = none ∧ E (.ref C) (some d) (upd (del H2 a) d (.xd fs))) (fun _ _ _ => False) := by
  refine ⟨by show 1 ≤ 1000; decide, fun a ha => ⟨a, v, rfl, upd_same, fun dx hd ne => ⟨rfl, dx, [("most", v)], upd_same, ?_, ?_, ?_⟩⟩⟩
  · rw [upd_ne ne, upd_same]
  · rw [upd_ne ne] at hd
    exact hd
  · rw [upd_ne ne] at hd
    refine h dx _ (fun b o e => ?_) hd upd_same
    rw [upd_ne (ne_of_none e hd), del_ne (ne_of_none e ha), upd_ne (ne_of_none e ha), upd_ne (ne_of_none e hd), upd_ne (ne_of_none e ha)]
    exact e
section
variable {P : Program} {w : World} {K : PySem.W.Frag} {mg : Str → Option Value} {base : Heap} {C : Addr}
theorem ok_tm {f : Addr} {fd : FuncData} {k : Nat} (F : Fun K "__init__" "TooMany.__init__" sTM f fd) (o : OexC K C) (no : PySem.W.findIn K (.ref C) "most" = some none) : FnOk P w K mg base CX0 (k + 1) f fd ["self", "most"] (spTM C) := by
  refine F.ok scTM (fun vs H Q E h => ?_) (fun cdv A outer s H vs Q E hr h => ?_)
  · obtain ⟨a, v, rfl, _⟩ := h
    rfl
  · obtain ⟨a, v, rfl, ha, q⟩ := h
    refine ⟨_, pss_one (ps_ost (pv 0) (pv 1)), ?_⟩
    exact ⟨v, rfl, .ref a, rfl, a, C, rfl, o, no, .inl ⟨ha, fun dx hd ne => q dx hd ne⟩⟩
end
end Dt
namespace L2X
open PySem PySem.Spec PyProof.Rows L2
/-- what a frame takes, its callee may let out -/
theorem passE {X : Cx} {E : XK} (tk : Takes X (fun cls d _ H => E cls d H)) : Passes (L2.CX X.prog X.w) X E := fun pins σ H s e s' I h => passAt tk σ pins H s e s' I h
end L2X
namespace L2X
open PySem PySem.Spec PyProof.Rows L2 LamX
/-! ### len(x) of an own class -/
def rLenO (C : Addr) (sp : Sp) : List V → Hp → VK → Prop := fun xs H Q => ∃ (a dx : Addr) (fs : List (Str × V)), xs = [.ref a] ∧ H a = some (.ins C dx fs) ∧ sp [.ref a] H (fun v H' => ∃ n : Nat, v = .int n ∧ n < 1000000 ∧ Q (.int n) H') E0
theorem call_lenO {X : Cx} {k : Nat} {f C : Addr} {fd : FuncData} {sp : Sp} (F : FnOk X.prog X.w X.K X.mg X.base CX0 k f fd ["self"] sp) (hr : Room (k + 1) X.A) (hm : Meth X.K C "__len__" f) (hb : Binds X.K fd ["self"] []) : CallR X (.builtin "len") (rLenO C sp) := by
  intro pins s σ H xs us Q I r h
  obtain ⟨a, dx, fs, rfl, ea, q⟩ := h
  obtain ⟨u, rfl, ru⟩ := vals1 r
  obtain rfl : u = Value.ref a := ru
  obtain ⟨mA, O, _⟩ := ins_get I.hok ea
  obtain ⟨od, J, _⟩ := O.look
  obtain ⟨m, fr⟩ := I.fr
  refine PySem.W.len_K fr I.ok.mod.kin J hm.at_ hm.fn (wpAny_call (codeAny_mono (F.run X.A.in1 X.stack s H ⟨[.ref a], []⟩ [.ref a] [.ref a] _ E0 hr.in1 I.env0.in1 (hb _ [.ref a] I.kIn rfl) (.cons rfl .nil) q) fun r s' hq => ?_))
  cases r with
  | error e => exact hq.elim
  | ok fl =>
    cases fl with
    | ret u =>
      obtain ⟨v, H', I3, rv, n, rfl, hn, q3⟩ := I.after hq
      obtain ⟨t, rfl⟩ := rv
      exact ⟨⟨Int.natCast_nonneg n, by omega⟩, .int n, H', I3.tok _, ⟨_, rfl⟩, q3⟩
    | next => exact False.elim hq
    | brk => exact False.elim hq
    | cont => exact False.elim hq
/-! ### f(e, .., k=e), f a name that holds one of two defs -/
section
variable {X : Cx} {CX : CXT} {k n i : Nat} {f : Addr} {fd : FuncData} {ps ks : List Str} {sp : Sp} {g : List Value → List Value → List Value} {gV : List V → List V → List V} {E : XK} {x : Str} {p pos : Pos} {e : Expr} {es : List Expr} {kws : List Keyword} {t tk : TA}
def tCallLN (i : Nat) (f : Addr) (n m : Nat) (sp : Sp) (gV : List V → List V → List V) (E : XK) (t tk : TA) : TE := fun σ H Q => σ[i]? = some (some (.ref f)) ∧ tCallN n m sp gV E t tk σ H Q
theorem pe_callLN (F : FnOk X.prog X.w X.K X.mg X.base CX k f fd ps sp) (hr : Room k X.A) (hN : X.N[i]? = some x) (hv : Vis X.env.scope x) (hk : PySem.W.keepIn X.K (.ref f) = true) (hb : KBn X.K fd ps n ks g gV) (hx : Passes CX X E)
    (ha : PA X (e :: es) t) (hkw : PK X kws tk) (hall : (backToKw pos (keywordEach kws X.env)).all (·.1.isSome) = true := by rfl) (hks : (backToKw pos (keywordEach kws X.env)).filterMap (·.1) = ks := by rfl)
    (hdb : (x == ("__debug__" : Str)) = false := by decide) (hcd : (x == ("__classdict__" : Str)) = false := by decide) (he : starEach (e :: es) X.env = (false, eval e X.env) :: starEach es X.env := by rfl)
    (hpl : ((backTo pos (starEach (e :: es) X.env)).any (·.1) || (backToKw pos (keywordEach kws X.env)).any (·.1.isNone)) = false := by rfl) :
    PE X (.Call (.Name x p) (e :: es) kws pos) (tCallLN i f n ks.length sp gV E t tk) := by
  refine ⟨fun pins s σ H Q I h => ?_⟩
  obtain ⟨hs, h⟩ := h
  refine wpAny_Call_Name_kw (thn ((pe_var (pos := p) hN hv hdb hcd).run pins s σ H (fun v H1 => v = .ref f ∧ H1 = H) I ⟨.ref f, hs, rfl, rfl⟩) fun u s1 ⟨v, H1, I1, r1, q1⟩ => ?_)
  obtain ⟨rfl, rfl⟩ := q1
  cases r1
  refine PySem.W.callWith_KW (h₀ := X.base) I.ok.mod.kin hk hall (thn (ha.run pos pins s1 σ _ _ I1 h) fun us s2 ⟨vs, H2, I2, r, q⟩ => ?_) hpl he
  refine thn (hkw.run pos pins s2 σ H2 _ I2 q) fun ws s3 ⟨zs, H3, I3, rz, l1, l2, q2⟩ => ⟨I3.kIn, ?_⟩
  rw [hks]
  exact run_fnN F hr hb hx I3 r rz l1 l2 q2
/-- of two readings, one -/
theorem pe_or {X : Cx} {e : Expr} {t1 t2 : TE} (h1 : PE X e t1) (h2 : PE X e t2) : PE X e (fun σ H Q => t1 σ H Q ∨ t2 σ H Q) :=
  ⟨fun pins s σ H Q I h => h.elim (h1.run pins s σ H Q I) (h2.run pins s σ H Q I)⟩
end
/-! ### a lambda called within a try: what leaves it is wished for at the caller's slots -/
section
variable {X : Cx} {pins : List (Addr × Obj)} {σ : L2.St} {H : Hp} {s : Shared}
theorem pe_actS {CXg : CXT} {Eg : XK} {Ng : List Str} {qg : Str} {sg : Scope} {g f c' : Addr} {cdg pm ctv : Value} {params : Arguments} {body : Expr} {scope : Scope} {k i : Nat} {a : Str} {pn : List (Addr × Obj)} {xe : Value → Shared → Prop} {W : WX} {t : XK → TE} {p1 p2 : Pos}
    (I : Inv X pins σ H s) (L : LamS X.env.scope scope) (hf : s.heap.get? f = some (PySem.W.kla_obj "<lambda>" (X.env.qual ++ "<lambda>") params body scope (cloFrom X.env.cells scope.names []) pm c' ctv)) (hfn : H f = none) (hfr : f ∉ frs X.stack)
    (hbind : bindArgs (PySem.W.kla_fn "<lambda>" (X.env.qual ++ "<lambda>") params body scope (cloFrom X.env.cells scope.names []) pm (.ref c') ctv) ⟨[], []⟩ = pure [])
    (tk : Takes ((cxOf CXg X.prog X.w X.K X.mg X.base Ng qg sg g cdg X.A X.stack s H Eg).tr pn xe) W) (hr : Room (k + 1) (X.A.deeper (envOfC qg sg s.heap.objs.size g cdg)))
    (hbody : ∀ (A : Around) (outer : List Env) (s : Shared) (H : Hp) (E : XK), Room k (A.deeper (lamEnv X scope s.heap.objs.size f c')) → PE (lamCx X A outer s H E scope f c') body (t E))
    (hN : Ng[i]? = some a) (hv : Vis sg a) (hd : (a == ("__debug__" : Str)) = false := by decide) (hcd : (a == ("__classdict__" : Str)) = false := by decide) :
    PE ((cxOf CXg X.prog X.w X.K X.mg X.base Ng qg sg g cdg X.A X.stack s H Eg).tr pn xe) (.Call (.Name a p1) [] [] p2)
      (fun σZ HZ Q => σZ[i]? = some (some (.ref f)) ∧ HZ c' = some (CodeO c' (X.env.qual ++ "<lambda>")) ∧ ∃ E : XK, (∀ cls d H', E cls d H' → W cls d σZ H') ∧ t E σ HZ Q) := by
  refine ⟨fun pinsZ sZ σZ HZ Q IZ h => ?_⟩
  obtain ⟨hs, hc, E, hW, ht⟩ := h
  refine wpAny_Call_Name_kw (thn ((pe_var (pos := p1) (i := i) hN hv hd hcd).run pinsZ sZ σZ HZ (fun v H1 => v = .ref f ∧ H1 = HZ) IZ ⟨.ref f, hs, rfl, rfl⟩) fun u s1 ⟨v, H1, I1, r1, q1⟩ => ?_)
  obtain ⟨ev, eH⟩ := q1
  subst ev
  rw [eH] at I1
  obtain rfl : u = Value.ref f := r1
  have at1 := I1.base.keep f _ hf hfn hfr (fun z => nomatch (show f ∈ ([] : List Addr) from z))
  refine PySem.W.callWith_F0 ⟨_, _, _, _, at1⟩ ?_
  have un : Un (frs X.stack) [] H HZ s.heap s1.heap := I1.base
  obtain ⟨⟨oc, vs, tt, hoc, hdc, hvc⟩, _, _⟩ := I1.hok c' _ hc
  have rc : codeAny (model X.prog X.w) (X.A.deeper (envOfC qg sg s.heap.objs.size g cdg)) (.call (.ref f) ⟨[], []⟩) (CR (L2.CX X.prog X.w) (envOfC qg sg s.heap.objs.size g cdg :: X.stack) X.prog X.w HZ s1 Q E) s1 := by
    refine PySem.W.kla_callFunE hr.depth at1 rfl L.co L.gen rfl ⟨c', oc, vs, tt, rfl, hoc, hdc, hvc⟩ ?_
    rw [hbind]
    refine wpAny_pure (wpAny_newFunctionEnv (fun y hy => (L.own y hy).2) (fun y hy => absurd hy (by simp)) (fun h₁ hns hsb => ⟨I1.nolimit.fresh _ hsb, ?_⟩) L.kind)
    have kp : ∀ b o, s1.heap.get? b = some o → h₁.get? b = some o := fun b o e => hsb.extBut b o (Nat.ne_of_lt (Heap.lt_size e)) (Heap.get?_push_of_some _ e)
    show codeAny _ _ (.expr body (lamEnv X scope s1.heap.objs.size f c')) _ _
    have J : Inv (lamCx X (X.A.deeper (envOfC qg sg s.heap.objs.size g cdg)) (envOfC qg sg s.heap.objs.size g cdg :: X.stack) s1 HZ E scope f c') [] σ HZ { s1 with heap := h₁, toks := s1.toks + ([] : List (Str × Value)).length } :=
      lam_start2 I L I1.env0 hr.hd un hns kp
    refine PySem.W.kla_codeExpr (wpAny_mono ((hbody _ _ s1 HZ E (hr.deeper _)).run [] _ _ HZ Q J ht) (fun v s' hq => ?_) fun e s' hq => hq)
    obtain ⟨w', H', J', rv, q⟩ := hq
    exact ⟨w', H', J'.os, J'.bare, J'.base, J'.hok, rv, q⟩
  refine wpAny_call (codeAny_mono rc fun r s' hq => ?_)
  cases r with
  | error e => exact passAt (tk.imp fun c d σ' H' (z : σ' = σZ ∧ E c d H') => by
        rw [z.1]
        exact hW _ _ _ z.2) σZ pinsZ HZ s1 e s' I1 (by
        obtain ⟨a, B, H', cls, d, e1, e2, e3, e4, e5, e6, e7, e8⟩ := hq
        exact ⟨a, B, H', cls, d, e1, e2, e3, e4, e5, e6, e7, rfl, e8⟩)
  | ok fl =>
    cases fl with
    | ret u => exact I1.after hq
    | next => exact False.elim hq
    | brk => exact False.elim hq
    | cont => exact False.elim hq
end
/-! ### f(lambda: .., g), f a def that calls the first and hands what it caught to the second -/
def Gives2 (X : Cx) (k : Nat) (Ng : List Str) (x : Str) (sg : Scope) (g g2 : Addr) (cdg : Value) (bg : List Stmt) (a : Str) (q : Str) (TT : (XK → Hp → VK → Prop) → Hp → VK → Prop) : Prop :=
  ∀ (f c : Addr) (s : Shared) (H : Hp) (Q : VK) (tl : XK → Hp → VK → Prop), Room k (X.A.deeper (envOfC x sg s.heap.objs.size g cdg)) →
    (∀ (W : WX) (pn : List (Addr × Obj)) (xe : Value → Shared → Prop) (q1 q2 : Pos),
      Takes ((cxOf L2.CX0 X.prog X.w X.K X.mg X.base Ng x sg g cdg X.A X.stack s H L2.E0).tr pn xe) W →
      PE ((cxOf L2.CX0 X.prog X.w X.K X.mg X.base Ng x sg g cdg X.A X.stack s H L2.E0).tr pn xe) (.Call (.Name a q1) [] [] q2)
        (fun σZ HZ Q => σZ[0]? = some (some (.ref f)) ∧ HZ c = some (CodeO c q) ∧ ∃ E : XK, (∀ cls d H', E cls d H' → W cls d σZ H') ∧ tl E HZ Q)) →
    H c = some (CodeO c q) → TT tl H Q →
    ∃ t, PSs (cxOf L2.CX0 X.prog X.w X.K X.mg X.base Ng x sg g cdg X.A X.stack s H L2.E0).nox bg t ∧ t { nx := fun _ H' => Q .non H', rt := Q } (L2.start Ng [.ref f, .ref g2]) H
def tLam2 (T : List (Addr × Str)) (TT : (XK → Hp → VK → Prop) → Hp → VK → Prop) (t : XK → TE) : TE := fun σ H Q => Tabs T H ∧ ∀ H1, ExtN H H1 → Tabs T H1 → TT (fun E H' Q' => t E σ H' Q') H1 Q
section
variable {X : Cx}
theorem pe_lamcall2 {T : List (Addr × Str)} {TT : (XK → Hp → VK → Prop) → Hp → VK → Prop} {x y a b : Str} {g g2 c P : Addr} {k : Nat} {pg : Arguments} {bg : List Stmt} {sg : Scope} {dV kV doc pm cdv ct oc : Value} {an od : Option Addr} {osl : Array (Option Value)} {Ng : List Str}
    {params : Arguments} {body : Expr} {scope : Scope} {t : XK → TE} {p lpos ypos pos : Pos} (hg : Gl X x) (hm : X.mg x = some (.ref g)) (hk : PySem.W.keepIn X.K (.ref g) = true) (hy : PE X (.Name y ypos) (tC (.ref g2)))
    (lk : X.K.lookup g = some ⟨oc, od, .func (PySem.W.fnOf x x pg bg sg dV kV doc pm an cdv ct), osl⟩) (hcg : PySem.W.codeIn X.K cdv x = true) (hb : L2.Binds X.K (PySem.W.fnOf x x pg bg sg dV kV doc pm an cdv ct) [a, b] []) (Sg : FnScope Ng [a, b] sg) (hNg : Ng[0]? = some a) (hva : Vis sg a)
    (hG : Gives2 X (k + 1) Ng x sg g g2 cdv bg a (lamQ X) TT)
    (TB : TabB X.base X.mg c P) (hcode : X.env.code = .ref c) (hmT : (P, lamQ X) ∈ T) (hu : ∀ p ∈ T, p.1 = P → p.2 = lamQ X) (hr : Room (k + 2) X.A) (L : LamS X.env.scope scope) (hdef : defaultsOf params X.env = ([], []))
    (hbind : ∀ (q : Str) (cl : List (Str × Addr)) (pm cv ctv : Value), bindArgs (PySem.W.kla_fn "<lambda>" q params body scope cl pm cv ctv) ⟨[], []⟩ = pure [])
    (hbody : ∀ (A : Around) (outer : List Env) (s : Shared) (H : Hp) (E : XK) (f c' : Addr), Room k (A.deeper (lamEnv X scope s.heap.objs.size f c')) → PE (lamCx X A outer s H E scope f c') body (t E))
    (hdb : (x == ("__debug__" : Str)) = false := by decide) (hd : (a == ("__debug__" : Str)) = false := by decide) (hcd : (a == ("__classdict__" : Str)) = false := by decide) :
    PE X (.Call (.Name x p) [.Lambda params body scope lpos, .Name y ypos] [] pos) (tLam2 T TT t) := by
  constructor
  rintro pins s σ H Q I ⟨hT, h⟩
  refine wpAny_Call_Name_kw (ld_glob I hg hm ?_ hdb)
  have args : PA X [.Lambda params body scope lpos, .Name y ypos] (tCons (tLamV T X params body scope) (tCons (tC (.ref g2)) tNil)) := pa_cons (pe_lamV TB hcode hmT hu L hdef) (pa_cons hy pa_nil)
  refine PySem.W.callWith_K (h₀ := X.base) I.ok.mod.kin hk (thn (args.run pos pins s σ H (fun vs G => ∃ (f c' : Addr) (H1 : Hp), vs = [.ref f, .ref g2] ∧ ExtN H H1 ∧ Tabs T H1 ∧ H1 c' = some (CodeO c' (lamQ X)) ∧ H1 f = none ∧ G = upd H1 f (CloO (lamQ X) params body scope (cloFrom X.env.cells scope.names []) c' f)) I
    ⟨hT, fun f c' H1 ext T1 hc hf _ _ => ⟨f, c', H1, rfl, ext, T1, hc, hf, rfl⟩⟩) ?_) (by rfl) (by rfl)
  rintro us s2 ⟨vs, G, B2, rel, f, c', H1, rfl, ext, T1, hc, hf, rfl⟩
  refine ⟨B2.kIn, ?_⟩
  cases rel with
  | cons r0 rn =>
    cases rn with
    | cons r1 rn =>
      cases rn
      cases r0
      cases r1
      have clo : (upd H1 f (CloO (lamQ X) params body scope (cloFrom X.env.cells scope.names []) c' f)) f = some (CloO (lamQ X) params body scope (cloFrom X.env.cells scope.names []) c' f) := upd_same
      have B3 := letgo B2 clo
      have eH : delH (upd H1 f (CloO (lamQ X) params body scope (cloFrom X.env.cells scope.names []) c' f)) f = H1 := by
        funext z
        by_cases e : z = f
        · rw [e, delH_same, hf]
        · rw [delH_ne e, upd_ne e]
      rw [eH] at B3
      obtain ⟨⟨pm', ctv', got⟩, _⟩ := B2.hok f _ clo
      have offF : f ∉ frs X.stack := by
        intro hm'
        have z := B2.stkFree f hm'
        rw [clo] at z
        cases z
      have rc : codeAny (model X.prog X.w) X.A (.call (.ref g) ⟨[.ref f, .ref g2], []⟩) (CR L2.CX0 X.stack X.prog X.w H1 s2 Q L2.E0) s2 := by
        refine run_ofS (N := Ng) (ps := [a, b]) (us := [.ref f, .ref g2]) (vs := [.ref f, .ref g2]) lk hcg Sg hr B3.env0 (hb s2 [.ref f, .ref g2] B3.kIn rfl) (.cons rfl (.cons rfl .nil)) rfl ?_
        intro hr'
        obtain ⟨t', ht', hq'⟩ := hG f c' s2 H1 Q (fun E H' Q' => t E σ H' Q') hr'
          (fun W pn xe q1 q2 tk => pe_actS (i := 0) B3 L got hf offF (hbind _ _ _ _ _) tk hr' (fun A outer s H E hr2 => hbody A outer s H E f c' hr2) hNg hva hd hcd)
          hc (h H1 ext T1)
        exact ⟨t', ht'.nox, hq'⟩
      refine wpAny_call (codeAny_mono rc ?_)
      rintro r s3 hq
      cases r with
      | error e => exact (show False from hq).elim
      | ok fl =>
        cases fl with
        | ret u => exact B3.after hq
        | next => exact False.elim hq
        | brk => exact False.elim hq
        | cont => exact False.elim hq
end
end L2X
namespace Dt
open PySem PySem.Spec PyProof.Rows L2 L2X LamX
open SX (S)
/-! ### what a caught exception is, by its twelve tests -/
structure T12 (mg : Str → Option Value) (CD : Addr) (cs : List Addr) : Prop where
  isi : mg "isinstance" = none
  ver : mg "ValueError" = none
  en : mg "enumerate" = none
  gd : mg "DotError" = some (.ref CD)
  gs : ∃ c0 c1 c2 c3 c4 c5 c6 c7 c8 c9 c10 c11 : Addr, cs = [c0, c1, c2, c3, c4, c5, c6, c7, c8, c9, c10, c11] ∧ mg "NoPicture" = some (.ref c0) ∧ mg "NoPlace" = some (.ref c1) ∧ mg "NoShape" = some (.ref c2) ∧ mg "NoSign" = some (.ref c3) ∧ mg "NoWord" = some (.ref c4) ∧ mg "NoReading" = some (.ref c5) ∧ mg "NoTable" = some (.ref c6) ∧ mg "NoLine" = some (.ref c7) ∧ mg "NoDeed" = some (.ref c8) ∧ mg "NoBack" = some (.ref c9) ∧ mg "TooMany" = some (.ref c10) ∧ mg "NoText" = some (.ref c11)
/-- an exception of the class at D, the j-th of the twelve -/
structure K12 (K : PySem.W.Frag) (CD : Addr) (cs : List Addr) (D : Addr) (j : Nat) : Prop where
  lt : j < 12
  ex : ExcC K D
  vk : PySem.W.kitOne K (.ref D) (.type "ValueError") = some true
  te : PySem.W.exmOne K (.ref D) (.ref CD) = some true
  ks : ∀ (i : Nat) (c : Addr), cs[i]? = some c → PySem.W.kitOne K (.ref D) (.ref c) = some (decide (i = j))
def fl12 (j : Nat) : List Bool := (List.range 12).map fun i => decide (i = j)
abbrev sLC : Stmt := topS 60
theorem scLC : FnScope ["e", "found"] ["e"] (defScope sLC) := ⟨rfl, rfl, rfl, by decide +kernel, rfl, by decide +kernel, by decide +kernel⟩
def spLC (K : PySem.W.Frag) (CD : Addr) (cs : List Addr) : Sp := fun vs H Q _ => ∃ (a D : Addr) (d : Option Addr) (j : Nat), vs = [.ref a] ∧ KX H a D d ∧ K12 K CD cs D j ∧ ∀ (l : Addr) H', Same H H' → H l = none → H' l = some (.lst ((fl12 j).map V.bl)) → Q (.ref l) H'
abbrev sLW : Stmt := topS 59
abbrev nLW : List Str := ["work", "some", "caught", "found", "e", "kinds", "at", "there"]
theorem scLW : FnScope nLW ["work", "some"] (defScope sLW) := ⟨rfl, rfl, rfl, by decide +kernel, rfl, by decide +kernel, by decide +kernel⟩
/-- what _law_word makes of a work -/
def TWrd (K : PySem.W.Frag) (CD : Addr) (cs : List Addr) : (XK → Hp → VK → Prop) → Hp → VK → Prop := fun tl H Q => ∀ (R : VK) H1, Same H H1 → (∀ v H', (∀ t H'', Same H' H'' → H'' t = some (.tup [.str "told", v]) → Q (.ref t) H'') → R v H') →
  tl (fun cls d H' => ∃ D j, cls = .ref D ∧ K12 K CD cs D j ∧ (d = none ∨ ∃ dd fs, d = some dd ∧ H' dd = some (.xd fs)) ∧ ∀ t l H'', Same H' H'' → H'' t = some (.tup [.str "refused", .ref l]) → H'' l = some (.lst [.int (j : Nat)]) → Q (.ref t) H'') H1 R
/-- what stands behind the try -/
def WdM (K : PySem.W.Frag) (CD : Addr) (cs : List Addr) (Q : VK) (y2 y3 : Option V) (H : Hp) : Prop :=
  (∃ v, y2 = some .non ∧ y3 = some v ∧ ∀ t H', Same H H' → H' t = some (.tup [.str "told", v]) → Q (.ref t) H') ∨ ∃ a D d j, y2 = some (.ref a) ∧ KX H a D d ∧ K12 K CD cs D j ∧
    ∀ t l H', Same H H' → H' t = some (.tup [.str "refused", .ref l]) → H' l = some (.lst [.int (j : Nat)]) → Q (.ref t) H'
section
variable {P : Program} {w : World} {K : PySem.W.Frag} {mg : Str → Option Value} {base : Heap} {CD : Addr} {cs : List Addr}
theorem ok_lc {f : Addr} {fd : FuncData} {k : Nat} (F : Fun K "_law_classes" "_law_classes" sLC f fd) (T : T12 mg CD cs) : FnOk P w K mg base CX0 (k + 1) f fd ["e"] (spLC K CD cs) := by
  obtain ⟨c0, c1, c2, c3, c4, c5, c6, c7, c8, c9, c10, c11, ecs, g0, g1, g2, g3, g4, g5, g6, g7, g8, g9, g10, g11⟩ := T.gs
  refine F.ok scLC (fun vs H Q E h => ?_) (fun cdv A outer s H vs Q E hr h => ?_)
  · obtain ⟨a, D, d, j, rfl, _⟩ := h
    rfl
  · obtain ⟨a, D, d, j, rfl, kx, tk, q⟩ := h
    have nd := scLC.nd
    refine ⟨_, C8.pss_cut (ps_set (i := 1) nd rfl (.inl rfl) (pe_lst (pa_cons (pe_callB call_isY (by rfl) T.isi PyProof.Rows.boot_isinstance (pa_cons (pv 0) (pa_cons (pe_glob (v := .ref c0) (by rfl) g0 rfl) pa_nil))) (pa_cons (pe_callB call_isY (by rfl) T.isi PyProof.Rows.boot_isinstance (pa_cons (pv 0) (pa_cons (pe_glob (v := .ref c1) (by rfl) g1 rfl) pa_nil))) (pa_cons (pe_callB call_isY (by rfl) T.isi PyProof.Rows.boot_isinstance (pa_cons (pv 0) (pa_cons (pe_glob (v := .ref c2) (by rfl) g2 rfl) pa_nil))) (pa_cons (pe_callB call_isY (by rfl) T.isi PyProof.Rows.boot_isinstance (pa_cons (pv 0) (pa_cons (pe_glob (v := .ref c3) (by rfl) g3 rfl) pa_nil))) pa_nil))))))
      (C8.pss_cut (ps_set (i := 1) nd rfl (.inl rfl) (pe_op op_cat (pv 1) (pe_lst (pa_cons (pe_callB call_isY (by rfl) T.isi PyProof.Rows.boot_isinstance (pa_cons (pv 0) (pa_cons (pe_glob (v := .ref c4) (by rfl) g4 rfl) pa_nil))) (pa_cons (pe_callB call_isY (by rfl) T.isi PyProof.Rows.boot_isinstance (pa_cons (pv 0) (pa_cons (pe_glob (v := .ref c5) (by rfl) g5 rfl) pa_nil))) (pa_cons (pe_callB call_isY (by rfl) T.isi PyProof.Rows.boot_isinstance (pa_cons (pv 0) (pa_cons (pe_glob (v := .ref c6) (by rfl) g6 rfl) pa_nil))) (pa_cons (pe_callB call_isY (by rfl) T.isi PyProof.Rows.boot_isinstance (pa_cons (pv 0) (pa_cons (pe_glob (v := .ref c7) (by rfl) g7 rfl) pa_nil))) pa_nil)))))))
      (pss_one (ps_ret (pe_op op_cat (pv 1) (pe_lst (pa_cons (pe_callB call_isY (by rfl) T.isi PyProof.Rows.boot_isinstance (pa_cons (pv 0) (pa_cons (pe_glob (v := .ref c8) (by rfl) g8 rfl) pa_nil))) (pa_cons (pe_callB call_isY (by rfl) T.isi PyProof.Rows.boot_isinstance (pa_cons (pv 0) (pa_cons (pe_glob (v := .ref c9) (by rfl) g9 rfl) pa_nil))) (pa_cons (pe_callB call_isY (by rfl) T.isi PyProof.Rows.boot_isinstance (pa_cons (pv 0) (pa_cons (pe_glob (v := .ref c10) (by rfl) g10 rfl) pa_nil))) (pa_cons (pe_callB call_isY (by rfl) T.isi PyProof.Rows.boot_isinstance (pa_cons (pv 0) (pa_cons (pe_glob (v := .ref c11) (by rfl) g11 rfl) pa_nil))) pa_nil))))))))), ?_⟩
    subst ecs
    have k0 := tk.ks 0 c0 rfl
    have k1 := tk.ks 1 c1 rfl
    have k2 := tk.ks 2 c2 rfl
    have k3 := tk.ks 3 c3 rfl
    have k4 := tk.ks 4 c4 rfl
    have k5 := tk.ks 5 c5 rfl
    have k6 := tk.ks 6 c6 rfl
    have k7 := tk.ks 7 c7 rfl
    have k8 := tk.ks 8 c8 rfl
    have k9 := tk.ks 9 c9 rfl
    have k10 := tk.ks 10 c10 rfl
    have k11 := tk.ks 11 c11 rfl
    have e4 : ∀ n, (fl12 j).take n ++ [decide (n = j), decide (n + 1 = j), decide (n + 2 = j), decide (n + 3 = j)] = (fl12 j).take (n + 4) ∨ 12 < n + 4 := fun n => by
      by_cases h : 12 < n + 4
      · exact .inr h
      · left
        have : n = 0 ∨ n = 1 ∨ n = 2 ∨ n = 3 ∨ n = 4 ∨ n = 5 ∨ n = 6 ∨ n = 7 ∨ n = 8 := by omega
        rcases this with rfl | rfl | rfl | rfl | rfl | rfl | rfl | rfl | rfl <;> rfl
    refine ⟨fun σ' H' => ∃ l, σ' = [some (.ref a), some (.ref l)] ∧ Same H H' ∧ H l = none ∧ H' l = some (.lst (((fl12 j).take 4).map V.bl)), ?_, ?_⟩
    · refine ⟨.ref a, rfl, a, D, d, .ref c0, .ref c0, _, rfl, kx, tk.ex, (fun u r => r), k0, .ref a, rfl, a, D, d, .ref c1, .ref c1, _, rfl, kx, tk.ex, (fun u r => r), k1, .ref a, rfl, a, D, d, .ref c2, .ref c2, _, rfl, kx, tk.ex, (fun u r => r), k2, .ref a, rfl, a, D, d, .ref c3, .ref c3, _, rfl, kx, tk.ex, (fun u r => r), k3, by show 4 ≤ sizeLine; decide, fun l hl => ⟨l, rfl, same_upd hl, hl, upd_same⟩⟩
    rintro _ H1 ⟨l1, rfl, s1, n1, h1⟩
    refine ⟨fun σ' H' => ∃ l, σ' = [some (.ref a), some (.ref l)] ∧ Same H H' ∧ H l = none ∧ H' l = some (.lst (((fl12 j).take 8).map V.bl)), ?_, ?_⟩
    · refine ⟨.ref l1, rfl, .ref a, rfl, a, D, d, .ref c4, .ref c4, _, rfl, (kx.same s1), tk.ex, (fun u r => r), k4, .ref a, rfl, a, D, d, .ref c5, .ref c5, _, rfl, (kx.same s1), tk.ex, (fun u r => r), k5, .ref a, rfl, a, D, d, .ref c6, .ref c6, _, rfl, (kx.same s1), tk.ex, (fun u r => r), k6, .ref a, rfl, a, D, d, .ref c7, .ref c7, _, rfl, (kx.same s1), tk.ex, (fun u r => r), k7, by show 4 ≤ sizeLine; decide, fun l hl => ?_⟩
      have sl := same_upd (o := .lst [V.bl (decide (4 = j)), V.bl (decide (5 = j)), V.bl (decide (6 = j)), V.bl (decide (7 = j))]) hl
      refine ⟨l1, l, _, _, rfl, rfl, sl _ _ h1, upd_same, by show 8 ≤ sizeLine; decide, fun l2 hl2 => ⟨l2, rfl, (s1.trans sl).trans (same_upd hl2), (s1.trans sl).free hl2, ?_⟩⟩
      rw [upd_same]
      rfl
    rintro _ H2 ⟨l2, rfl, s2, n2, h2⟩
    refine ⟨.ref l2, rfl, .ref a, rfl, a, D, d, .ref c8, .ref c8, _, rfl, (kx.same s2), tk.ex, (fun u r => r), k8, .ref a, rfl, a, D, d, .ref c9, .ref c9, _, rfl, (kx.same s2), tk.ex, (fun u r => r), k9, .ref a, rfl, a, D, d, .ref c10, .ref c10, _, rfl, (kx.same s2), tk.ex, (fun u r => r), k10, .ref a, rfl, a, D, d, .ref c11, .ref c11, _, rfl, (kx.same s2), tk.ex, (fun u r => r), k11, by show 4 ≤ sizeLine; decide, fun l hl => ?_⟩
    have sl := same_upd (o := .lst [V.bl (decide (8 = j)), V.bl (decide (9 = j)), V.bl (decide (10 = j)), V.bl (decide (11 = j))]) hl
    refine ⟨l2, l, _, _, rfl, rfl, sl _ _ h2, upd_same, by show 12 ≤ sizeLine; decide, fun l3 hl3 => q l3 _ ((s2.trans sl).trans (same_upd hl3)) ((s2.trans sl).free hl3) ?_⟩
    rw [upd_same]
    rfl
end
theorem word_gives {X : Cx} {k : Nat} {q : Str} {g gC CD : Addr} {fdC : FuncData} {cs : List Addr} {cdg : Value} (T : T12 X.mg CD cs) (GC : FnOk X.prog X.w X.K X.mg X.base CX0 k gC fdC ["e"] (spLC X.K CD cs)) (kC : PySem.W.keepIn X.K (.ref gC) = true) (bC : Binds X.K fdC ["e"] []) :
    Gives2 X (k + 1) nLW "_law_word" (defScope sLW) g gC cdg (defBody sLW) "work" q (TWrd X.K CD cs) := by
  intro f c s H Q tl hr act hc h
  have nd := scLW.nd
  refine ⟨_, C8.pss_cut (ps_asg (pe_tup (pa_cons pe_non (pa_cons pe_non pa_nil))) (pg_tup rfl (pgs_cons (pg_name (i := 2) nd rfl (Or.inl rfl)) (pgs_cons (pg_name (i := 3) nd rfl (Or.inl rfl)) pgs_nil))))
    (C8.pss_cut (ps_try_keep (i := 4) (c := .ref CD) (ts := fun a cls d => tAsg (tVar 4) (gName 2))
        (tb := fun W Dn σ H => σ[0]? = some (some (.ref f)) ∧ H c = some (CodeO c q) ∧ ∃ Ech : XK, (∀ cls d H', Ech cls d H' → W cls d σ H') ∧ tl Ech H (fun v H' => Dn.nx (σ.set 3 (some v)) H'))
        rfl rfl rfl nd rfl rfl ⟨rfl, by decide, .inl T.gd⟩ (fun W pn xe tk _ => ?_) (fun a oe cls d pn _ _ => pss_one (ps_set (i := 2) nd rfl (.inl rfl) (pv 4))))
    (pss_cons (ps_if (pt_cmp (pc_isN (pv 2))) (pss_one (ps_ret (pe_tup (pa_cons pe_str (pa_cons (pv 3) pa_nil))))) pss_nil)
    (C8.pss_cut (ps_setLc (i := 5) (own := [("at", 6), ("there", 7)]) (g := gTup X.K 2 (gCons (gName 6) (gCons (gName 7) gNil))) (by rfl) nd rfl rfl (sw_true rfl rfl rfl (by decide +kernel))
        (pi_enumG (by rfl) T.en (pa_cons (pe_callL (i := 1) (E := E0) GC (hr.mono (by omega)) rfl (.inl rfl) kC bC .nil pass0 (pa_cons (pv 2) pa_nil)) pa_nil))
        (blkOk_by (N := nLW) (sc := defScope sLW) (by decide +kernel)) (fun _ _ _ _ _ => pg_tup rfl (pgs_cons (pg_name (i := 6) nd rfl (Or.inl rfl)) (pgs_cons (pg_name (i := 7) nd rfl (Or.inl rfl)) pgs_nil))) (fun _ _ _ _ _ => pts_one (pt_val (pv 7))) (fun _ _ _ _ _ => pv 6))
    (pss_one (ps_ret (pe_tup (pa_cons pe_str (pa_cons (pe_ifExp (pt_val (pe_callB call_isY (by rfl) T.isi PyProof.Rows.boot_isinstance (pa_cons (pv 2) (pa_cons (pe_bltn (v := .ty "ValueError") (u := .type "ValueError") (by rfl) T.ver (by decide +kernel) rfl) pa_nil)))) (pv 5) pe_non) pa_nil)))))))), ?_⟩
  · constructor
    rintro pins s' σ H' Dn I ⟨h1, h2, Ech, hW, h3⟩
    exact (pss_one (ps_set (i := 3) nd rfl (.inl rfl) (act W pn xe _ _ tk))).run pins s' σ H' Dn I ⟨h1, h2, Ech, hW, h3⟩
  · refine ⟨fun σ' H' => σ' = [some (.ref f), some (.ref gC), some .non, some .non, none, none, none, none] ∧ Same H H', ?_, ?_⟩
    · exact ⟨by show 2 ≤ sizeLine; decide, fun t ht => ⟨t, _, rfl, SqT.of upd_same, rfl, _, _, rfl, _, _, rfl, rfl, rfl, same_upd ht⟩⟩
    rintro _ H1 ⟨rfl, s1⟩
    refine ⟨fun σ' H' => ∃ y2 y3, σ' = [some (.ref f), some (.ref gC), y2, y3, none, none, none, none] ∧ WdM X.K CD cs Q y2 y3 H', ?_, ?_⟩
    · refine ⟨rfl, s1 _ _ hc, _, ?_, h _ H1 s1 fun v H' hq => ⟨_, _, rfl, .inl ⟨v, rfl, rfl, hq⟩⟩⟩
      rintro cls d H' ⟨D, j, rfl, tk, hd, hq⟩
      refine ⟨tk.te, fun a ha => ⟨.ref a, rfl, some (.ref a), some .non, rfl, .inr ⟨a, D, d, j, rfl, ⟨upd_same, ?_⟩, tk, fun t l H'' sm => hq t l H'' ((same_upd ha).trans sm)⟩⟩⟩
      exact hd.imp id fun ⟨dd, fs, e, z⟩ => ⟨dd, fs, e, same_upd ha _ _ z⟩
    rintro _ H2 ⟨y2, y3, rfl, hm⟩
    rcases hm with ⟨v, rfl, rfl, q0⟩ | ⟨a, D, d, j, rfl, kx, tk, q0⟩
    · exact ⟨.non, rfl, _, rfl, iteT ⟨v, rfl, by show 2 ≤ sizeLine; decide, fun t ht => q0 t _ (same_upd ht) upd_same⟩⟩
    refine ⟨.ref a, rfl, _, rfl, iteF ?_⟩
    refine ⟨fun σ' H' => ∃ l, σ' = [some (.ref f), some (.ref gC), some (.ref a), y3, none, some (.ref l), none, none] ∧ Same H2 H' ∧ H' l = some (.lst [.int (j : Nat)]), ?_, ?_⟩
    · refine ⟨rfl, .ref a, rfl, a, D, d, j, rfl, kx, tk, fun l H3 s3 n3 h3 => ⟨.lst l, _, rfl, SqL.of h3, fun N hN => ?_⟩⟩
      refine lc_enumG (K := X.K) (A := .lst l) (xs := (fl12 j).map V.bl) (fun i H4 => Same H3 H4 ∧ H4 N = some (.lst (if j < i then [.int (j : Nat)] else []))) ⟨same_upd hN, upd_same⟩ (fun i H4 _ z => SqL.of (z.1 _ _ h3)) ?_ ?_
      · rintro i x H4 TT hi ⟨sm, h4⟩ nT
        obtain ⟨b, hb, rfl⟩ := map_at2 hi
        have hi12 : i < 12 := by
          have := (List.getElem?_eq_some_iff.mp hb).1
          unfold fl12 at this
          rw [List.length_map, List.length_range] at this
          exact this
        have eb : b = decide (i = j) := by
          unfold fl12 at hb
          rw [List.getElem?_map, List.getElem?_range hi12] at hb
          cases hb
          rfl
        subst eb
        have sT := same_upd (o := .tup [V.int (i : Nat), V.bl (decide (i = j))]) nT
        refine ⟨TT, _, rfl, SqT.of upd_same, rfl, _, _, rfl, _, _, rfl, rfl, rfl, .bl (decide (i = j)), rfl, _, rfl, ?_⟩
        by_cases e : i = j
        · rw [decide_eq_true e]
          rw [if_neg (by omega)] at h4
          rw [decide_eq_true e] at sT
          refine iteT ⟨.int (i : Nat), rfl, [], sT _ _ h4, by decide, same_over (sm.trans sT) hN, ?_⟩
          rw [upd_same, if_pos (by omega), e]
          rfl
        · rw [decide_eq_false e]
          rw [decide_eq_false e] at sT
          refine iteF ⟨sm.trans sT, ?_⟩
          rw [sT _ _ h4]
          by_cases h : j < i
          · rw [if_pos h, if_pos (by omega)]
          · rw [if_neg h, if_neg (by omega)]
      · rintro H4 ⟨sm, h4⟩
        have el : ((fl12 j).map V.bl).length = 12 := by
          unfold fl12
          rw [List.length_map, List.length_map, List.length_range]
        rw [el, if_pos tk.lt] at h4
        exact ⟨N, rfl, s3.trans sm, h4⟩
    rintro _ H3 ⟨l, rfl, s3, hl⟩
    exact ⟨.ref a, rfl, a, D, d, .ty "ValueError", .type "ValueError", true, rfl, kx.same s3, tk.ex, (fun u r => r), tk.vk, _, rfl, iteT ⟨.ref l, rfl, by show 2 ≤ sizeLine; decide, fun t ht => q0 t l _ (s3.trans (same_upd ht)) upd_same (same_upd ht _ _ hl)⟩⟩
end Dt
namespace L2X
open PySem PySem.Spec PyProof.Rows L2
theorem pi_tupK {X : Cx} {K : PySem.W.Frag} {tg l : Expr} {tl : TE} (hK : X.K = K) (hl : PE X l tl) : PI X tg l (iTup K tl) := by
  subst hK
  exact pi_tup hl
end L2X
namespace Dt
open PySem PySem.Spec PyProof.Rows L2 L2X
open SX (S)
/-! ### readings -/
/-- an alphabet of right shapes -/
structure AlpG (C : Addr) (H : Hp) (o : Addr) (high : Nat) (ss : List Sh) : Prop where
  al : AlpAt C H o high ss
  pr : ∀ s ∈ ss, PicR high s.w s.rs
  l1 : 0 < ss.length
  l16 : ss.length ≤ 16
theorem AlpG.same {C : Addr} {H H' : Hp} {o : Addr} {high : Nat} {ss : List Sh} (h : AlpG C H o high ss) (s : Same H H') : AlpG C H' o high ss := ⟨h.al.same s, h.pr, h.l1, h.l16⟩
theorem AlpG.shape {C : Addr} {H : Hp} {o : Addr} {high n : Nat} {ss : List Sh} (h : AlpG C H o high ss) (hn : n < ss.length) : ∃ s, ss[n]? = some s ∧ PicR high s.w s.rs ∧ wdt ss n = s.w :=
  ⟨ss[n], List.getElem?_eq_getElem hn, h.pr _ (List.getElem_mem hn), wdt_at (List.getElem?_eq_getElem hn)⟩
theorem way_len {C : Addr} {H : Hp} {o : Addr} {high cols : Nat} {ss : List Sh} {ws : List (Nat × Nat)} (h : AlpG C H o high ss) (w : WayOk ss cols ws) : ws.length ≤ cols := by
  have key : ∀ i, i ≤ ws.length → i ≤ edge ss ws i := by
    intro i
    induction i with
    | zero => intro _; exact Nat.zero_le _
    | succ i ih =>
      intro hi
      have e : ws[i]? = some ws[i] := List.getElem?_eq_getElem (by omega)
      obtain ⟨h1, h2, h3⟩ := w i _ e
      obtain ⟨s, es, pr, ew⟩ := h.shape h1
      have := pr.w0
      have := ih (by omega)
      rw [edge_at e]
      omega
  rcases Nat.eq_zero_or_pos ws.length with e | e
  · omega
  · have := key ws.length (Nat.le_refl _)
    obtain ⟨n, en⟩ : ∃ n, ws.length = n + 1 := ⟨ws.length - 1, by omega⟩
    rw [en] at this ⊢
    have e2 : ws[n]? = some ws[n] := List.getElem?_eq_getElem (by omega)
    obtain ⟨h1, h2, h3⟩ := w n _ e2
    rw [edge_at e2] at this
    omega
def winB (ss : List Sh) (e : Nat) (cols : Int) (x1 x2 : V) : Bool := betw x2 0 ((ss.length : Int) - 1) && match x2 with
  | .int n => betw x1 e (cols - (wdt ss n.toNat : Int))
  | _ => false
/-- what a window is, behind this edge -/
def WinQ (K : PySem.W.Frag) (H : Hp) (ss : List Sh) (e : Nat) (cols : Int) (x : V) (b : Bool) : Prop :=
  (∃ T, TyB K H x T ∧ tyOk T = true ∧ T ≠ "tuple" ∧ b = false) ∨ (∃ t xs, x = .ref t ∧ SqT K H t xs ∧ xs.length ≠ 2 ∧ b = false) ∨
  (∃ t x1 x2, x = .ref t ∧ SqT K H t [x1, x2] ∧ Kt K H x1 ∧ Kt K H x2 ∧ b = winB ss e cols x1 x2)
theorem WinQ.same {K : PySem.W.Frag} {H H' : Hp} {ss : List Sh} {e : Nat} {cols : Int} {x : V} {b : Bool} (h : WinQ K H ss e cols x b) (s : Same H H') : WinQ K H' ss e cols x b := by
  rcases h with ⟨T, t, o, n, q⟩ | ⟨t, xs, q, ht, n, q2⟩ | ⟨t, x1, x2, q, ht, k1, k2, q2⟩
  · exact .inl ⟨T, tyB_same2 t s, o, n, q⟩
  · exact .inr (.inl ⟨t, xs, q, sameT s ht, n, q2⟩)
  · exact .inr (.inr ⟨t, x1, x2, q, sameT s ht, k1.same s, k2.same s, q2⟩)
theorem betw_true {x : V} {lo hi : Int} (h : betw x lo hi = true) : ∃ i : Int, x = .int i ∧ lo ≤ i ∧ i ≤ hi := by
  cases x with
  | int i =>
    rw [betw_int, Bool.and_eq_true] at h
    exact ⟨i, rfl, of_decide_eq_true h.1, of_decide_eq_true h.2⟩
  | _ => exact nomatch h
theorem winB_ok {ss : List Sh} {e cols c n : Nat} (h1 : n < ss.length) (h2 : e ≤ c) (h3 : c + wdt ss n ≤ cols) : winB ss e cols (.int c) (.int n) = true := by
  show (betw (.int n) 0 ((ss.length : Int) - 1) && betw (.int c) e ((cols : Int) - (wdt ss (n : Int).toNat : Int))) = true
  rw [Int.toNat_natCast, betw_int, betw_int, decide_eq_true (by omega), decide_eq_true (by omega), decide_eq_true (by omega), decide_eq_true (by omega)]
  rfl
abbrev sALn : Stmt := inClass cAl 9
theorem scALn : FnScope ["self"] ["self"] (defScope sALn) := ⟨rfl, rfl, rfl, by decide +kernel, rfl, by decide +kernel, by decide +kernel⟩
def spALn (C : Addr) : Sp := fun vs H Q _ => ∃ (o : Addr) (high : Nat) (ss : List Sh), vs = [.ref o] ∧ AlpAt C H o high ss ∧ Q (.int ss.length) H
abbrev sIW : Stmt := topS 40
theorem scIW : FnScope ["alphabet", "thing", "edge", "columns"] ["alphabet", "thing", "edge", "columns"] (defScope sIW) := ⟨rfl, rfl, rfl, by decide +kernel, rfl, by decide +kernel, by decide +kernel⟩
def spIW (K : PySem.W.Frag) (C : Addr) : Sp := fun vs H Q _ => ∃ (o : Addr) (high e : Nat) (cols : Int) (ss : List Sh) (x : V) (b : Bool), vs = [.ref o, x, .int e, .int cols] ∧ AlpG C H o high ss ∧ WinQ K H ss e cols x b ∧ ∀ H', Same H H' → Q (.bl b) H'
abbrev sWR : Stmt := topS 39
abbrev nWR : List Str := ["alphabet", "columns", "thing", "edge", "window"]
theorem scWR : FnScope nWR ["alphabet", "columns", "thing"] (defScope sWR) := ⟨rfl, rfl, rfl, by decide +kernel, rfl, by decide +kernel, by decide +kernel⟩
def BadR (K : PySem.W.Frag) (H : Hp) (ss : List Sh) (cols : Nat) (x : V) : Prop := (∃ T, TyB K H x T ∧ tyOk T = true ∧ T ≠ "tuple") ∨
  ∃ (a : Addr) (xs : List V) (ws : List (Nat × Nat)) (y : V), x = .ref a ∧ SqT K H a xs ∧ Plc K H (xs.take ws.length) ws ∧ WayOk ss cols ws ∧ xs[ws.length]? = some y ∧ WinQ K H ss (edge ss ws ws.length) cols y false
def GoodR (K : PySem.W.Frag) (H : Hp) (ss : List Sh) (cols : Nat) (x : V) (ws : List (Nat × Nat)) : Prop := ∃ (a : Addr) (xs : List V), x = .ref a ∧ SqT K H a xs ∧ Plc K H xs ws ∧ WayOk ss cols ws
theorem BadR.same {K : PySem.W.Frag} {H H' : Hp} {ss : List Sh} {cols : Nat} {x : V} (h : BadR K H ss cols x) (s : Same H H') : BadR K H' ss cols x := by
  rcases h with ⟨T, t, o, n⟩ | ⟨a, xs, ws, y, q, ht, pl, wk, hy, wq⟩
  · exact .inl ⟨T, tyB_same2 t s, o, n⟩
  · exact .inr ⟨a, xs, ws, y, q, sameT s ht, pl.same s, wk, hy, wq.same s⟩
theorem GoodR.same {K : PySem.W.Frag} {H H' : Hp} {ss : List Sh} {cols : Nat} {x : V} {ws : List (Nat × Nat)} (h : GoodR K H ss cols x ws) (s : Same H H') : GoodR K H' ss cols x ws := by
  obtain ⟨a, xs, q, ht, pl, wk⟩ := h
  exact ⟨a, xs, q, sameT s ht, pl.same s, wk⟩
def spWR (K : PySem.W.Frag) (C CR : Addr) : Sp := fun vs H Q E => ∃ (o : Addr) (high cols : Nat) (ss : List Sh) (x : V), vs = [.ref o, .int cols, x] ∧ AlpG C H o high ss ∧
  ((BadR K H ss cols x ∧ ∀ H', Same H H' → E (.ref CR) none H') ∨ ∃ ws, GoodR K H ss cols x ws ∧ ∀ H', Same H H' → Q .non H')
abbrev sWA : Stmt := topS 45
theorem scWA : FnScope ["alphabet", "reading", "at", "column", "number"] ["alphabet", "reading", "at"] (defScope sWA) := ⟨rfl, rfl, rfl, by decide +kernel, rfl, by decide +kernel, by decide +kernel⟩
def spWA (K : PySem.W.Frag) (C : Addr) : Sp := fun vs H Q _ => ∃ (o a : Addr) (high i : Nat) (ss : List Sh) (xs : List V) (ws : List (Nat × Nat)) (p r : Nat × Nat), vs = [.ref o, .ref a, .int ((i + 1 : Nat) : Int)] ∧ AlpG C H o high ss ∧ SqT K H a xs ∧ Plc K H xs ws ∧ ws[i]? = some p ∧ ws[i + 1]? = some r ∧ p.2 < ss.length ∧
  ∀ H', Same H H' → Q (.int ((r.1 : Int) - (p.1 : Int) - (wdt ss p.2 : Int))) H'
section
variable {P : Program} {w : World} {K : PySem.W.Frag} {mg : Str → Option Value} {base : Heap} {C CA CR CT : Addr}
theorem ok_aln {f : Addr} {fd : FuncData} {k : Nat} (F : Fun K "__len__" "Alphabet.__len__" sALn f fd) (T : Tx mg) (TA : Tal K mg CA) : FnOk P w K mg base CX0 (k + 1) f fd ["self"] (spALn CA) := by
  refine F.ok scALn (fun vs H Q E h => ?_) (fun cdv A outer s H vs Q E hr h => ?_)
  · obtain ⟨o, high, ss, rfl, _⟩ := h
    rfl
  · obtain ⟨o, high, ss, rfl, ⟨dx, t, xs, ho, ht, Ss⟩, q⟩ := h
    refine ⟨_, pss_one (ps_ret (pe_callB call_len_seq (by rfl) T.len PySem.boot_len (pa_cons (pe_fld (pv 0) rfl) pa_nil))), ?_⟩
    refine ⟨.ref o, rfl, o, CA, dx, _, .ref t, rfl, ho, TA.cl, TA.nS, aF_shapes _ _, t, xs, rfl, .inr (SqT.of ht), ?_⟩
    rw [Ss.len]
    exact q
theorem ok_iw {f : Addr} {fd : FuncData} {k : Nat} (F : Fun K "_is_window" "_is_window" sIW f fd) (T : Tx mg) (TA : Tal K mg CA) (GU : Pm P w K mg base CX0 (k + 2) "is_tuple" ["thing", "many"] (spIsTup K)) (GB : Pm P w K mg base CX0 (k + 2) "is_between" ["thing", "least", "most"] (spBetw K))
    (GL : Mm P w K mg base (k + 1) CA "__len__" ["self"] (spALn CA)) (GW : Mm P w K mg base (k + 2) CA "wide" ["self", "number"] (spAW CA)) : FnOk P w K mg base CX0 (k + 3) f fd ["alphabet", "thing", "edge", "columns"] (spIW K CA) := by
  obtain ⟨fU, fdU, GU, mU, kU, bU⟩ := GU.ex
  obtain ⟨fB, fdB, GB, mB, kB, bB⟩ := GB.ex
  obtain ⟨fL, fdL, GL, mL, bL⟩ := GL.ex
  obtain ⟨fW, fdW, GW, mW, bW⟩ := GW.ex
  refine F.ok scIW (fun vs H Q E h => ?_) (fun cdv A outer s H vs Q E hr h => ?_)
  · obtain ⟨o, _, _, _, _, x, _, rfl, _⟩ := h
    rfl
  · obtain ⟨o, high, e, cols, ss, x, b, rfl, al, wq, q⟩ := h
    refine ⟨_, pss_cons (ps_if (PW.pt (pw_or (pt_not (pt_val (pe_call GU hr (by rfl) mU kU bU .nil pass0 (pa_cons (pv 1) (pa_cons pe_int pa_nil)))))
        (pw_or1 (pt_not (pt_val (pe_call GB hr (by rfl) mB kB bB .nil pass0 (pa_cons (pe_ix (r := rIxT K) ix_tup (pv 1) pe_int (fun _ _ => rfl)) (pa_cons pe_int (pa_cons (pe_op op_sub (pe_callB (call_lenO GL hr mL bL) (by rfl) T.len PySem.boot_len (pa_cons (pv 0) pa_nil)) pe_int) pa_nil))))))))) (pss_one (ps_ret pe_bl)) pss_nil)
      (pss_one (ps_ret (pe_call GB hr (by rfl) mB kB bB .nil pass0 (pa_cons (pe_ix (r := rIxT K) ix_tup (pv 1) pe_int (fun _ _ => rfl)) (pa_cons (pv 2) (pa_cons (pe_op op_sub (pv 3) (pe_meth (pv 0) TA.cl mW GW hr bW .nil pass0 (pa_cons (pe_ix (r := rIxT K) ix_tup (pv 1) pe_int (fun _ _ => rfl)) pa_nil))) pa_nil)))))), ?_⟩
    rcases wq with ⟨T', t, ok, ne, rfl⟩ | ⟨t, xs, rfl, ht, ne, rfl⟩ | ⟨t, x1, x2, rfl, ht, k1, k2, rfl⟩
    · exact ⟨x, rfl, x, 2, rfl, .inl ⟨T', t, ok, ne, _, rfl, iteT (iteT (q H (Same.refl H)))⟩⟩
    · refine ⟨.ref t, rfl, .ref t, 2, rfl, .inr ⟨t, _, rfl, ht, _, rfl, ?_⟩⟩
      rw [decide_eq_false (show ¬ ((xs.length : Int) = 2) by omega)]
      exact iteT (iteT (q H (Same.refl H)))
    · obtain ⟨dx, tt, ys, ho, hts, Ss⟩ := id al.al
      have l16 := al.l16
      refine ⟨.ref t, rfl, .ref t, 2, rfl, .inr ⟨t, _, rfl, ht, _, rfl, iteF ?_⟩⟩
      refine ⟨.ref t, rfl, t, _, 1, x2, rfl, rfl, ht, rfl, .ref o, rfl, o, dx, _, rfl, ho, ⟨o, high, ss, rfl, al.al, ss.length, rfl, by omega, _, 1, rfl, rfl, x2, 0, _, rfl, k2, _, rfl, ?_⟩⟩
      cases e1 : betw x2 0 ((ss.length : Int) - 1) with
      | false =>
        have e2 : winB ss e cols x1 x2 = false := by
          unfold winB
          rw [e1, Bool.false_and]
        rw [e2] at q
        exact iteT (q H (Same.refl H))
      | true =>
        obtain ⟨n, rfl, n0, n1⟩ := betw_true e1
        obtain ⟨n, rfl⟩ := Int.eq_ofNat_of_zero_le n0
        obtain ⟨s', es, pr, ew⟩ := al.shape (n := n) (by omega)
        refine iteF ⟨.ref t, rfl, t, _, 0, x1, rfl, rfl, ht, rfl, .int e, rfl, .int cols, rfl, .ref o, rfl, o, dx, _, rfl, ho, aF_no _ _ (by decide +kernel) (by decide +kernel), .ref t, rfl, t, _, 1, .int n, rfl, rfl, ht, rfl, o, high, n, ss, s', rfl, al.al, es, pr, fun H1 s1 => ⟨cols, s'.w, rfl, rfl, x1, e, _, rfl, k1.same s1, ?_⟩⟩
        have e2 : winB ss e cols x1 (.int (n : Int)) = betw x1 e (cols - (s'.w : Int)) := by
          show (betw (.int n) 0 ((ss.length : Int) - 1) && betw x1 e (cols - (wdt ss (n : Int).toNat : Int))) = _
          rw [e1, Int.toNat_natCast, ew, Bool.true_and]
        rw [← e2]
        exact q H1 s1
theorem ok_wr {f : Addr} {fd : FuncData} {k : Nat} (F : Fun K "want_reading" "want_reading" sWR f fd) (T : Tx mg) (T2 : Tp mg) (TA : Tal K mg CA) (N : ExN K mg "NoReading" CR) (GI : Pm P w K mg base CX0 (k + 1) "_is_window" ["alphabet", "thing", "edge", "columns"] (spIW K CA)) (GW : Mm P w K mg base (k + 1) CA "wide" ["self", "number"] (spAW CA)) :
    FnOk P w K mg base (L2.CX P w) (k + 2) f fd ["alphabet", "columns", "thing"] (spWR K CA CR) := by
  obtain ⟨fI, fdI, GI, mI, kI, bI⟩ := GI.ex
  obtain ⟨fW, fdW, GW, mW, bW⟩ := GW.ex
  refine F.okX scWR (fun vs H Q E h => ?_) (fun cdv A outer s H vs Q E hr h => ?_)
  · obtain ⟨o, _, _, _, x, rfl, _⟩ := h
    rfl
  · obtain ⟨o, high, cols, ss, x, rfl, al, h⟩ := h
    have nd := scWR.nd
    refine ⟨_, pss_cons (ps_if (pt_cmpR op_ne_ty (pe_callTy call_type1 (by rfl) T2.typ (by decide +kernel) (pa_cons (pv 2) pa_nil)) (pe_bltn (v := .ty "tuple") (u := .type "tuple") (by rfl) T.tuple (by decide +kernel) rfl) (nomark _)) (pss_one (ps_raise rfl (takes_of rfl rfl rfl rfl) (pmk_own PySem.F.excBase_ValueError N.x N.g N.k (raises_own N.b N.t) rfl))) pss_nil)
      (pss_cons (ps_set (i := 3) nd rfl (.inl rfl) pe_int)
      (pss_one (ps_for (passes_of rfl) rfl (pi_tup (pv 2)) (pg_name (i := 4) nd rfl (Or.inl rfl))
        (pss_cons (ps_if (pt_not (pt_val (pe_call GI hr (by rfl) mI kI bI .nil pass0 (pa_cons (pv 0) (pa_cons (pv 4) (pa_cons (pv 3) (pa_cons (pv 1) pa_nil))))))) (pss_one (ps_raise rfl (takes_of rfl rfl rfl rfl) (pmk_own PySem.F.excBase_ValueError N.x N.g N.k (raises_own N.b N.t) rfl))) pss_nil)
        (pss_one (ps_set (i := 3) nd rfl (.inl rfl) (pe_op op_add (pe_ix (r := rIxT K) ix_tup (pv 4) pe_int (fun _ _ => rfl)) (pe_meth (pv 0) TA.cl mW GW hr bW .nil pass0 (pa_cons (pe_ix (r := rIxT K) ix_tup (pv 4) pe_int (fun _ _ => rfl)) pa_nil))))))))), ?_⟩
    have h2 : (∃ T, TyB K H x T ∧ tyOk T = true ∧ T ≠ "tuple" ∧ ∀ H', Same H H' → E (.ref CR) none H') ∨ ∃ (a : Addr) (xs : List V) (ws : List (Nat × Nat)), x = .ref a ∧ SqT K H a xs ∧ Plc K H (xs.take ws.length) ws ∧ WayOk ss cols ws ∧ (xs.length = ws.length ∧ (∀ H', Same H H' → Q .non H') ∨ ∃ y, xs[ws.length]? = some y ∧ WinQ K H ss (edge ss ws ws.length) cols y false ∧ ∀ H', Same H H' → E (.ref CR) none H') := by
      rcases h with ⟨⟨T', t, ok, ne⟩ | ⟨a, xs, ws, y, rfl, ht, pl, wk, hy, wq⟩, q⟩ | ⟨ws, ⟨a, xs, rfl, ht, pl, wk⟩, q⟩
      · exact .inl ⟨T', t, ok, ne, q⟩
      · exact .inr ⟨a, xs, ws, rfl, ht, pl, wk, .inr ⟨y, hy, wq, q⟩⟩
      · have e : xs.take ws.length = xs := by rw [← pl.len, List.take_length]
        exact .inr ⟨a, xs, ws, rfl, ht, by rw [e]; exact pl, wk, .inl ⟨pl.len, q⟩⟩
    rcases h2 with ⟨T', t, ok, ne, q⟩ | ⟨a, xs, ws, rfl, ht, pl, wk, h⟩
    · refine ⟨x, rfl, x, T', rfl, t, T', "tuple", rfl, rfl, ok, rfl, _, rfl, ?_⟩
      have e : not (decide (T' = "tuple")) = true := by rw [decide_eq_false ne]; rfl
      exact iteY e (q H (Same.refl H))
    · refine ⟨.ref a, rfl, .ref a, "tuple", rfl, .tup ht, "tuple", "tuple", rfl, rfl, rfl, rfl, _, rfl, iteE (by decide) ?_⟩
      refine ⟨.ref a, rfl, a, rfl, ⟨_, ht⟩, for_tup (K := K) (a := a) (xs := xs) (fun i σ H1 => ∃ y4, σ = [some (.ref o), some (.int cols), some (.ref a), some (.int (edge ss ws i)), y4] ∧ Same H H1 ∧ i ≤ ws.length) ⟨none, rfl, Same.refl H, Nat.zero_le _⟩ (fun i σ H1 _ z => by
        obtain ⟨_, _, sm, _⟩ := z
        exact sameT sm ht) ?_ ?_⟩
      · rintro i x σ H1 hx ⟨y4, rfl, sm, hi⟩
        have al1 := al.same sm
        obtain ⟨dx, tt, ys, ho, hts, Ss⟩ := id al1.al
        rcases Nat.lt_or_ge i ws.length with hlt | hge
        · have ep : ws[i]? = some ws[i] := List.getElem?_eq_getElem hlt
          generalize ws[i] = p at ep
          obtain ⟨t, rfl, hp⟩ := pl.at_ i x p (by rw [List.getElem?_take, if_pos hlt]; exact hx) ep
          obtain ⟨w1, w2, w3⟩ := wk i p ep
          obtain ⟨s', es, pr, ew⟩ := al.shape w1
          refine ⟨.ref o, rfl, .ref t, rfl, .int (edge ss ws i), rfl, .int cols, rfl, o, high, edge ss ws i, cols, ss, .ref t, true, rfl, al1, .inr (.inr ⟨t, .int p.1, .int p.2, rfl, sameT sm hp, kt_int _, kt_int _, (winB_ok w1 w2 w3).symm⟩), fun H2 s2 => ⟨_, rfl, iteF ?_⟩⟩
          have s12 := sm.trans s2
          refine ⟨.ref t, rfl, t, _, 0, .int p.1, rfl, rfl, sameT s12 hp, rfl, .ref o, rfl, o, dx, _, rfl, s2 _ _ ho, aF_no _ _ (by decide +kernel) (by decide +kernel), .ref t, rfl, t, _, 1, .int p.2, rfl, rfl, sameT s12 hp, rfl, o, high, p.2, ss, s', rfl, (al.same s12).al, es, pr, fun H3 s3 => ⟨p.1, s'.w, rfl, rfl, some (.ref t), ?_, s12.trans s3, hlt⟩⟩
          rw [edge_at ep, ew, Int.natCast_add]
          rfl
        · have ei : i = ws.length := by omega
          subst ei
          rcases h with ⟨e, _⟩ | ⟨y, hy, wq, q⟩
          · have := (List.getElem?_eq_some_iff.mp hx).1
            omega
          · rw [hy] at hx
            cases hx
            exact ⟨.ref o, rfl, x, rfl, .int (edge ss ws ws.length), rfl, .int cols, rfl, o, high, _, cols, ss, x, false, rfl, al1, wq.same sm, fun H2 s2 => ⟨_, rfl, iteT (q H2 (sm.trans s2))⟩⟩
      · rintro σ H1 ⟨y4, rfl, sm, hi⟩
        rcases h with ⟨e, q⟩ | ⟨y, hy, wq, q⟩
        · exact q H1 sm
        · have := (List.getElem?_eq_some_iff.mp hy).1
          omega
theorem ok_wa {f : Addr} {fd : FuncData} {k : Nat} (F : Fun K "_white_ahead" "_white_ahead" sWA f fd) (TA : Tal K mg CA) (GW : Mm P w K mg base (k + 1) CA "wide" ["self", "number"] (spAW CA)) : FnOk P w K mg base CX0 (k + 2) f fd ["alphabet", "reading", "at"] (spWA K CA) := by
  obtain ⟨fW, fdW, GW, mW, bW⟩ := GW.ex
  refine F.ok scWA (fun vs H Q E h => ?_) (fun cdv A outer s H vs Q E hr h => ?_)
  · obtain ⟨o, a, _, _, _, _, _, _, _, rfl, _⟩ := h
    rfl
  · obtain ⟨o, a, high, i, ss, xs, ws, p, r, rfl, al, ha, pl, hp, hr2, pn, q⟩ := h
    have nd := scWA.nd
    refine ⟨_, pss_cons (ps_asg (pe_ix (r := rIxT K) ix_tup (pv 1) (pe_op op_sub (pv 2) pe_int) (fun _ _ => rfl)) (pg_tup rfl (pgs_cons (pg_name (i := 3) nd rfl (Or.inl rfl)) (pgs_cons (pg_name (i := 4) nd rfl (Or.inl rfl)) pgs_nil))))
      (pss_one (ps_ret (pe_op op_sub (pe_op op_sub (pe_ix (r := rIxT K) ix_tup (pe_ix (r := rIxT K) ix_tup (pv 1) (pv 2) (fun _ _ => rfl)) pe_int (fun _ _ => rfl)) (pv 3)) (pe_meth (pv 0) TA.cl mW GW hr bW .nil pass0 (pa_cons (pv 4) pa_nil))))), ?_⟩
    have l := pl.len
    have hp' := (List.getElem?_eq_some_iff.mp hp).1
    have hr' := (List.getElem?_eq_some_iff.mp hr2).1
    have e1 : xs[i]? = some (xs[i]'(by omega)) := List.getElem?_eq_getElem (by omega)
    have e2 : xs[i + 1]? = some (xs[i + 1]'(by omega)) := List.getElem?_eq_getElem (by omega)
    obtain ⟨t1, q1, h1⟩ := pl.at_ i _ p e1 hp
    obtain ⟨t2, q2, h2⟩ := pl.at_ (i + 1) _ r e2 hr2
    rw [q1] at e1
    rw [q2] at e2
    obtain ⟨dx, tt, ys, ho, hts, Ss⟩ := id al.al
    obtain ⟨s', es, pr, ew⟩ := al.shape pn
    have ei : (((i + 1 : Nat) : Int) - 1) = (i : Int) := by omega
    refine ⟨.ref a, rfl, .int ((i + 1 : Nat) : Int), rfl, _, 1, rfl, rfl, a, xs, _, .ref t1, rfl, rfl, ha, by rw [ei]; exact atI_nat e1, t1, _, rfl, h1, rfl, _, _, rfl, _, _, rfl, rfl, ?_⟩
    refine ⟨.ref a, rfl, .int ((i + 1 : Nat) : Int), rfl, a, xs, _, .ref t2, rfl, rfl, ha, atI_nat e2, t2, _, 0, .int r.1, rfl, rfl, h2, rfl, .int p.1, rfl, r.1, p.1, rfl, rfl, .ref o, rfl, o, dx, _, rfl, ho, aF_no _ _ (by decide +kernel) (by decide +kernel), .int p.2, rfl, o, high, p.2, ss, s', rfl, al.al, es, pr, fun H1 s1 => ⟨_, s'.w, rfl, rfl, ?_⟩⟩
    rw [← ew]
    exact q H1 s1
end
end Dt
namespace L2X
open PySem PySem.Spec PyProof.Rows L2
theorem lc_zipLe {K : PySem.W.Frag} {A B : Src} {xs ys : List V} {g : TG} {tt : TT} {te : TE} {vs : List Nat} {σ : L2.St} {H1 : Hp} {D : Addr} {Qd : Hp → Prop} (hn : xs.length ≤ ys.length) (Pv : Nat → Hp → Prop) (h0 : Pv 0 (upd H1 D (.lst []))) (hl : ∀ i H, i ≤ xs.length → Pv i H → A.has K H xs ∧ B.has K H ys)
    (hs : ∀ i x y H T, xs[i]? = some x → ys[i]? = some y → Pv i H → H T = none → g (.ref T) (wipe σ vs) (upd H T (.tup [x, y])) fun σ2 H2 => wipe σ2 vs = wipe σ vs ∧ tt σ2 H2 fun b H3 =>
      if b = true then te σ2 H3 fun z H4 => ∃ acc, H4 D = some (.lst acc) ∧ acc.length < sizeLine ∧ Pv (i + 1) (upd H4 D (.lst (acc ++ [z]))) else Pv (i + 1) H3) (hd : ∀ H, Pv xs.length H → Qd H) :
    ∃ W : Nat → Nat → Hp → Prop, (∃ m, W 0 m (upd H1 D (.lst []))) ∧ ∀ i m H, W i m H →
      ((ItzG K A B).stop i H ∧ Qd H) ∨ ((ItzG K A B).go i H ∧ ∃ Nx : Hp → Prop, (∀ H', Nx H' → ∃ m', m' < m ∧ W (i + 1) m' H') ∧ ∀ x H', (ItzG K A B).yld i H x H' → g x (wipe σ vs) H' fun σ2 H2 => wipe σ2 vs = wipe σ vs ∧ tt σ2 H2 fun b H3 =>
        if b = true then te σ2 H3 fun y H4 => ∃ acc, H4 D = some (.lst acc) ∧ acc.length < sizeLine ∧ Nx (upd H4 D (.lst (acc ++ [y]))) else Nx H3) := by
  refine ⟨fun i m H => m = xs.length - i ∧ i ≤ xs.length ∧ Pv i H, ⟨xs.length, by simp, Nat.zero_le _, h0⟩, ?_⟩
  rintro i m H ⟨rfl, hi, p⟩
  obtain ⟨qx, qy⟩ := hl i H hi p
  by_cases hlt : i < xs.length
  · have hlt2 : i < ys.length := by omega
    have ex : xs[i]? = some xs[i] := List.getElem?_eq_getElem hlt
    have ey : ys[i]? = some ys[i] := List.getElem?_eq_getElem hlt2
    refine .inr ⟨⟨xs, ys, _, _, qx, qy, ex, ey⟩, Pv (i + 1), fun H' p' => ⟨xs.length - (i + 1), by omega, rfl, hlt, p'⟩, fun x H' y => ?_⟩
    obtain ⟨T, u, v, rfl, nT, rfl, z1, z2⟩ := y
    exact hs i u v H T (z1 xs qx) (z2 ys qy) p nT
  · have e : i = xs.length := by omega
    subst e
    exact .inl ⟨⟨xs, ys, qx, qy, .inl ⟨rfl, by omega⟩⟩, hd H p⟩
end L2X
namespace Dt
open PySem PySem.Spec PyProof.Rows L2 L2X
open SX (S)
theorem sl_anyT {K : PySem.W.Frag} {H : Hp} {a : Addr} {xs : List V} {lo hi : Option Int} {Q : VK} (h : SqT K H a xs) (q : ∀ z H2, Same H H2 → SqT K H2 z (cutV xs lo hi) → Q (.ref z) H2) : rSlA K (.ref a) lo hi H Q :=
  ⟨a, xs, rfl, h, fun e => q a H (Same.refl H) (by rw [cutV_whole e]; exact h), fun _ p hp => q p _ (same_upd hp) (SqT.of upd_same)⟩
theorem cutV_from (xs : List V) (n : Nat) : cutV xs (some (n : Int)) none = xs.drop n := by
  unfold cutV
  rw [HT.sIx_nat]
  show (xs.drop (min n xs.length)).take (xs.length - min n xs.length) = _
  by_cases h : n ≤ xs.length
  · rw [Nat.min_eq_left h]
    exact List.take_of_length_le (by rw [List.length_drop]; omega)
  · rw [Nat.min_eq_right (by omega), List.drop_of_length_le (Nat.le_refl _), List.drop_of_length_le (by omega), List.take_nil]
theorem cutV_seg (xs : List V) (a b : Nat) (h : a ≤ b) : cutV xs (some (a : Int)) (some (b : Int)) = (xs.drop a).take (b - a) := by
  unfold cutV
  rw [HT.sIx_nat, HT.sIx_nat]
  by_cases h1 : b ≤ xs.length
  · rw [Nat.min_eq_left h1, Nat.min_eq_left (by omega)]
  · rw [Nat.min_eq_right (show xs.length ≤ b by omega)]
    by_cases h2 : a ≤ xs.length
    · rw [Nat.min_eq_left h2, List.take_of_length_le (by rw [List.length_drop]; omega), List.take_of_length_le (by rw [List.length_drop]; omega)]
    · rw [Nat.min_eq_right (by omega), List.drop_of_length_le (Nat.le_refl _), List.drop_of_length_le (by omega), List.take_nil, List.take_nil]
/-- the text of the words -/
def tOf (ws : List Wd) : Str := Txt.join " " (ws.map fun w => S w.1)
theorem tOf_fit {ws : List Wd} (h : ∀ w ∈ ws, WdOk w) (l : ws.length ≤ 60) : ((ws.map fun w => S w.1).map (·.length)).sum + (ws.map fun w => S w.1).length * 1 ≤ 16777216 := by
  have key : ∀ us : List Wd, (∀ w ∈ us, WdOk w) → ((us.map fun w => S w.1).map (·.length)).sum ≤ us.length * 60 := by
    intro us
    induction us with
    | nil => intro _; exact Nat.zero_le _
    | cons w r ih =>
      intro hu
      have h1 := ih fun m hm => hu m (List.mem_cons_of_mem _ hm)
      have h2 := (hu w List.mem_cons_self).l
      rw [List.map_cons, List.map_cons, List.sum_cons, SX.S_len, List.length_cons, Nat.add_mul, Nat.one_mul]
      omega
  have := key ws h
  rw [List.length_map]
  omega
abbrev sWO : Stmt := topS 44
abbrev nWO : List Str := ["alphabet", "reading", "blank", "signs", "starts", "ends", "sign", "_", "at", "first", "behind", "number"]
theorem scWO : FnScope nWO ["alphabet", "reading", "blank"] (defScope sWO) := ⟨rfl, rfl, rfl, by decide +kernel, rfl, by decide +kernel, by decide +kernel⟩
abbrev FnWO (K : PySem.W.Frag) (f : Addr) (fd : FuncData) : Prop := FunD K "words_of" "words_of" (defArgs sWO) (defBody sWO) (defScope sWO) [] [("blank", .int 3)] f fd
theorem wo_binds1 {K : PySem.W.Frag} {f : Addr} {fd : FuncData} (F : FnWO K f fd) : ∃ mv : List Value, KBn K fd ["alphabet", "reading", "blank"] 2 ["blank"] (fun us ws => us ++ ws ++ mv.take 0) (fun vs zs => vs ++ zs ++ ([] : List V)) := by
  obtain ⟨mv, h⟩ := F.kbinds0 (ps := ["alphabet", "reading", "blank"]) 2 ["blank"] [] (fun us _ ws => us ++ ws) (by simp) (fun q h => nomatch h) (fun r _ z => r.append z)
    (fun D doc pm an cdv ct us mv ws h1 h2 h3 => match us, ws, mv, h1, h3, h2 with
      | [_, _], [_], [], _, _, _ => rfl)
  exact ⟨mv, ⟨fun s us ws X l1 l2 => by rw [List.take_zero, List.append_nil]; exact h.to s us ws X l1 l2, fun r z => by rw [List.take_zero, List.append_nil, List.append_nil]; exact h.rel r z⟩⟩
theorem wo_binds0 {K : PySem.W.Frag} {f : Addr} {fd : FuncData} (F : FnWO K f fd) : ∃ mv : List Value, KBn K fd ["alphabet", "reading", "blank"] 2 [] (fun us ws => us ++ mv) (fun vs zs => vs ++ [V.int 3]) := by
  obtain ⟨mv, h⟩ := F.kbinds0 (ps := ["alphabet", "reading", "blank"]) 2 [] [("blank", V.int 3)] (fun us mv ws => us ++ mv) (by simp) (fun q h => h) (fun r m z => r.append m)
    (fun D doc pm an cdv ct us mv ws h1 h2 h3 => match us, ws, mv, h1, h3, h2 with
      | [_, _], [], [_], _, _, _ => ⟨_, _, _, _, _, _, rfl, rfl, rfl⟩)
  exact ⟨mv, h⟩
/-- readings and blanks, right or not -/
def Woq (K : PySem.W.Frag) (C CR CT : Addr) (o : Addr) (high : Nat) (ss : List Sh) (x z : V) (H : Hp) (E : XK) (q : List (Nat × Nat) → Int → Prop) : Prop := AlpG C H o high ss ∧ Kt K H z ∧ (∀ s ∈ ss, 33 ≤ s.sg ∧ s.sg ≤ 126) ∧
  ((BadR K H ss 60 x ∧ ∀ H', Same H H' → E (.ref CR) none H') ∨ ∃ ws, GoodR K H ss 60 x ws ∧ ((betw z 1 20 = false ∧ RaiseM E CT (.int 20) H) ∨ ∃ b : Int, z = .int b ∧ 1 ≤ b ∧ b ≤ 20 ∧ q ws b))
def spWO (K : PySem.W.Frag) (C CR CT : Addr) : Sp := fun vs H Q E => ∃ (o : Addr) (high : Nat) (ss : List Sh) (x z : V), vs = [.ref o, x, z] ∧
  Woq K C CR CT o high ss x z H E fun ws b => ∀ (l : Addr) (xs : List V) H', Same H H' → H l = none → H' l = some (.lst xs) → Wds H' xs (wds ss ws b) → Q (.ref l) H'
abbrev sTO : Stmt := topS 43
abbrev nTO : List Str := ["alphabet", "reading", "blank", "word", "_"]
theorem scTO : FnScope nTO ["alphabet", "reading", "blank"] (defScope sTO) := ⟨rfl, rfl, rfl, by decide +kernel, rfl, by decide +kernel, by decide +kernel⟩
abbrev FnTO (K : PySem.W.Frag) (f : Addr) (fd : FuncData) : Prop := FunD K "text_of" "text_of" (defArgs sTO) (defBody sTO) (defScope sTO) [] [("blank", .int 3)] f fd
theorem to_binds1 {K : PySem.W.Frag} {f : Addr} {fd : FuncData} (F : FnTO K f fd) : ∃ mv : List Value, KBn K fd ["alphabet", "reading", "blank"] 2 ["blank"] (fun us ws => us ++ ws ++ mv.take 0) (fun vs zs => vs ++ zs ++ ([] : List V)) := by
  obtain ⟨mv, h⟩ := F.kbinds0 (ps := ["alphabet", "reading", "blank"]) 2 ["blank"] [] (fun us _ ws => us ++ ws) (by simp) (fun q h => nomatch h) (fun r _ z => r.append z)
    (fun D doc pm an cdv ct us mv ws h1 h2 h3 => match us, ws, mv, h1, h3, h2 with
      | [_, _], [_], [], _, _, _ => rfl)
  exact ⟨mv, ⟨fun s us ws X l1 l2 => by rw [List.take_zero, List.append_nil]; exact h.to s us ws X l1 l2, fun r z => by rw [List.take_zero, List.append_nil, List.append_nil]; exact h.rel r z⟩⟩
theorem to_binds0 {K : PySem.W.Frag} {f : Addr} {fd : FuncData} (F : FnTO K f fd) : ∃ mv : List Value, KBn K fd ["alphabet", "reading", "blank"] 2 [] (fun us ws => us ++ mv) (fun vs zs => vs ++ [V.int 3]) := by
  obtain ⟨mv, h⟩ := F.kbinds0 (ps := ["alphabet", "reading", "blank"]) 2 [] [("blank", V.int 3)] (fun us mv ws => us ++ mv) (by simp) (fun q h => h) (fun r m z => r.append m)
    (fun D doc pm an cdv ct us mv ws h1 h2 h3 => match us, ws, mv, h1, h3, h2 with
      | [_, _], [], [_], _, _, _ => ⟨_, _, _, _, _, _, rfl, rfl, rfl⟩)
  exact ⟨mv, h⟩
def spTO (K : PySem.W.Frag) (C CR CT : Addr) : Sp := fun vs H Q E => ∃ (o : Addr) (high : Nat) (ss : List Sh) (x z : V), vs = [.ref o, x, z] ∧
  Woq K C CR CT o high ss x z H E fun ws b => ∀ H', Same H H' → Q (.str (tOf (wds ss ws b))) H'
section
variable {P : Program} {w : World} {K : PySem.W.Frag} {mg : Str → Option Value} {base : Heap} {C CA CR CT : Addr}
theorem ok_wo {f : Addr} {fd : FuncData} {k : Nat} (F : FnWO K f fd) (T : Tx mg) (hz : mg "zip" = none) (TA : Tal K mg CA) (N : Ttm K mg CT) (ml : ∃ t, mg "MOST_LINE_COLUMNS" = some (.int 60 t)) (mb : ∃ t, mg "MOST_BLANK" = some (.int 20 t)) (GR : Pm P w K mg base (L2.CX P w) (k + 2) "want_reading" ["alphabet", "columns", "thing"] (spWR K CA CR))
    (GB : Pm P w K mg base CX0 (k + 2) "is_between" ["thing", "least", "most"] (spBetw K)) (GS : Mm P w K mg base (k + 2) CA "shapes" ["self"] (spAS CA)) (GA : Pm P w K mg base CX0 (k + 2) "_white_ahead" ["alphabet", "reading", "at"] (spWA K CA)) :
    FnOk P w K mg base (L2.CX P w) (k + 3) f fd ["alphabet", "reading", "blank"] (spWO K CA CR CT) := by
  obtain ⟨fR, fdR, GR, mR, kR, bR⟩ := GR.ex
  obtain ⟨fB, fdB, GB, mB, kB, bB⟩ := GB.ex
  obtain ⟨fS, fdS, GS, mS, bS⟩ := GS.ex
  obtain ⟨fA, fdA, GA, mA, kA, bA⟩ := GA.ex
  obtain ⟨tl, hml⟩ := ml
  obtain ⟨tb, hmb⟩ := mb
  obtain ⟨fI, fdI, iC, tI, FI, bTM⟩ := N.fi
  have GI : FnOk P w K mg base CX0 (k + 1) fI fdI ["self", "most"] (spTM CT) := ok_tm FI N.o N.no
  refine F.ok scWO (fun vs H Q E h => ?_) (fun cdv A outer s H vs Q E hr h => ?_)
  · obtain ⟨o, _, _, x, z, rfl, _⟩ := h
    rfl
  · obtain ⟨o, high, ss, x, z, rfl, al, kz, sg, h⟩ := h
    have nd := scWO.nd
    refine ⟨_, pss_cons (ps_expr (pe_callS GR hr (by rfl) mR kR bR (fun σ => passAt (takes_of rfl rfl rfl rfl) σ) (pa_cons (pv 0) (pa_cons (pe_glob (v := .int 60) (by rfl) hml ⟨_, rfl⟩) (pa_cons (pv 1) pa_nil)))))
      (pss_cons (ps_if (pt_not (pt_val (pe_call GB hr (by rfl) mB kB bB .nil pass0 (pa_cons (pv 2) (pa_cons pe_int (pa_cons (pe_glob (v := .int 20) (by rfl) hmb ⟨_, rfl⟩) pa_nil)))))) (pss_one (ps_raise rfl (takes_of rfl rfl rfl rfl) (pmk_oex N.o iC tI GI hr bTM .nil pass0 (by rfl) N.g (pa_cons (pe_glob (v := .int 20) (by rfl) hmb ⟨_, rfl⟩) pa_nil)))) pss_nil)
      (C8.pss_cut (ps_set (i := 3) nd rfl (.inr rfl) (pe_lc (own := [("sign", 6), ("_", 7)]) (g := gTup K 2 (gCons (gName 6) (gCons (gName 7) gNil))) (tt := tYes) rfl nd (pi_list (pe_meth0 (pv 0) TA.cl mS GS hr bS .nil pass0)) (blkOk_by (N := nWO) (sc := defScope sWO) (by decide +kernel))
          (fun _ _ _ _ _ => pg_tup rfl (pgs_cons (pg_name (i := 6) nd rfl (Or.inl rfl)) (pgs_cons (pg_name (i := 7) nd rfl (Or.inl rfl)) pgs_nil))) (fun _ _ _ _ _ => pts_nil) (fun _ _ _ _ _ => pv 6)))
      (C8.pss_cut (ps_setLc (i := 4) (own := [("at", 8)]) (g := gName 8) (by rfl) nd rfl rfl (sw_true rfl rfl rfl (by decide +kernel)) (pi_range1 rfl T.range (pa_cons (pe_callB call_len_seq (by rfl) T.len PySem.boot_len (pa_cons (pv 1) pa_nil)) pa_nil)) (blkOk_by (N := nWO) (sc := defScope sWO) (by decide +kernel)) (fun _ _ _ _ _ => pg_name (i := 8) nd rfl (Or.inl rfl))
          (fun _ _ _ _ _ => pts_one (PW.pt (pw_or (pt_cmpR op_eq (pv 8) pe_int (nomark _)) (pw_or1 (pt_cmpR op_ge (pe_call GA hr (by rfl) mA kA bA .nil pass0 (pa_cons (pv 0) (pa_cons (pv 1) (pa_cons (pv 8) pa_nil)))) (pv 2) (nomark _)))))) (fun _ _ _ _ _ => pv 8))
      (C8.pss_cut (ps_set (i := 5) nd rfl (.inl rfl) (pe_op op_cat (pe_slice sl_list (pv 4) (po_some pe_int) po_none) (pe_lst (pa_cons (pe_callB call_len_seq (by rfl) T.len PySem.boot_len (pa_cons (pv 1) pa_nil)) pa_nil))))
      (pss_one (ps_ret (pe_lc (own := [("first", 9), ("behind", 10)]) (g := gTup K 2 (gCons (gName 9) (gCons (gName 10) gNil))) (tt := tYes) rfl nd (pi_zipG (by rfl) hz (pa_cons (pv 4) (pa_cons (pv 5) pa_nil))) (blkOk_by (N := nWO) (sc := defScope sWO) (by decide +kernel))
          (fun _ _ _ _ _ => pg_tup rfl (pgs_cons (pg_name (i := 9) nd rfl (Or.inl rfl)) (pgs_cons (pg_name (i := 10) nd rfl (Or.inl rfl)) pgs_nil))) (fun _ _ _ _ _ => pts_nil)
          (fun _ _ _ _ _ => pe_tup (pa_cons (pe_joinK (K := K) rfl pe_str (pe_lc (own := [("_", 7), ("number", 11)]) (g := gTup K 2 (gCons (gName 7) (gCons (gName 11) gNil))) (tt := tYes) rfl nd (pi_tupK (K := K) rfl (pe_slice (r := rSlA K) sl_tupA (pv 1) (po_some (pv 9)) (po_some (pv 10)))) (blkOk_by (N := nWO) (sc := { kind := .function, names := [(".0", .local), ("first", .local), ("behind", .local), ("reading", .cell), ("signs", .cell)], isGenerator := false, isCoroutine := false }) (by decide +kernel))
              (fun _ _ _ _ _ => pg_tup rfl (pgs_cons (pg_name (i := 7) nd rfl (Or.inl rfl)) (pgs_cons (pg_name (i := 11) nd rfl (Or.inl rfl)) pgs_nil))) (fun _ _ _ _ _ => pts_nil) (fun _ _ _ _ _ => pe_ix (r := rIxL K) ix_list (pv 3) (pv 11) (fun _ _ => rfl)))) (pa_cons (pv 9) (pa_cons (pv 10) pa_nil))))))))))), ?_⟩
    rcases h with ⟨bad, q⟩ | ⟨ws, gd, h⟩
    · exact ⟨.ref o, rfl, x, rfl, o, high, 60, ss, x, rfl, al, .inl ⟨bad, q⟩⟩
    refine ⟨.ref o, rfl, x, rfl, o, high, 60, ss, x, rfl, al, .inr ⟨ws, gd, fun H1 s1 => ?_⟩⟩
    refine ⟨z, rfl, z, 1, 20, rfl, kz.same s1, _, rfl, ?_⟩
    rcases h with ⟨bad, q⟩ | ⟨b, rfl, b1, b20, q⟩
    · rw [bad]
      exact iteT (raiseM_by (q.same s1))
    rw [betw_int, decide_eq_true b1, decide_eq_true b20]
    refine iteF ?_
    have al1 := al.same s1
    obtain ⟨a, xs, rfl, ha, pl, wk⟩ := gd.same s1
    have lw := way_len al wk
    have lx := pl.len
    have l16 := al.l16
    obtain ⟨dx, t, ys0, ho, hts, Ss⟩ := id al1.al
    -- the signs
    refine ⟨fun σ' H' => ∃ l, σ' = [some (.ref o), some (.ref a), some (.int b), some (.ref l), none, none, none, none, none, none, none, none] ∧ Same H1 H' ∧ H' l = some (.lst (ss.map fun s => ch s.sg)), ?_, ?_⟩
    · refine ⟨.ref o, rfl, o, dx, _, rfl, ho, aF_no _ _ (by decide +kernel) (by decide +kernel), o, high, ss, rfl, al1.al, fun l ys H2 s2 nl hl Sl => ⟨l, rfl, ⟨_, SqL.of hl⟩, fun D hD => lc_list (K := K) (a := l) (xs := ys) (fun i H3 => Same H2 H3 ∧ H3 D = some (.lst ((ss.take i).map fun s => ch s.sg))) ⟨same_upd hD, upd_same⟩ (fun i H3 _ z => SqL.of (z.1 _ _ hl)) ?_ ?_⟩⟩
      · rintro i y H3 hy ⟨sm, h3⟩
        have hi : i < ss.length := by
          rw [← Sl.len]
          exact (List.getElem?_eq_some_iff.mp hy).1
        have es : ss[i]? = some ss[i] := List.getElem?_eq_getElem hi
        generalize ss[i] = s' at es
        obtain ⟨t2, p2, rfl, ht2, hp2⟩ := Sl.at_ i y s' hy es
        refine ⟨t2, _, rfl, SqT.of (sm _ _ ht2), rfl, _, _, rfl, _, _, rfl, rfl, rfl, ch s'.sg, rfl, _, h3, ?_, same_over sm hD, ?_⟩
        · rw [List.length_map, List.length_take]
          exact small1000 (by omega)
        · rw [upd_same, take_snoc es, List.map_append]
          rfl
      · rintro H3 ⟨sm, h3⟩
        rw [Sl.len, List.take_length] at h3
        exact ⟨D, rfl, s2.trans sm, h3⟩
    rintro _ H2 ⟨l, rfl, s2, hl⟩
    have al2 := al1.same s2
    have ha2 := sameT s2 ha
    have pl2 := pl.same s2
    -- where words begin
    generalize hf : isSt ss ws b = f
    refine ⟨fun σ' H' => ∃ m, σ' = [some (.ref o), some (.ref a), some (.int b), some (.ref l), some (.ref m), none, none, none, none, none, none, none] ∧ Same H2 H' ∧ H' m = some (.lst ((fl f ws.length).map fun (j : Nat) => V.int j)), ?_, ?_⟩
    · refine ⟨.ref a, rfl, a, xs, rfl, .inr ha2, xs.length, rfl, by omega, by omega, fun D hD => lc_range (lo := 0) (n := xs.length) (fun i H3 => Same H2 H3 ∧ H3 D = some (.lst ((fl f i).map fun (j : Nat) => V.int j))) ⟨same_upd hD, upd_same⟩ ?_ ?_⟩
      · rintro i H3 hi ⟨sm, h3⟩
        have e0 : (0 + (i : Int)) = (i : Int) := Int.zero_add _
        rw [e0]
        have szL : ((fl f i).map fun (j : Nat) => V.int j).length < sizeLine := by
          rw [List.length_map]
          exact small1000 (by have := fl_len f i; omega)
        refine ⟨rfl, .int i, rfl, rfl, _, rfl, ?_⟩
        cases i with
        | zero =>
          refine iteT ⟨.int 0, rfl, _, h3, szL, same_over sm hD, ?_⟩
          rw [upd_same, fl_yes (by rw [← hf]; exact isSt0)]
          rfl
        | succ j =>
          have en : decide (V.int ((j + 1 : Nat) : Int) = V.int 0) = false := decide_eq_false fun e => by
            have := V.int.inj e
            omega
          rw [en]
          refine iteF ?_
          have ep : ws[j]? = some (ws[j]'(by omega)) := List.getElem?_eq_getElem (by omega)
          have er : ws[j + 1]? = some (ws[j + 1]'(by omega)) := List.getElem?_eq_getElem (by omega)
          generalize ws[j]'(by omega) = p at ep
          generalize ws[j + 1]'(by omega) = r at er
          refine ⟨.ref o, rfl, .ref a, rfl, .int ((j + 1 : Nat) : Int), rfl, o, a, high, j, ss, xs, ws, p, r, rfl, al2.same sm, sameT sm ha2, pl2.same sm, ep, er, (wk j p ep).1, fun H4 s4 => ⟨.int b, rfl, _, b, rfl, rfl, _, rfl, ?_⟩⟩
          have es : f (j + 1) = decide (b ≤ (r.1 : Int) - (p.1 : Int) - (wdt ss p.2 : Int)) := by
            rw [← hf]
            exact isSt_at ep er
          rw [← es]
          cases ef : f (j + 1) with
          | true =>
            refine iteT ⟨.int ((j + 1 : Nat) : Int), rfl, _, s4 _ _ h3, szL, same_over (sm.trans s4) hD, ?_⟩
            rw [upd_same, fl_yes ef, List.map_append]
            rfl
          | false =>
            refine iteF ⟨sm.trans s4, ?_⟩
            rw [fl_no ef]
            exact s4 _ _ h3
      · rintro H3 ⟨sm, h3⟩
        rw [lx] at h3
        exact ⟨D, rfl, sm, h3⟩
    rintro _ H3 ⟨m, rfl, s3, hm⟩
    have ha3 := sameT s3 ha2
    have pl3 := pl2.same s3
    have hl3 := s3 _ _ hl
    -- where they end
    refine ⟨fun σ' H' => ∃ e, σ' = [some (.ref o), some (.ref a), some (.int b), some (.ref l), some (.ref m), some (.ref e), none, none, none, none, none, none] ∧ Same H3 H' ∧ H' e = some (.lst (((fl f ws.length).drop 1 ++ [ws.length]).map fun (j : Nat) => V.int j)), ?_, ?_⟩
    · refine ⟨.ref m, rfl, 1, rfl, m, _, rfl, SqL.of hm, fun l1 hl1 => ?_⟩
      have c1 : cutV ((fl f ws.length).map fun (j : Nat) => V.int j) (some 1) none = ((fl f ws.length).drop 1).map fun (j : Nat) => V.int j := by
        rw [List.map_drop]
        exact cutV_from _ 1
      rw [c1]
      have sA := same_upd (o := .lst (((fl f ws.length).drop 1).map fun (j : Nat) => V.int j)) hl1
      refine ⟨.ref a, rfl, a, xs, rfl, .inr (sameT sA ha3), by show 1 ≤ sizeLine; decide, fun l2 hl2 => ?_⟩
      have sB := same_upd (o := .lst [V.int (xs.length : Int)]) hl2
      refine ⟨l1, l2, _, _, rfl, rfl, sB _ _ upd_same, upd_same, ?_, fun l3 hl3 => ⟨l3, rfl, (sA.trans sB).trans (same_upd hl3), ?_⟩⟩
      · rw [List.length_map, List.length_drop]
        have := fl_len f ws.length
        exact Nat.le_of_lt (small1000 (by show _ + 1 ≤ 1000; omega))
      · rw [upd_same, List.map_append, lx]
        rfl
    rintro _ H4 ⟨e, rfl, s4, he⟩
    have hm4 := s4 _ _ hm
    have ha4 := sameT s4 ha3
    have pl4 := pl3.same s4
    have hl4 := s4 _ _ hl3
    have s14 := ((s1.trans s2).trans s3).trans s4
    generalize hn : ws.length = n at hm4 he ⊢
    have f0 : f 0 = true := by rw [← hf]; exact isSt0
    have hle : ((fl f n).map fun (j : Nat) => V.int j).length ≤ (((fl f n).drop 1 ++ [n]).map fun (j : Nat) => V.int j).length := by
      rw [List.length_map, List.length_map, List.length_append, List.length_drop, List.length_singleton]
      omega
    refine ⟨.ref m, rfl, .ref e, rfl, .lst m, .lst e, _, _, rfl, SqL.of hm4, SqL.of he, fun D hD => lc_zipLe (K := K) (A := .lst m) (B := .lst e) hle (fun i H5 => Same H4 H5 ∧ ∃ zs, H5 D = some (.lst zs) ∧ Wds H5 zs ((wz (sgs ss ws) f n).take i)) ⟨same_upd hD, [], upd_same, Wds.nil⟩ (fun i H5 _ z => ⟨SqL.of (z.1 _ _ hm4), SqL.of (z.1 _ _ he)⟩) ?_ ?_⟩
    · rintro i x y H5 T' hx hy ⟨sm, zs, h5, W5⟩ hT
      obtain ⟨p1, hp1, rfl⟩ := map_at hx
      obtain ⟨p2, hp2, rfl⟩ := map_at hy
      have hzz : (zz f n)[i]? = some (p1, p2) := List.getElem?_zip_eq_some.mpr ⟨hp1, hp2⟩
      obtain ⟨g1, g2⟩ := zz_mem f0 _ _ (List.mem_of_getElem? hzz)
      have hi : i < n := Nat.lt_of_lt_of_le (List.getElem?_eq_some_iff.mp hzz).1 (zz_len n)
      have sT := same_upd (o := .tup [V.int (p1 : Nat), V.int (p2 : Nat)]) hT
      refine ⟨T', _, rfl, SqT.of upd_same, rfl, _, _, rfl, _, _, rfl, rfl, rfl, ⟨"", rfl⟩, .ref a, rfl, .int p1, rfl, p1, rfl, .int p2, rfl, p2, rfl, ?_⟩
      generalize upd H5 T' (.tup [V.int (p1 : Nat), V.int (p2 : Nat)]) = H6 at sT
      have s46 := sm.trans sT
      refine sl_anyT (sameT s46 ha4) fun z H7 s7 hz => ⟨z, rfl, ⟨_, hz⟩, fun D2 hD2 => ?_⟩
      rw [cutV_seg xs p1 p2 (by omega)] at hz
      generalize hcs : (xs.drop p1).take (p2 - p1) = cs at hz
      have s47 := s46.trans s7
      have hl7 := s47 _ _ hl4
      refine lc_tup (K := K) (a := z) (xs := cs) (fun j H8 => Same H7 H8 ∧ H8 D2 = some (.lst (((seg (sgs ss ws) p1 p2).take j).map ch))) ⟨same_upd hD2, upd_same⟩ (fun j H8 _ z8 => sameT z8.1 hz) ?_ ?_
      · rintro j y H8 hy ⟨sm8, h8⟩
        rw [← hcs, List.getElem?_take] at hy
        split at hy
        · rename_i hj
          rw [List.getElem?_drop] at hy
          have ep : ws[p1 + j]? = some (ws[p1 + j]'(by omega)) := List.getElem?_eq_getElem (by omega)
          generalize ws[p1 + j]'(by omega) = p at ep
          obtain ⟨t3, rfl, ht3⟩ := pl4.at_ (p1 + j) y p hy ep
          have w1 := (wk (p1 + j) p ep).1
          have es : ss[p.2]? = some ss[p.2] := List.getElem?_eq_getElem w1
          have sga : sgt ss p.2 = (ss[p.2]).sg := sgt_at es
          have esg : (seg (sgs ss ws) p1 p2)[j]? = some (sgt ss p.2) := by
            unfold seg
            rw [List.getElem?_take, if_pos hj, List.getElem?_drop]
            exact sgs_at ep
          have ll := seg_len (sgs ss ws) p1 p2
          refine ⟨t3, _, rfl, sameT (s47.trans sm8) ht3, rfl, _, _, rfl, _, _, rfl, rfl, rfl, .ref l, rfl, .int p.2, rfl, l, _, (p.2 : Int), ch (sgt ss p.2), rfl, rfl, SqL.of (sm8 _ _ hl7), atI_nat (by rw [List.getElem?_map, es, sga]; rfl), _, h8, ?_, same_over sm8 hD2, ?_⟩
          · rw [List.length_map, List.length_take]
            exact small1000 (by omega)
          · rw [upd_same, take_snoc esg, List.map_append]
            rfl
        · cases hy
      · rintro H8 ⟨sm8, h8⟩
        have ll := seg_len (sgs ss ws) p1 p2
        have lcs : (seg (sgs ss ws) p1 p2).length = cs.length := by
          rw [← hcs]
          unfold seg sgs
          rw [List.length_take, List.length_drop, List.length_map, List.length_take, List.length_drop, lx]
        rw [← lcs, List.take_length] at h8
        have s48 := s47.trans sm8
        refine ⟨"", D2, (seg (sgs ss ws) p1 p2).map fun c => (⟨#[c]⟩ : Str), rfl, rfl, .inl (SqL.of (h8.trans (by rw [List.map_map]; rfl))), ?_, ?_⟩
        · rw [lens_rows]
          show (seg (sgs ss ws) p1 p2).length + _ * 0 ≤ 16777216
          omega
        · rw [join_row]
          have lzz := zz_len (f := f) n
          refine ⟨.int p1, rfl, .int p2, rfl, by show 3 ≤ sizeLine; decide, fun t ht => ⟨zs, ?_, ?_, ?_, zs ++ [.ref t], upd_same, ?_⟩⟩
          · have h5' := (sT.trans s7).trans sm8 _ _ h5
            rw [upd_ne (ne_of_none h5' ht)]
            exact h5'
          · rw [W5.len, List.length_take]
            exact small1000 (by omega)
          · exact same_over (s48.trans (same_upd ht)) hD
          · have ew : (wz (sgs ss ws) f n)[i]? = some (wOf (sgs ss ws) (p1, p2)) := by
              unfold wz
              rw [List.getElem?_map, hzz]
              rfl
            have h5' := (sT.trans s7).trans sm8 _ _ h5
            have W8 := ((W5.same sT).same s7).same sm8
            have nt : t ≠ D := (ne_of_none h5' ht).symm
            rw [take_snoc ew]
            refine Wds.add ((W8.same (same_upd ht)).updl (same_upd ht _ _ h5')) ?_
            rw [upd_ne nt]
            exact upd_same
    · rintro H5 ⟨sm, zs, h5, W5⟩
      have e5 : (wz (sgs ss ws) f n).take ((fl f n).map fun (j : Nat) => V.int j).length = wds ss ws b := by
        rw [List.length_map]
        unfold wds
        rw [hf, hn]
        refine List.take_of_length_le ?_
        unfold wz zz
        rw [List.length_map, List.length_zip]
        exact Nat.min_le_left _ _
      rw [e5] at W5
      exact q D zs H5 (s14.trans sm) (s14.free hD) h5 W5
theorem ok_to {f : Addr} {fd : FuncData} {fO : Addr} {fdO : FuncData} {k : Nat} (F : FnTO K f fd) (FO : FnWO K fO fdO) (GO : FnOk P w K mg base (L2.CX P w) (k + 1) fO fdO ["alphabet", "reading", "blank"] (spWO K CA CR CT)) (mO : mg "words_of" = some (.ref fO)) :
    FnOk P w K mg base (L2.CX P w) (k + 2) f fd ["alphabet", "reading", "blank"] (spTO K CA CR CT) := by
  obtain ⟨mv, bO⟩ := wo_binds1 FO
  have kO := FO.kp
  refine F.ok scTO (fun vs H Q E h => ?_) (fun cdv A outer s H vs Q E hr h => ?_)
  · obtain ⟨o, _, _, x, z, rfl, _⟩ := h
    rfl
  · obtain ⟨o, high, ss, x, z, rfl, al, kz, sg, h⟩ := h
    have nd := scTO.nd
    refine ⟨_, pss_one (ps_ret (pe_joinK (K := K) rfl pe_str (pe_lc (own := [("word", 3), ("_", 4)]) (g := gTup K 3 (gCons (gName 3) (gCons (gName 4) (gCons (gName 4) gNil)))) (tt := tYes) rfl nd (pi_list (pe_callN GO hr (by rfl) mO kO bO (passE (takes_of rfl rfl rfl rfl)) (pa_cons (pv 0) (pa_cons (pv 1) pa_nil)) (pk_cons (pv 2) pk_nil))) (blkOk_by (N := nTO) (sc := defScope sTO) (by decide +kernel))
        (fun _ _ _ _ _ => pg_tup rfl (pgs_cons (pg_name (i := 3) nd rfl (Or.inl rfl)) (pgs_cons (pg_name (i := 4) nd rfl (Or.inl rfl)) (pgs_cons (pg_name (i := 4) nd rfl (Or.inl rfl)) pgs_nil)))) (fun _ _ _ _ _ => pts_nil) (fun _ _ _ _ _ => pv 3)))), ?_⟩
    have lft : ∀ ws : List (Nat × Nat), GoodR K H ss 60 x ws → ws.length ≤ 60 ∧ ∀ c ∈ sgs ss ws, 33 ≤ c ∧ c ≤ 126 := by
      rintro ws ⟨a, xs, _, _, _, wk⟩
      refine ⟨way_len al wk, fun c hc => ?_⟩
      unfold sgs at hc
      obtain ⟨p, hp, rfl⟩ := List.mem_map.mp hc
      obtain ⟨i, hi⟩ := List.mem_iff_getElem?.mp hp
      have w1 := (wk i p hi).1
      rw [sgt_at (List.getElem?_eq_getElem w1)]
      exact sg _ (List.getElem_mem w1)
    refine ⟨⟨" ", rfl⟩, .ref o, rfl, x, rfl, z, rfl, rfl, rfl, o, high, ss, x, z, rfl, al, kz, sg, ?_⟩
    rcases h with h | ⟨ws, gd, h⟩
    · exact .inl h
    rcases h with h | ⟨b, rfl, b1, b20, q⟩
    · exact .inr ⟨ws, gd, .inl h⟩
    refine .inr ⟨ws, gd, .inr ⟨b, rfl, b1, b20, fun l zs H1 s1 nl hl W1 => ⟨l, rfl, ⟨_, SqL.of hl⟩, fun D hD => lc_list (K := K) (a := l) (xs := zs) (fun i H2 => Same H1 H2 ∧ H2 D = some (.lst ((((wds ss ws b).take i).map fun w => S w.1).map V.str))) ⟨same_upd hD, upd_same⟩ (fun i H2 _ z => SqL.of (z.1 _ _ hl)) ?_ ?_⟩⟩⟩
    · rintro i y H2 hy ⟨sm, h2⟩
      obtain ⟨l1, l2⟩ := lft ws gd
      have lw := wds_len (ss := ss) (ws := ws) (b := b)
      have hi : i < (wds ss ws b).length := by
        rw [← W1.len]
        exact (List.getElem?_eq_some_iff.mp hy).1
      have ew : (wds ss ws b)[i]? = some (wds ss ws b)[i] := List.getElem?_eq_getElem hi
      generalize (wds ss ws b)[i] = w1 at ew
      obtain ⟨t, rfl, ht⟩ := W1.at_ i y w1 hy ew
      refine ⟨t, _, rfl, SqT.of (sm _ _ ht), rfl, _, _, rfl, _, _, rfl, _, _, rfl, rfl, rfl, .str (S w1.1), rfl, _, h2, ?_, same_over sm hD, ?_⟩
      · rw [List.length_map, List.length_map, List.length_take]
        exact small1000 (by omega)
      · rw [upd_same, take_snoc ew, List.map_append, List.map_append]
        rfl
    · rintro H2 ⟨sm, h2⟩
      obtain ⟨l1, l2⟩ := lft ws gd
      have lw := wds_len (ss := ss) (ws := ws) (b := b)
      rw [W1.len, List.take_length] at h2
      exact ⟨" ", D, ((wds ss ws b).map fun (w : Wd) => S w.1), rfl, rfl, .inl (SqL.of h2), tOf_fit (wds_ok l1 l2) (by omega), q H2 (s1.trans sm)⟩
end
end Dt
namespace Dt
open PySem PySem.Spec PyProof.Rows L2 L2X
open SX (S)
/-! ### words as data -/
def wL (w : Wd) : PyData := .list [.str (S w.1), .int w.2.1, .int w.2.2]
theorem strOk_sg {l : List Nat} (h : ∀ c ∈ l, 33 ≤ c ∧ c ≤ 126) : PyData.strOk (S l) = true := by
  unfold PyData.strOk S
  simp
  intro c hc
  have := h c hc
  omega
theorem int_short : ∀ n : Nat, n ≤ 60 → decide ((PyData.shown (.int (n : Int))).length ≤ 8) = true ∧ (PyData.int (n : Int)).showable = true := by
  have : ∀ n : Fin 61, decide ((PyData.shown (.int (n.val : Int))).length ≤ 8) = true ∧ (PyData.int (n.val : Int)).showable = true := by decide +kernel
  intro n h
  exact this ⟨n, by omega⟩
structure WLay (ws : List Wd) : Prop where
  a : PyData.canLayAll0 (ws.map wD) = true
  b : PyData.depthAll (ws.map wD) ≤ 3
  c : PyData.canLayAll0 (ws.map wL) = true
  d : PyData.depthAll (ws.map wL) ≤ 3
  s : PyData.showableAll (ws.map wD) = true
  l : PyData.leavesShortAll 8 (ws.map wD) = true
  k : PyData.bulkAll (ws.map wD) ≤ ws.length * 64
theorem lay_wds : ∀ ws : List Wd, (∀ w ∈ ws, WdOk w) → WLay ws
  | [], _ => ⟨by simp [PyData.canLayAll0], by simp [PyData.depthAll], by simp [PyData.canLayAll0], by simp [PyData.depthAll], by simp [PyData.showableAll], by simp [PyData.leavesShortAll], by simp [PyData.bulkAll]⟩
  | w :: r, h => by
    have L := lay_wds r fun m hm => h m (List.mem_cons_of_mem _ hm)
    have g := h w List.mem_cons_self
    have so := strOk_sg g.t
    obtain ⟨a1, a2⟩ := int_short _ g.a
    obtain ⟨b1, b2⟩ := int_short _ g.b
    have lw := g.l
    have ls : (S w.1).cps.size = w.1.length := SX.S_len w.1
    have lv : ((S w.1).cps.toList.all fun c => decide (c < 16 ^ 8)) = true := by
      have e1 : (S w.1).cps.toList = w.1 := by simp [S]
      rw [e1, List.all_eq_true]
      intro c hc
      have := g.t c hc
      exact decide_eq_true (by omega)
    refine ⟨?_, ?_, ?_, ?_, ?_, ?_, ?_⟩
    · rw [List.map_cons]
      simp [PyData.canLayAll0, PyData.canLay0, wD, L.a, so]
    · rw [List.map_cons]
      have := L.b
      simp only [PyData.depthAll, PyData.depth, wD]
      omega
    · rw [List.map_cons]
      simp [PyData.canLayAll0, PyData.canLay0, wL, L.c, so]
    · rw [List.map_cons]
      have := L.d
      simp only [PyData.depthAll, PyData.depth, wL]
      omega
    · rw [List.map_cons]
      simp only [PyData.showableAll, L.s, wD, Bool.and_true]
      simp only [PyData.showable, PyData.showableAll, Bool.and_true, Bool.true_and]
      simp only [PyData.showable] at a2 b2
      rw [a2, b2]
      rfl
    · rw [List.map_cons]
      simp only [PyData.leavesShortAll, L.l, wD, Bool.and_true]
      simp only [PyData.leavesShort, PyData.leavesShortAll, Bool.and_true, Bool.true_and]
      rw [a1, b1, lv]
      rfl
    · rw [List.map_cons, List.length_cons]
      have := L.k
      simp only [PyData.bulkAll, wD, PyData.bulk]
      have lt : w.1.toArray.size = w.1.length := by simp
      omega
theorem shaped_wds {ws : List Wd} (h : ∀ w ∈ ws, WdOk w) : SeqAt.shaped (.list (ws.map wD)) = true := by
  have L := lay_wds ws h
  have := L.b
  unfold SeqAt.shaped
  rw [Bool.and_eq_true, decide_eq_true_iff]
  refine ⟨by simp [PyData.canLay0, L.a], ?_⟩
  simp only [PyData.depth]
  omega
theorem shaped_wls {ws : List Wd} (h : ∀ w ∈ ws, WdOk w) : SeqAt.shaped (.list (ws.map wL)) = true := by
  have L := lay_wds ws h
  have := L.d
  unfold SeqAt.shaped
  rw [Bool.and_eq_true, decide_eq_true_iff]
  refine ⟨by simp [PyData.canLay0, L.c], ?_⟩
  simp only [PyData.depth]
  omega
theorem shown_wds {ws : List Wd} (h : ∀ w ∈ ws, WdOk w) (l : ws.length ≤ 60) : (PyData.list (ws.map wD)).showable = true ∧ (PyData.list (ws.map wD)).hasDict = false ∧ (PyData.list (ws.map wD)).depth ≤ 60 ∧ (PyData.list (ws.map wD)).shown.length ≤ sizeLine := by
  have L := lay_wds ws h
  have := L.b
  have := L.k
  refine ⟨by simp only [PyData.showable]; exact L.s, PyData.hasDict_of_canLay _ (by simp [PyData.canLay0, L.a]), by simp only [PyData.depth]; omega, PyData.shown_fits_bulk (B := 8) (Nat.le_refl 8) (by decide) (by simp only [PyData.leavesShort]; exact L.l) ?_⟩
  simp only [PyData.bulk]
  omega
theorem eqv_wds : ∀ ws : List Wd, PyData.eqvAll (ws.map wD) (ws.map wD) = true
  | [] => by simp [PyData.eqvAll]
  | w :: r => by
    rw [List.map_cons, PyData.eqvAll, eqv_wds r]
    simp [wD, PyData.eqv, PyData.eqvAll]
theorem wls_nil (ws : List Wd) : PyData.eqv (.list (ws.map wL)) (.list []) = decide (ws = []) := by
  cases ws with
  | nil => simp [PyData.eqv, PyData.eqvAll]
  | cons w r => simp [PyData.eqv, PyData.eqvAll]
/-! ### the words that are being made -/
structure FdL (H0 H : Hp) (g : Addr) (as : List Addr) (ws : List Wd) : Prop where
  top : H g = some (.lst (as.map V.ref))
  len : as.length = ws.length
  row : ∀ (i : Nat) (a : Addr) (w : Wd), as[i]? = some a → ws[i]? = some w → H a = some (.lst (wV w))
  nd : as.Nodup
  off : g ∉ as
  sm : Same H0 H
  ng : H0 g = none
  nr : ∀ a ∈ as, H0 a = none
theorem FdL.same {H0 H H' : Hp} {g : Addr} {as : List Addr} {ws : List Wd} (F : FdL H0 H g as ws) (s : Same H H') : FdL H0 H' g as ws :=
  ⟨s _ _ F.top, F.len, fun i a w h1 h2 => s _ _ (F.row i a w h1 h2), F.nd, F.off, F.sm.trans s, F.ng, F.nr⟩
theorem FdL.put {H0 H : Hp} {g a : Addr} {as : List Addr} {us : List Wd} {w v : Wd} (F : FdL H0 H g (as ++ [a]) (us ++ [w])) : FdL H0 (upd H a (.lst (wV v))) g (as ++ [a]) (us ++ [v]) := by
  have hm : a ∈ as ++ [a] := List.mem_append_right _ (List.mem_singleton.mpr rfl)
  have na : g ≠ a := fun e => F.off (e ▸ hm)
  have l := F.len
  rw [List.length_append, List.length_append, List.length_singleton, List.length_singleton] at l
  refine ⟨by rw [upd_ne na]; exact F.top, by rw [List.length_append, List.length_append]; exact l, fun i b m hb hm2 => ?_, F.nd, F.off, same_over F.sm (F.nr a hm), F.ng, F.nr⟩
  by_cases e : i < as.length
  · rw [List.getElem?_append_left e] at hb
    rw [List.getElem?_append_left (by omega)] at hm2
    have nb : b ≠ a := fun q => by
      subst q
      have := List.nodup_append.mp F.nd
      exact this.2.2 b (List.mem_of_getElem? hb) b (List.mem_singleton.mpr rfl) rfl
    rw [upd_ne nb]
    exact F.row i b m (by rw [List.getElem?_append_left e]; exact hb) (by rw [List.getElem?_append_left (by omega)]; exact hm2)
  · have hl := (List.getElem?_eq_some_iff.mp hb).1
    rw [List.length_append, List.length_singleton] at hl
    have ei : i = as.length := by omega
    subst ei
    rw [List.getElem?_append_right (Nat.le_refl _), Nat.sub_self] at hb
    rw [List.getElem?_append_right (by omega), show as.length - us.length = 0 by omega] at hm2
    cases hb
    cases hm2
    exact upd_same
theorem FdL.add {H0 H : Hp} {g a : Addr} {as : List Addr} {ws : List Wd} {w : Wd} (F : FdL H0 H g as ws) (hn : H a = none) : FdL H0 (upd (upd H a (.lst (wV w))) g (.lst (as.map V.ref ++ [V.ref a]))) g (as ++ [a]) (ws ++ [w]) := by
  have na : a ≠ g := (ne_of_none F.top hn).symm
  have out : ∀ b ∈ as, b ≠ a := fun b hb e => by
    subst e
    obtain ⟨i, hi⟩ := List.mem_iff_getElem?.mp hb
    have hl : i < ws.length := by
      rw [← F.len]
      exact (List.getElem?_eq_some_iff.mp hi).1
    have := F.row i b _ hi (List.getElem?_eq_getElem hl)
    rw [hn] at this
    cases this
  refine ⟨by rw [upd_same, List.map_append]; rfl, by rw [List.length_append, List.length_append, F.len]; rfl, fun i b m hb hm => ?_, ?_, ?_, same_over (F.sm.trans (same_upd hn)) F.ng, F.ng, fun b hb => ?_⟩
  · by_cases e : i < as.length
    · rw [List.getElem?_append_left e] at hb
      rw [List.getElem?_append_left (by rw [← F.len]; exact e)] at hm
      have nb := out b (List.mem_of_getElem? hb)
      have ng : b ≠ g := fun q => F.off (q ▸ List.mem_of_getElem? hb)
      rw [upd_ne ng, upd_ne nb]
      exact F.row i b m hb hm
    · have hl := (List.getElem?_eq_some_iff.mp hb).1
      rw [List.length_append, List.length_singleton] at hl
      have ei : i = as.length := by omega
      subst ei
      rw [List.getElem?_append_right (Nat.le_refl _), Nat.sub_self] at hb
      rw [List.getElem?_append_right (by rw [F.len]; exact Nat.le_refl _), show as.length - ws.length = 0 by rw [F.len]; omega] at hm
      cases hb
      cases hm
      rw [upd_ne na]
      exact upd_same
  · rw [List.nodup_append]
    refine ⟨F.nd, by simp, fun x hx y hy e => ?_⟩
    rw [List.mem_singleton.mp hy] at e
    exact out x hx e
  · intro hm
    rcases List.mem_append.mp hm with z | z
    · exact F.off z
    · exact na (List.mem_singleton.mp z).symm
  · rcases List.mem_append.mp hb with z | z
    · exact F.nr b z
    · rw [List.mem_singleton.mp z]
      exact F.sm.free hn
theorem dp_fdl {K : PySem.W.Frag} {H : Hp} : ∀ {as : List Addr} {ws : List Wd}, as.length = ws.length → (∀ (i : Nat) (a : Addr) (w : Wd), as[i]? = some a → ws[i]? = some w → H a = some (.lst (wV w))) → DpAll K H (as.map V.ref) (ws.map wL)
  | [], [], _, _ => .nil
  | [], _ :: _, h, _ => nomatch h
  | _ :: _, [], h, _ => nomatch h
  | a :: as, w :: ws, h, r => .cons (.lst (SqL.of (r 0 a w rfl rfl)) (.cons (.str _) (.cons (.int _) (.cons (.int _) .nil)))) (dp_fdl (Nat.succ.inj h) fun i b v h1 h2 => r (i + 1) b v h1 h2)
theorem sqT_dn {K : PySem.W.Frag} {H H' : Hp} {d a : Addr} {n : Nat} {xs : List V} (s : Do d H H') (D : Du H d n) (h : SqT K H a xs) : SqT K H' a xs := by
  obtain ⟨a1, a2, a3, hd, _⟩ := D
  rcases h with (h | ⟨o, h⟩) | h
  · exact SqT.of (s _ _ h (ne_of h hd (by intro z; cases z)))
  · exact .inl (.inr ⟨o, s _ _ h (ne_of h hd (by intro z; cases z))⟩)
  · exact .inr h
theorem Plc.dn {K : PySem.W.Frag} {H H' : Hp} {d : Addr} {n : Nat} {xs : List V} {ps : List (Nat × Nat)} (h : Plc K H xs ps) (D : Du H d n) (s : Do d H H') : Plc K H' xs ps := ⟨h.len, fun i x p a b => let ⟨t, e, z⟩ := h.at_ i x p a b; ⟨t, e, sqT_dn s D z⟩⟩
end Dt
namespace Dt
open PySem PySem.Spec PyProof.Rows L2 L2X
open SX (S)
abbrev sDW : Stmt := topS 61
abbrev nDW : List Str := ["draw", "shapes", "wide", "found", "at", "turn", "number"]
theorem scDW : FnScope nDW ["draw", "shapes", "wide"] (defScope sDW) := ⟨rfl, rfl, rfl, by decide +kernel, rfl, by decide +kernel, by decide +kernel⟩
def spDW (K : PySem.W.Frag) : Sp := fun vs H Q _ => ∃ (d l : Addr) (n high wide : Nat) (xs : List V) (ss : List Sh), vs = [.ref d, .ref l, .int wide] ∧ Du H d n ∧ n + 1000 ≤ fuel ∧ l ≠ d ∧ H l = some (.lst xs) ∧ Shs H xs ss ∧ (∀ s ∈ ss, PicR high s.w s.rs) ∧ 0 < ss.length ∧ ss.length ≤ 16 ∧ 1 ≤ wide ∧ wide ≤ 60 ∧
  ∀ (p : Addr) (zs : List V) (ws : List (Nat × Nat)) H', H p = none → H' p = some (.tup zs) → Plc K H' zs ws → WayOk ss wide ws → Du H' d (n + 200) → Do d H H' → Q (.ref p) H'
abbrev sWI : Stmt := topS 58
abbrev nWI : List Str := ["shapes", "way", "least", "found", "past", "at", "column", "number", "one"]
theorem scWI : FnScope nWI ["shapes", "way", "least"] (defScope sWI) := ⟨rfl, rfl, rfl, by decide +kernel, rfl, by decide +kernel, by decide +kernel⟩
def spWI (K : PySem.W.Frag) : Sp := fun vs H Q _ => ∃ (l a : Addr) (high wide : Nat) (b : Int) (xs zs : List V) (ss : List Sh) (ws : List (Nat × Nat)), vs = [.ref l, .ref a, .int b] ∧ H l = some (.lst xs) ∧ Shs H xs ss ∧ (∀ s ∈ ss, PicR high s.w s.rs ∧ 33 ≤ s.sg ∧ s.sg ≤ 126) ∧ SqT K H a zs ∧ Plc K H zs ws ∧ WayOk ss wide ws ∧ ws.length ≤ 60 ∧
  ∀ (m : Addr) (ys : List V) H', Same H H' → H m = none → H' m = some (.lst ys) → Wds H' ys (wds ss ws b) → Q (.ref m) H'
section
variable {P : Program} {w : World} {K : PySem.W.Frag} {mg : Str → Option Value} {base : Heap}
theorem ok_dw {f : Addr} {fd : FuncData} {k : Nat} (F : Fun K "_law_drawn_way" "_law_drawn_way" sDW f fd) (T : Tx mg) (GN : Pm P w K mg base CX0 (k + 1) "_law_next" ["draw", "below"] spNx) (GK : Pm P w K mg base CX0 (k + 1) "_law_pick" ["draw", "some"] (spPk K)) :
    FnOk P w K mg base CX0 (k + 2) f fd ["draw", "shapes", "wide"] (spDW K) := by
  obtain ⟨fN, fdN, GN, mN, kN, bN⟩ := GN.ex
  obtain ⟨fK, fdK, GK, mK, kK, bK⟩ := GK.ex
  refine F.ok scDW (fun vs H Q E h => ?_) (fun cdv A outer s H vs Q E hr h => ?_)
  · obtain ⟨d, l, _, _, _, _, _, rfl, _⟩ := h
    rfl
  · obtain ⟨d, l, n, high, wide, xs, ss, rfl, D, hn, nld, hl, Ss, pr, l0, l16, w0, w60, q⟩ := h
    have nd := scDW.nd
    refine ⟨_, pss_cons (ps_par (i := 3) (j := 4) (by rfl) nd rfl rfl (by decide) rfl rfl (pa_cons (pe_lst pa_nil) (pa_cons (pe_call GN hr (by rfl) mN kN bN .nil pass0 (pa_cons (pv 0) (pa_cons pe_int pa_nil))) pa_nil)) (by rfl))
      (pss_cons (ps_for PassesOwn.never rfl (pi_range1 rfl T.range (pa_cons (pv 2) pa_nil)) (pg_name (i := 5) nd rfl (.inl rfl))
        (C8.pss_cut (ps_set (i := 6) nd rfl (.inl rfl) (pe_call GN hr (by rfl) mN kN bN .nil pass0 (pa_cons (pv 0) (pa_cons (pe_callB call_len_seq (by rfl) T.len PySem.boot_len (pa_cons (pv 1) pa_nil)) pa_nil))))
        (pss_one (ps_if (pt_cmpR op_le (pe_op op_add (pv 4) (pe_callB call_len_str (by rfl) T.len PySem.boot_len (pa_cons (pe_ix (r := rIxT K) ix_tup (pe_ix (r := rIxT K) ix_tup (pe_ix (r := rIxL K) ix_list (pv 1) (pv 6) (fun _ _ => rfl)) pe_int (fun _ _ => rfl)) pe_int (fun _ _ => rfl)) pa_nil))) (pv 2) (nomark _))
          (C8.pss_cut (ps_expr (pe_bm PySem.F.plainAttrs_list PySem.F.slot_list_append PySem.F.type_list_append mt_append (pv 3) (pa_cons (pe_tup (pa_cons (pv 4) (pa_cons (pv 6) pa_nil))) pa_nil)))
          (pss_one (ps_set (i := 4) nd rfl (.inl rfl) (pe_op op_add (pe_op op_add (pv 4) (pe_callB call_len_str (by rfl) T.len PySem.boot_len (pa_cons (pe_ix (r := rIxT K) ix_tup (pe_ix (r := rIxT K) ix_tup (pe_ix (r := rIxL K) ix_list (pv 1) (pv 6) (fun _ _ => rfl)) pe_int (fun _ _ => rfl)) pe_int (fun _ _ => rfl)) pa_nil)))
            (pe_call GK hr (by rfl) mK kK bK .nil pass0 (pa_cons (pv 0) (pa_cons (pe_lst (pa_cons pe_int (pa_cons pe_int (pa_cons pe_int (pa_cons pe_int (pa_cons pe_int (pa_cons pe_int (pa_cons pe_int pa_nil)))))))) pa_nil))))))) pss_nil))))
      (pss_one (ps_ret (pe_callTy call_tuple_of (by rfl) T.tuple (by decide +kernel) (pa_cons (pv 3) pa_nil))))), ?_⟩
    have fu : n + 1000 ≤ 1000000000000 := hn
    refine ⟨by show 0 ≤ sizeLine; decide, fun g hg => ?_⟩
    have sg := same_upd (o := .lst []) hg
    have Dg := D.same sg
    have ngd := D.new hg
    have nlg : l ≠ g := ne_of_none hl hg
    refine ⟨.ref d, rfl, d, 5, n, rfl, Dg, (by show n ≤ 1000000000000; omega), by decide, by decide, fun m H1 m0 m1 D1 dn1 => ?_⟩
    obtain ⟨at0, rfl⟩ := Int.eq_ofNat_of_zero_le m0
    have hl1 : H1 l = some (.lst xs) := dn1 _ _ (sg _ _ hl) nld
    have Ss1 := (Ss.same sg).dn Dg dn1
    refine ⟨_, _, rfl, .int wide, rfl, wide, rfl, by omega, by omega, for_range (lo := 0) (n := wide) (fun i σ H2 => ∃ (y5 y6 : Option V) (at1 : Nat) (zs : List V) (ws : List (Nat × Nat)), σ = [some (.ref d), some (.ref l), some (.int wide), some (.ref g), some (.int at1), y5, y6] ∧ H2 g = some (.lst zs) ∧ Plc K H2 zs ws ∧ WayOk ss wide ws ∧ edge ss ws ws.length ≤ at1 ∧ ws.length ≤ i ∧ Du H2 d (n + 1 + 2 * i) ∧ Do d H H2 ∧ H2 l = some (.lst xs) ∧ Shs H2 xs ss)
      ⟨none, none, at0, [], [], rfl, dn1 _ _ upd_same ngd, ⟨rfl, fun i x p h => nomatch h⟩, WayOk.nil, Nat.zero_le _, Nat.le_refl _, D1, (Do.same sg).trans dn1, hl1, Ss1⟩ ?_ ?_⟩
    · rintro i σ H2 hi ⟨y5, y6, at1, zs, ws, rfl, hg2, pl, wk, ed, lw, D2, dn2, hl2, Ss2⟩
      generalize (V.int (0 + (i : Int))) = tv
      refine ⟨fun σ' H' => ∃ number : Nat, σ' = [some (.ref d), some (.ref l), some (.int wide), some (.ref g), some (.int at1), some tv, some (.int number)] ∧ number < ss.length ∧ H' g = some (.lst zs) ∧ Plc K H' zs ws ∧ Du H' d (n + 2 + 2 * i) ∧ Do d H H' ∧ H' l = some (.lst xs) ∧ Shs H' xs ss, ?_, ?_⟩
      · refine ⟨.ref d, rfl, .ref l, rfl, l, xs, rfl, .inl (SqL.of hl2), d, _, _, rfl, D2, (by show _ ≤ 1000000000000; omega), by rw [Ss2.len]; omega, by rw [Ss2.len]; omega, fun m H3 m0 m1 D3 dn3 => ?_⟩
        obtain ⟨m, rfl⟩ := Int.eq_ofNat_of_zero_le m0
        rw [Ss2.len] at m1
        exact ⟨m, rfl, by omega, dn3 _ _ hg2 ngd, pl.dn D2 dn3, D3.le (by omega), dn2.trans dn3, dn3 _ _ hl2 nld, Ss2.dn D2 dn3⟩
      rintro _ H3 ⟨number, rfl, hnum, hg3, pl3, D3, dn3, hl3, Ss3⟩
      have es : ss[number]? = some ss[number] := List.getElem?_eq_getElem hnum
      have ew := wdt_at es
      have prn := pr _ (List.getElem_mem hnum)
      generalize ss[number] = s' at es ew prn
      have lx := Ss3.len
      have ex : xs[number]? = some (xs[number]'(by omega)) := List.getElem?_eq_getElem (by omega)
      have h0 := prn.h0
      have er : s'.rs[0]? = some (s'.rs[0]'(by rw [prn.len]; omega)) := List.getElem?_eq_getElem (by rw [prn.len]; omega)
      have lr := (prn.row _ (List.mem_of_getElem? er)).len
      generalize s'.rs[0]'(by rw [prn.len]; omega) = r0 at er lr
      have ww1 := prn.w1
      have lz : (S r0).length ≤ sizeLine := by
        rw [SX.S_len, lr]
        exact Nat.le_of_lt (small1000 (by omega))
      have lS : (S r0).length = s'.w := by rw [SX.S_len, lr]
      -- how wide the shape is, read off it
      have wid : ∀ (H4 : Hp) (Q : VK), H4 l = some (.lst xs) → Shs H4 xs ss → Q (.int s'.w) H4 → ∃ (t p : Addr), xs[number]? = some (.ref t) ∧ H4 t = some (.tup [ch s'.sg, .ref p]) ∧ H4 p = some (.tup (s'.rs.map rv)) := fun H4 Q h1 h2 _ => by
        obtain ⟨t, p, e, ht, hp⟩ := h2.at_ number _ s' ex es
        exact ⟨t, p, by rw [ex, e], ht, hp⟩
      obtain ⟨t, p, et, ht, hp⟩ := wid H3 (fun _ _ => True) hl3 Ss3 trivial
      refine ⟨.int at1, rfl, .ref l, rfl, .int number, rfl, l, _, (number : Int), .ref t, rfl, rfl, SqL.of hl3, atI_nat et, t, _, 1, .ref p, rfl, rfl, SqT.of ht, rfl, p, _, 0, rv r0, rfl, rfl, SqT.of hp, atI_nat (j := 0) (by rw [List.getElem?_map, er]; rfl), S r0, rfl, lz, at1, _, rfl, rfl, .int wide, rfl, _, wide, rfl, rfl, _, rfl, ?_⟩
      rw [lS]
      by_cases hfit : at1 + s'.w ≤ wide
      · refine iteY (decide_eq_true (by omega)) ?_
        refine ⟨fun σ' H' => ∃ zs', σ' = [some (.ref d), some (.ref l), some (.int wide), some (.ref g), some (.int at1), some tv, some (.int number)] ∧ H' g = some (.lst zs') ∧ Plc K H' zs' (ws ++ [(at1, number)]) ∧ Du H' d (n + 2 + 2 * i) ∧ Do d H H' ∧ H' l = some (.lst xs) ∧ Shs H' xs ss, ?_, ?_⟩
        · refine ⟨.ref g, rfl, .inl ⟨rfl, _, SqL.of hg3⟩, .int at1, rfl, .int number, rfl, by show 2 ≤ sizeLine; decide, fun u hu => ?_⟩
          have su := same_upd (o := .tup [V.int (at1 : Int), V.int (number : Int)]) hu
          refine ⟨g, _, _, rfl, rfl, su _ _ hg3, ?_, zs ++ [.ref u], rfl, upd_same, plc_one pl3 hg3 hu, (D3.same su).upd ngd, (dn3.trans (Do.same su)).upd hg, ?_, (Ss3.same su).updl (su _ _ hg3)⟩
          · rw [pl3.len]
            exact small1000 (by omega)
          · rw [upd_ne nlg]
            exact su _ _ hl3
        rintro _ H4 ⟨zs', rfl, hg4, pl4, D4, dn4, hl4, Ss4⟩
        obtain ⟨t, p, et, ht, hp⟩ := wid H4 (fun _ _ => True) hl4 Ss4 trivial
        refine ⟨.int at1, rfl, .ref l, rfl, .int number, rfl, l, _, (number : Int), .ref t, rfl, rfl, SqL.of hl4, atI_nat et, t, _, 1, .ref p, rfl, rfl, SqT.of ht, rfl, p, _, 0, rv r0, rfl, rfl, SqT.of hp, atI_nat (j := 0) (by rw [List.getElem?_map, er]; rfl), S r0, rfl, lz, at1, _, rfl, rfl, .ref d, rfl, by show 7 ≤ sizeLine; decide, fun u hu => ?_⟩
        have su := same_upd (o := .lst [V.int 0, V.int 0, V.int 1, V.int 1, V.int 2, V.int 3, V.int 8]) hu
        refine ⟨d, .ref u, _, rfl, D4.same su, (by show _ ≤ 1000000000000; omega), .inl ⟨u, _, rfl, D4.new hu, upd_same, by show 0 < 7; decide, by show 7 ≤ 1000; decide, fun j y H5 hy D5 dn5 => ?_⟩⟩
        obtain ⟨c, rfl⟩ : ∃ c : Nat, y = .int c := by
          have hm := List.mem_of_getElem? hy
          simp only [List.mem_cons, List.not_mem_nil, or_false] at hm
          rcases hm with rfl | rfl | rfl | rfl | rfl | rfl | rfl
          · exact ⟨0, rfl⟩
          · exact ⟨0, rfl⟩
          · exact ⟨1, rfl⟩
          · exact ⟨1, rfl⟩
          · exact ⟨2, rfl⟩
          · exact ⟨3, rfl⟩
          · exact ⟨8, rfl⟩
        rw [lS]
        have e1 : ((at1 : Int) + (s'.w : Int) + (c : Int)) = ((at1 + s'.w + c : Nat) : Int) := by omega
        refine ⟨_, c, rfl, rfl, some tv, some (.int number), at1 + s'.w + c, zs', ws ++ [(at1, number)], by rw [← e1]; rfl, dn5 _ _ (su _ _ hg4) ngd, (pl4.same su).dn (D4.same su) dn5, wk.snoc hnum ed (by show at1 + wdt ss number ≤ wide; omega), ?_, by rw [List.length_append, List.length_singleton]; omega, D5.le (by omega), dn4.trans ((Do.same su).trans dn5), dn5 _ _ (su _ _ hl4) nld, (Ss4.same su).dn (D4.same su) dn5⟩
        rw [List.length_append, List.length_singleton, edge_at (p := (at1, number)) (by rw [List.getElem?_append_right (Nat.le_refl _), Nat.sub_self]; rfl)]
        show at1 + wdt ss number ≤ _
        omega
      · refine iteE (decide_eq_false (by omega)) ?_
        exact ⟨some tv, some (.int number), at1, zs, ws, rfl, hg3, pl3, wk, ed, by omega, D3.le (by omega), dn3, hl3, Ss3⟩
    · rintro σ H2 ⟨y5, y6, at1, zs, ws, rfl, hg2, pl, wk, ed, lw, D2, dn2, hl2, Ss2⟩
      refine ⟨.ref g, rfl, g, zs, rfl, .inl ⟨SqL.of hg2, fun p hp => ?_⟩⟩
      have sp := same_upd (o := .tup zs) hp
      exact q p zs ws _ (dn2.nn D2 hp) upd_same (pl.same sp) wk ((D2.same sp).le (by omega)) (dn2.trans (Do.same sp))
end
end Dt
namespace L2X
open PySem PySem.Spec PyProof.Rows L2
theorem call_tupleK {X : Cx} {K : PySem.W.Frag} (hK : X.K = K) : CallR X (.type "tuple") (fun xs H Q => ∃ p ys, xs = [.ref p] ∧ ((SqL K H p ys ∧ ∀ l, H l = none → Q (.ref l) (upd H l (.tup ys))) ∨ (SqT K H p ys ∧ Q (.ref p) H))) := by
  subst hK
  exact call_tuple_of
end L2X
namespace Dt
open PySem PySem.Spec PyProof.Rows L2 L2X
open SX (S)
theorem isSt_pos {ss : List Sh} {ws : List (Nat × Nat)} {b : Int} {i : Nat} {p : Nat × Nat} (h0 : 0 < i) (hp : ws[i]? = some p) : isSt ss ws b i = decide (b ≤ (p.1 : Int) - (edge ss ws i : Int)) := by
  unfold isSt
  rw [List.getD_eq_getElem?_getD, hp, show (i == 0) = false from by rw [beq_eq_false_iff_ne]; omega, Bool.false_or]
  rfl
theorem wz_ne {sg : List Nat} {f : Nat → Bool} {k : Nat} (h0 : f 0 = true) (hk : 0 < k) (hl : k ≤ sg.length) : wz sg f k ≠ [] := by
  obtain ⟨j, rfl⟩ : ∃ j, k = j + 1 := ⟨k - 1, by omega⟩
  have hc : sg[j]? = some sg[j] := List.getElem?_eq_getElem (by omega)
  cases e : f j with
  | true =>
    rw [wz_start e hc]
    simp
  | false =>
    rcases Nat.eq_zero_or_pos j with z | z
    · rw [z, h0] at e
      cases e
    · obtain ⟨T, t, l, _, h2⟩ := wz_cont h0 z e hc
      rw [h2]
      simp
theorem wz_ok {sg : List Nat} {f : Nat → Bool} {k : Nat} (h0 : f 0 = true) (hk : k ≤ 60) (hg : ∀ c ∈ sg, 33 ≤ c ∧ c ≤ 126) : ∀ w ∈ wz sg f k, WdOk w := by
  intro w h
  obtain ⟨p, hp, rfl⟩ := List.mem_map.mp h
  obtain ⟨h1, h2⟩ := zz_mem h0 _ p hp
  refine ⟨fun c hc => hg c (List.mem_of_mem_drop (List.mem_of_mem_take hc)), ?_, by show p.1 ≤ 60; omega, by show p.2 ≤ 60; omega⟩
  exact Nat.le_trans (seg_len _ _ _) (by omega)
section
variable {P : Program} {w : World} {K : PySem.W.Frag} {mg : Str → Option Value} {base : Heap}
theorem ok_wi {f : Addr} {fd : FuncData} {k : Nat} (F : Fun K "_law_words_in" "_law_words_in" sWI f fd) (T : Tx mg) (en : mg "enumerate" = none) : FnOk P w K mg base CX0 (k + 1) f fd ["shapes", "way", "least"] (spWI K) := by
  refine F.ok scWI (fun vs H Q E h => ?_) (fun cdv A outer s H vs Q E hr h => ?_)
  · obtain ⟨l, a, _, _, _, _, _, _, _, rfl, _⟩ := h
    rfl
  · obtain ⟨l, a, high, wide, b, xs, zs, ss, ws, rfl, hl, Ss, gd, ha, pl, wk, lw, q⟩ := h
    have nd := scWI.nd
    refine ⟨_, pss_cons (ps_par (i := 3) (j := 4) (by rfl) nd rfl rfl (by decide) rfl rfl (pa_cons (pe_lst pa_nil) (pa_cons pe_int pa_nil)) (by rfl))
      (pss_cons (ps_for PassesOwn.never rfl (pi_enumG (by rfl) en (pa_cons (pv 1) pa_nil)) (pg_tup rfl (pgs_cons (pg_name (i := 5) nd rfl (Or.inl rfl)) (pgs_cons (pg_tup rfl (pgs_cons (pg_name (i := 6) nd rfl (Or.inl rfl)) (pgs_cons (pg_name (i := 7) nd rfl (Or.inl rfl)) pgs_nil))) pgs_nil)))
        (C8.pss_cut (ps_if (PW.pt (pw_or (pt_cmpR (op_eqD hr.units) (pv 3) (pe_lst pa_nil) (nomark _)) (pw_or1 (pt_cmpR op_ge (pe_op op_sub (pv 6) (pv 4)) (pv 2) (nomark _)))))
            (pss_one (ps_expr (pe_bm PySem.F.plainAttrs_list PySem.F.slot_list_append PySem.F.type_list_append mt_append (pv 3) (pa_cons (pe_lst (pa_cons pe_str (pa_cons (pv 5) (pa_cons (pv 5) pa_nil)))) pa_nil)))) pss_nil)
        (C8.pss_cut (ps_asg (pe_op op_add_str (pe_ix (r := rIxL K) ix_list (pe_ix (r := rIxL K) ix_list (pv 3) (pe_un un_neg pe_int) (fun _ _ => rfl)) pe_int (fun _ _ => rfl)) (pe_ix (r := rIxT K) ix_tup (pe_ix (r := rIxL K) ix_list (pv 0) (pv 7) (fun _ _ => rfl)) pe_int (fun _ _ => rfl))) (pg_sub (pe_ix ix_list (pv 3) (pe_un un_neg pe_int) (fun _ _ => rfl)) pe_int set_list))
        (C8.pss_cut (ps_asg (pe_op op_add (pv 5) pe_int) (pg_sub (pe_ix ix_list (pv 3) (pe_un un_neg pe_int) (fun _ _ => rfl)) pe_int set_list))
        (pss_one (ps_set (i := 4) nd rfl (.inl rfl) (pe_op op_add (pv 6) (pe_callB call_len_str (by rfl) T.len PySem.boot_len (pa_cons (pe_ix (r := rIxT K) ix_tup (pe_ix (r := rIxT K) ix_tup (pe_ix (r := rIxL K) ix_list (pv 0) (pv 7) (fun _ _ => rfl)) pe_int (fun _ _ => rfl)) pe_int (fun _ _ => rfl)) pa_nil))))))))) 
      (pss_one (ps_ret (pe_lc (own := [("one", 8)]) (g := gName 8) (tt := tYes) rfl nd (pi_list (pv 3)) (blkOk_by (N := nWI) (sc := defScope sWI) (by decide +kernel)) (fun _ _ _ _ _ => pg_name (i := 8) nd rfl (Or.inl rfl)) (fun _ _ _ _ _ => pts_nil)
          (fun _ _ _ _ _ => pe_callTy (call_tupleK (K := K) rfl) (by rfl) T.tuple (by decide +kernel) (pa_cons (pv 8) pa_nil)))))), ?_⟩
    generalize hf : isSt ss ws b = f
    generalize hsg : sgs ss ws = sg
    have f0 : f 0 = true := by rw [← hf]; exact isSt0
    have lz := pl.len
    refine ⟨by show 0 ≤ sizeLine; decide, fun g hg => ?_⟩
    have sg0 := same_upd (o := .lst []) hg
    refine ⟨_, _, rfl, .ref a, rfl, .tup a, zs, rfl, sameT sg0 ha, for_enumG (K := K) (A := .tup a) (xs := zs) (fun i σ H2 => ∃ (y5 y6 y7 : Option V) (as : List Addr), σ = [some (.ref l), some (.ref a), some (.int b), some (.ref g), some (.int (edge ss ws i)), y5, y6, y7, none] ∧ FdL H H2 g as (wz sg f i)) ⟨none, none, none, [], rfl, ⟨upd_same, rfl, (fun i a w h => nomatch h), List.nodup_nil, (fun h => nomatch h), sg0, hg, (fun a h => nomatch h)⟩⟩ (fun i σ H2 _ z => by
      obtain ⟨_, _, _, _, _, F⟩ := z
      exact sameT F.sm ha) ?_ ?_⟩
    · rintro i x σ H2 T' hx ⟨y5, y6, y7, as, rfl, F2⟩ hT
      have hi : i < ws.length := by
        rw [← lz]
        exact (List.getElem?_eq_some_iff.mp hx).1
      have ep : ws[i]? = some ws[i] := List.getElem?_eq_getElem hi
      generalize ws[i] = p at ep
      obtain ⟨t, rfl, ht⟩ := pl.at_ i x p hx ep
      have sT := same_upd (o := .tup [V.int (i : Nat), V.ref t]) hT
      have F3 := F2.same sT
      refine ⟨T', _, rfl, SqT.of upd_same, rfl, _, _, rfl, _, _, rfl, ⟨t, _, rfl, sameT F3.sm ht, rfl, _, _, rfl, _, _, rfl, rfl, rfl, ?_⟩⟩
      have w1 := (wk i p ep).1
      have es : ss[p.2]? = some ss[p.2] := List.getElem?_eq_getElem w1
      have ew := wdt_at es
      have sga := sgt_at es
      obtain ⟨prn, c33, c126⟩ := gd _ (List.getElem_mem w1)
      generalize ss[p.2] = s' at es ew sga prn c33 c126
      have esg : sg[i]? = some s'.sg := by
        rw [← hsg, ← sga]
        exact sgs_at ep
      have lsg : sg.length = ws.length := by
        rw [← hsg]
        unfold sgs
        rw [List.length_map]
      have sgr : ∀ c ∈ sg, 33 ≤ c ∧ c ≤ 126 := by
        intro c hc
        rw [← hsg] at hc
        unfold sgs at hc
        obtain ⟨p2, hp2, rfl⟩ := List.mem_map.mp hc
        obtain ⟨i2, hi2⟩ := List.mem_iff_getElem?.mp hp2
        have w2 := (wk i2 p2 hi2).1
        rw [sgt_at (List.getElem?_eq_getElem w2)]
        exact (gd _ (List.getElem_mem w2)).2
      have wok := wz_ok (k := i) f0 (by omega) sgr
      generalize upd H2 T' (.tup [V.int (i : Nat), V.ref t]) = H3 at sT F3 ⊢
      have lw2 : (wz sg f i).length ≤ 60 := by
        unfold wz
        rw [List.length_map]
        have := zz_len (f := f) i
        omega
      -- the word that it belongs to
      refine ⟨fun σ' H' => ∃ (as : List Addr) (a0 : Addr) (us : List Wd) (t : List Nat) (l1 k1 : Nat), σ' = [some (.ref l), some (.ref a), some (.int b), some (.ref g), some (.int (edge ss ws i)), some (.int (i : Nat)), some (.int p.1), some (.int p.2), none] ∧ FdL H H' g (as ++ [a0]) (us ++ [(t, l1, k1)]) ∧ us ++ [(t ++ [s'.sg], l1, i + 1)] = wz sg f (i + 1) ∧ t.length ≤ 60, ?_, ?_⟩
      · refine ⟨.ref g, rfl, by show 0 ≤ sizeLine; decide, fun e0 he0 => ?_⟩
        have se := same_upd (o := .lst []) he0
        have F4 := F3.same se
        refine ⟨.list ((wz sg f i).map wL), .list [], .lst (SqL.of F4.top) (dp_fdl F4.len F4.row), .lst (SqL.of upd_same) .nil, shaped_wls wok, by decide +kernel, _, rfl, ?_⟩
        rw [wls_nil]
        generalize upd H3 e0 (.lst []) = H4 at F4 ⊢
        have app : ∀ a0, H4 a0 = none → FdL H (upd (upd H4 a0 (.lst [V.str "", V.int (i : Nat), V.int (i : Nat)])) g (.lst (as.map V.ref ++ [V.ref a0]))) g (as ++ [a0]) (wz sg f i ++ [([], i, i)]) := fun a0 ha0 => by
          have e : ([V.str "", V.int (i : Nat), V.int (i : Nat)] : List V) = wV ([], i, i) := by
            unfold wV
            rw [← s_empty]
          rw [e]
          exact F4.add ha0
        have lax : (as.map V.ref).length < sizeLine := by
          rw [List.length_map, F4.len]
          exact small1000 (by omega)
        cases hfi : f i with
        | true =>
          have fin : ∀ a0, H4 a0 = none → ∃ (as' : List Addr) (a0' : Addr) (us : List Wd) (t : List Nat) (l1 k1 : Nat), ([some (.ref l), some (.ref a), some (.int b), some (.ref g), some (.int (edge ss ws i)), some (.int (i : Nat)), some (.int p.1), some (.int p.2), none] : L2.St) = [some (.ref l), some (.ref a), some (.int b), some (.ref g), some (.int (edge ss ws i)), some (.int (i : Nat)), some (.int p.1), some (.int p.2), none] ∧ FdL H (upd (upd H4 a0 (.lst [V.str "", V.int (i : Nat), V.int (i : Nat)])) g (.lst (as.map V.ref ++ [V.ref a0]))) g (as' ++ [a0']) (us ++ [(t, l1, k1)]) ∧ us ++ [(t ++ [s'.sg], l1, i + 1)] = wz sg f (i + 1) ∧ t.length ≤ 60 :=
            fun a0 ha0 => ⟨as, a0, wz sg f i, [], i, i, rfl, app a0 ha0, (wz_start hfi esg).symm, Nat.zero_le _⟩
          rcases Nat.eq_zero_or_pos i with hi0 | hi0
          · have ez : wz sg f i = [] := by rw [hi0]; rfl
            refine iteY (decide_eq_true ez) (iteT ⟨.ref g, rfl, .inl ⟨rfl, _, SqL.of F4.top⟩, .int (i : Nat), rfl, .int (i : Nat), rfl, by show 3 ≤ sizeLine; decide, fun a0 ha0 => ⟨g, _, _, rfl, rfl, same_upd ha0 _ _ F4.top, lax, fin a0 ha0⟩⟩)
          · have ez : ¬ wz sg f i = [] := wz_ne f0 hi0 (by omega)
            have et : decide (b ≤ (p.1 : Int) - (edge ss ws i : Int)) = true := by
              rw [← isSt_pos hi0 ep, hf]
              exact hfi
            refine iteE (decide_eq_false ez) ⟨.int p.1, rfl, .int (edge ss ws i), rfl, p.1, edge ss ws i, rfl, rfl, .int b, rfl, _, b, rfl, rfl, _, rfl, iteY et ⟨.ref g, rfl, .inl ⟨rfl, _, SqL.of F4.top⟩, .int (i : Nat), rfl, .int (i : Nat), rfl, by show 3 ≤ sizeLine; decide, fun a0 ha0 => ⟨g, _, _, rfl, rfl, same_upd ha0 _ _ F4.top, lax, fin a0 ha0⟩⟩⟩
        | false =>
          have hi0 : 0 < i := by
            rcases Nat.eq_zero_or_pos i with z | z
            · rw [z, f0] at hfi
              cases hfi
            · exact z
          have ez : ¬ wz sg f i = [] := wz_ne f0 hi0 (by omega)
          have et : decide (b ≤ (p.1 : Int) - (edge ss ws i : Int)) = false := by
            rw [← isSt_pos hi0 ep, hf]
            exact hfi
          refine iteE (decide_eq_false ez) ⟨.int p.1, rfl, .int (edge ss ws i), rfl, p.1, edge ss ws i, rfl, rfl, .int b, rfl, _, b, rfl, rfl, _, rfl, iteE et ?_⟩
          obtain ⟨T1, t1, l1, e1, e2⟩ := wz_cont f0 hi0 hfi esg
          have nas : as ≠ [] := fun z => by
            have := F4.len
            rw [z, e1, List.length_append] at this
            exact absurd this (by simp)
          have eas := List.dropLast_concat_getLast nas
          have ht1 : t1.length ≤ 60 := (wok (t1, l1, i) (by rw [e1]; exact List.mem_append_right _ (List.mem_singleton.mpr rfl))).l
          refine ⟨as.dropLast, as.getLast nas, T1, t1, l1, i, rfl, ?_, e2.symm, ht1⟩
          rw [eas, ← e1]
          exact F4
      rintro _ H4 ⟨as4, a0, us, t4, l1, k1, rfl, F4, e4, lt4⟩
      have fin0 : ∀ (H' : Hp) (w1 : Wd), FdL H H' g (as4 ++ [a0]) (us ++ [w1]) → H' g = some (.lst ((as4 ++ [a0]).map V.ref)) ∧ atI ((as4 ++ [a0]).map V.ref) (-1) = some (.ref a0) ∧ H' a0 = some (.lst (wV w1)) := fun H' w1 F => by
        refine ⟨F.top, ?_, ?_⟩
        · rw [List.map_append]
          exact atI_last _ _
        · have l := F.len
          rw [List.length_append, List.length_append, List.length_singleton, List.length_singleton] at l
          refine F.row as4.length a0 w1 (by rw [List.getElem?_append_right (Nat.le_refl _), Nat.sub_self]; rfl) ?_
          rw [List.getElem?_append_right (by omega), show as4.length - us.length = 0 by omega]
          rfl
      have lx := Ss.len
      have ex : xs[p.2]? = some (xs[p.2]'(by omega)) := List.getElem?_eq_getElem (by omega)
      obtain ⟨ts, ps, ets, hts, hps⟩ := Ss.at_ p.2 _ s' ex es
      rw [ets] at ex
      -- its text
      refine ⟨fun σ' H' => σ' = [some (.ref l), some (.ref a), some (.int b), some (.ref g), some (.int (edge ss ws i)), some (.int (i : Nat)), some (.int p.1), some (.int p.2), none] ∧ FdL H H' g (as4 ++ [a0]) (us ++ [(t4 ++ [s'.sg], l1, k1)]), ?_, ?_⟩
      · obtain ⟨h1, h2, h3⟩ := fin0 H4 _ F4
        refine ⟨.ref g, rfl, 1, rfl, g, _, -1, .ref a0, rfl, rfl, SqL.of h1, h2, a0, _, 0, .str (S t4), rfl, rfl, SqL.of h3, rfl, .ref l, rfl, .int p.2, rfl, l, _, (p.2 : Int), .ref ts, rfl, rfl, SqL.of (F4.sm _ _ hl), atI_nat ex, ts, _, 0, ch s'.sg, rfl, rfl, SqT.of (F4.sm _ _ hts), rfl, S t4, S [s'.sg], rfl, rfl, ?_, ?_⟩
        · rw [SX.S_len, SX.S_len]
          exact Nat.le_of_lt (small1000 (by show t4.length + 1 ≤ 1000; omega))
        · rw [SX.S_cat]
          exact ⟨.ref g, rfl, 1, rfl, g, _, -1, .ref a0, rfl, rfl, SqL.of h1, h2, a0, _, 0, 0, rfl, rfl, h3, rfl, rfl, F4.put (v := (t4 ++ [s'.sg], l1, k1))⟩
      rintro _ H5 ⟨rfl, F5⟩
      -- how far it goes
      refine ⟨fun σ' H' => σ' = [some (.ref l), some (.ref a), some (.int b), some (.ref g), some (.int (edge ss ws i)), some (.int (i : Nat)), some (.int p.1), some (.int p.2), none] ∧ FdL H H' g (as4 ++ [a0]) (us ++ [(t4 ++ [s'.sg], l1, i + 1)]), ?_, ?_⟩
      · obtain ⟨h1, h2, h3⟩ := fin0 H5 _ F5
        exact ⟨.int (i : Nat), rfl, i, 1, rfl, rfl, .ref g, rfl, 1, rfl, g, _, -1, .ref a0, rfl, rfl, SqL.of h1, h2, a0, _, 2, 2, rfl, rfl, h3, rfl, rfl, F5.put (v := (t4 ++ [s'.sg], l1, i + 1))⟩
      rintro _ H6 ⟨rfl, F6⟩
      rw [e4] at F6
      -- where its last window ends
      have h0 := prn.h0
      have er : s'.rs[0]? = some (s'.rs[0]'(by rw [prn.len]; omega)) := List.getElem?_eq_getElem (by rw [prn.len]; omega)
      have lr := (prn.row _ (List.mem_of_getElem? er)).len
      generalize s'.rs[0]'(by rw [prn.len]; omega) = r0 at er lr
      have ww1 := prn.w1
      have lzz : (S r0).length ≤ sizeLine := by
        rw [SX.S_len, lr]
        exact Nat.le_of_lt (small1000 (by omega))
      have lS : (S r0).length = s'.w := by rw [SX.S_len, lr]
      refine ⟨.int p.1, rfl, .ref l, rfl, .int p.2, rfl, l, _, (p.2 : Int), .ref ts, rfl, rfl, SqL.of (F6.sm _ _ hl), atI_nat ex, ts, _, 1, .ref ps, rfl, rfl, SqT.of (F6.sm _ _ hts), rfl, ps, _, 0, rv r0, rfl, rfl, SqT.of (F6.sm _ _ hps), atI_nat (j := 0) (by rw [List.getElem?_map, er]; rfl), S r0, rfl, lzz, p.1, _, rfl, rfl, some (.int (i : Nat)), some (.int p.1), some (.int p.2), as4 ++ [a0], ?_, F6⟩
      rw [lS, edge_at ep, ew, Int.natCast_add]
      rfl
    · rintro σ H2 ⟨y5, y6, y7, as, rfl, F2⟩
      refine ⟨.ref g, rfl, g, rfl, ⟨_, SqL.of F2.top⟩, fun D hD => lc_list (K := K) (a := g) (xs := as.map V.ref) (fun i H3 => Same H2 H3 ∧ ∃ ys, H3 D = some (.lst ys) ∧ Wds H3 ys ((wz sg f ws.length).take i)) ⟨same_upd hD, [], upd_same, Wds.nil⟩ (fun i H3 _ z => SqL.of (z.1 _ _ F2.top)) ?_ ?_⟩
      · rintro i x H3 hx ⟨sm, ys, h3, W3⟩
        obtain ⟨a1, ha1, rfl⟩ := map_at2 hx
        rw [lz] at F2
        have hi : i < (wz sg f ws.length).length := by
          rw [← F2.len]
          exact (List.getElem?_eq_some_iff.mp ha1).1
        have ew : (wz sg f ws.length)[i]? = some (wz sg f ws.length)[i] := List.getElem?_eq_getElem hi
        have lw2 : (wz sg f ws.length).length ≤ 60 := by
          unfold wz
          rw [List.length_map]
          have := zz_len (f := f) ws.length
          omega
        generalize (wz sg f ws.length)[i] = w1 at ew
        have hr1 := F2.row i a1 w1 ha1 ew
        refine ⟨rfl, .ref a1, rfl, a1, wV w1, rfl, .inl ⟨SqL.of (sm _ _ hr1), fun t ht => ⟨ys, ?_, ?_, same_over (sm.trans (same_upd ht)) hD, ys ++ [.ref t], upd_same, ?_⟩⟩⟩
        · rw [upd_ne (ne_of_none h3 ht)]
          exact h3
        · rw [W3.len, List.length_take]
          exact small1000 (by omega)
        · have nt : t ≠ D := (ne_of_none h3 ht).symm
          rw [take_snoc ew]
          refine Wds.add ((W3.same (same_upd ht)).updl (same_upd ht _ _ h3)) ?_
          rw [upd_ne nt]
          exact upd_same
      · rintro H3 ⟨sm, ys, h3, W3⟩
        rw [lz] at F2
        rw [List.length_map, F2.len, List.take_length] at W3
        refine q D ys H3 (F2.sm.trans sm) (F2.sm.free hD) h3 ?_
        unfold wds
        rw [hf, hsg]
        exact W3
end
end Dt
namespace L2X
open PySem PySem.Spec PyProof.Rows L2 LamX
theorem call_reprD {X : Cx} (hgd : X.A.guards = some []) (hu : X.A.units + 64 < cLine) : CallR X (.builtin "repr") (fun xs H Q => ∃ a d, xs = [.ref a] ∧ Dp X.K H (.ref a) d ∧ d.showable = true ∧ d.hasDict = false ∧ d.depth ≤ 60 ∧ d.shown.length ≤ sizeLine ∧ Q (.str d.shown) H) := by
  intro pins s σ H xs us Q I r h
  obtain ⟨a, d, rfl, dp, hs, hd, hdp, hz, q⟩ := h
  obtain ⟨u, rfl, rx⟩ := vals1 r
  obtain ⟨as, rd⟩ := Dp.reads I d (.ref a) u dp rx
  cases rx
  exact repr_of_reads' rd hs (fun z => by rw [hd] at z; cases z) hgd (by omega) (fun b o e => e) (fun h' t tk keep => ⟨.str d.shown, H, I.kept (t' := tk) keep, ⟨_, rfl⟩, q⟩) hz
end L2X
namespace Dt
open PySem PySem.Spec PyProof.Rows L2 L2X LamX
open SX (S)
theorem or_by {K : PySem.W.Frag} {ta tb : TE} {σ : L2.St} {H : Hp} {Q : VK} {a : Addr} {ns : List Int} (hta : ∀ R : VK, R (.ref a) H → ta σ H R) (hS : SqL K H a (ns.map V.int)) (hl : ns.length ≤ 63)
    (hb : ∀ R : VK, (∀ l, H l = none → R (.ref l) (upd H l (.lst [V.int 5]))) → tb σ H R) (q : ∀ (H1 : Hp) (l0 : Addr) (ms : List Int), Same H H1 → SqL K H1 l0 (ms.map V.int) → ms.length ≤ 63 → ms ≠ [] → Q (.ref l0) H1) : tOrT K ta tb σ H Q := by
  refine hta _ ⟨!(ns.map V.int).isEmpty, .inl ⟨_, hS, rfl⟩, ?_⟩
  cases ns with
  | nil => exact iteF (hb _ fun l hl => q _ l [5] (same_upd hl) (SqL.of upd_same) (by decide) (by simp))
  | cons z zs => exact iteT (q H a (z :: zs) (Same.refl H) hS hl (by simp))
theorem cutV_to (xs : List V) (n : Nat) : cutV xs none (some (n : Int)) = xs.take n := by
  unfold cutV
  rw [HT.sIx_nat]
  show (xs.drop 0).take (min n xs.length - 0) = _
  rw [List.drop_zero, Nat.sub_zero]
  by_cases h : n ≤ xs.length
  · rw [Nat.min_eq_left h]
  · rw [Nat.min_eq_right (by omega), List.take_length, List.take_of_length_le (by omega)]
/-! ### what stays -/
/-- all but d and the tables of code stays -/
def Kp (d : Addr) (H H' : Hp) : Prop := ∀ b o, H b = some o → b ≠ d → (∀ ps, o ≠ .tbl ps) → H' b = some o
theorem Kp.same {d : Addr} {H H' : Hp} (s : Same H H') : Kp d H H' := fun b o e _ _ => s b o e
theorem Kp.of_do {d : Addr} {H H' : Hp} (s : Do d H H') : Kp d H H' := fun b o e n _ => s b o e n
theorem Kp.ext {d : Addr} {H H' : Hp} (s : ExtN H H') : Kp d H H' := fun b o e _ n => s b o e n
theorem Kp.trans {d : Addr} {H H1 H2 : Hp} (a : Kp d H H1) (b : Kp d H1 H2) : Kp d H H2 := fun x o e h n => b x o (a x o e h n) h n
theorem Kp.tup {d a : Addr} {H H' : Hp} {n : Nat} {xs : List V} (k : Kp d H H') (D : Du H d n) (h : H a = some (.tup xs)) : H' a = some (.tup xs) := by
  obtain ⟨_, _, _, hd, _⟩ := D
  exact k _ _ h (ne_of h hd (by intro z; cases z)) fun _ z => nomatch z
theorem Kp.lst {d a : Addr} {H H' : Hp} {xs : List V} (k : Kp d H H') (n : a ≠ d) (h : H a = some (.lst xs)) : H' a = some (.lst xs) := k _ _ h n fun _ z => nomatch z
theorem Kp.shs {d : Addr} {H H' : Hp} {n : Nat} {xs : List V} {ss : List Sh} (k : Kp d H H') (D : Du H d n) (h : Shs H xs ss) : Shs H' xs ss :=
  ⟨h.len, fun i x s a b => let ⟨t, p, e, h1, h2⟩ := h.at_ i x s a b; ⟨t, p, e, k.tup D h1, k.tup D h2⟩⟩
theorem Kp.alp {C d o : Addr} {H H' : Hp} {n high : Nat} {ss : List Sh} (k : Kp d H H') (D : Du H d n) (h : AlpG C H o high ss) : AlpG C H' o high ss := by
  obtain ⟨⟨dx, t, xs, h1, h2, h3⟩, b, c, e⟩ := h
  refine ⟨⟨dx, t, xs, ?_, k.tup D h2, k.shs D h3⟩, b, c, e⟩
  obtain ⟨_, _, _, hd, _⟩ := D
  exact k _ _ h1 (ne_of h1 hd (by intro z; cases z)) fun _ z => nomatch z
theorem Kp.sqT {K : PySem.W.Frag} {H H' : Hp} {d a : Addr} {n : Nat} {xs : List V} (s : Kp d H H') (D : Du H d n) (h : SqT K H a xs) : SqT K H' a xs := by
  obtain ⟨a1, a2, a3, hd, _⟩ := D
  rcases h with (h | ⟨o, h⟩) | h
  · exact SqT.of (s _ _ h (ne_of h hd (by intro z; cases z)) fun _ z => nomatch z)
  · exact .inl (.inr ⟨o, s _ _ h (ne_of h hd (by intro z; cases z)) fun _ z => nomatch z⟩)
  · exact .inr h
theorem Kp.plc {K : PySem.W.Frag} {H H' : Hp} {d : Addr} {n : Nat} {xs : List V} {ps : List (Nat × Nat)} (k : Kp d H H') (D : Du H d n) (h : Plc K H xs ps) : Plc K H' xs ps :=
  ⟨h.len, fun i x p a b => let ⟨t, e, z⟩ := h.at_ i x p a b; ⟨t, e, k.sqT D z⟩⟩
theorem tabs_do {T : List (Addr × Str)} {H H' : Hp} {d : Addr} {n : Nat} (h : Tabs T H) (D : Du H d n) (s : Do d H H') : Tabs T H' := by
  obtain ⟨_, _, _, hd, _⟩ := D
  intro p hp
  obtain ⟨ps, e1, e2, e3⟩ := h p hp
  refine ⟨ps, s _ _ e1 (ne_of e1 hd (by intro z; cases z)), e2, fun pos cv hc => ?_⟩
  obtain ⟨c0, e4, e5⟩ := e3 pos cv hc
  exact ⟨c0, e4, s _ _ e5 (ne_of e5 hd (by intro z; unfold LamX.CodeO at z; cases z))⟩
theorem Du.ext {H H' : Hp} {d : Addr} {n : Nat} (D : Du H d n) (s : ExtN H H') : Du H' d n := by
  obtain ⟨a, b, t, h, r⟩ := D
  exact ⟨a, b, t, s _ _ h (fun _ z => nomatch z), r⟩
/-- what stays while one cell is gone through, the alphabet made and the way drawn -/
structure Lt (K : PySem.W.Frag) (CA : Addr) (TL : List (Addr × Str)) (d lc ls o pw : Addr) (cs xs zs : List V) (high : Nat) (ss : List Sh) (ws : List (Nat × Nat)) (n : Nat) (H : Hp) : Prop where
  D : Du H d n
  T : Tabs TL H
  hl : H lc = some (.lst cs)
  nl : lc ≠ d
  hs : H ls = some (.lst xs)
  ns : ls ≠ d
  S : Shs H xs ss
  al : AlpG CA H o high ss
  hw : H pw = some (.tup zs)
  pl : Plc K H zs ws
theorem Lt.kp {K : PySem.W.Frag} {CA : Addr} {TL : List (Addr × Str)} {d lc ls o pw : Addr} {cs xs zs : List V} {high : Nat} {ss : List Sh} {ws : List (Nat × Nat)} {n m : Nat} {H H' : Hp} (L : Lt K CA TL d lc ls o pw cs xs zs high ss ws n H) (k : Kp d H H') (D' : Du H' d m) (T' : Tabs TL H') : Lt K CA TL d lc ls o pw cs xs zs high ss ws m H' :=
  ⟨D', T', k.lst L.nl L.hl, L.nl, k.lst L.ns L.hs, L.ns, k.shs L.D L.S, k.alp L.D L.al, k.tup L.D L.hw, k.plc L.D L.pl⟩
theorem Lt.same {K : PySem.W.Frag} {CA : Addr} {TL : List (Addr × Str)} {d lc ls o pw : Addr} {cs xs zs : List V} {high : Nat} {ss : List Sh} {ws : List (Nat × Nat)} {n : Nat} {H H' : Hp} (L : Lt K CA TL d lc ls o pw cs xs zs high ss ws n H) (s : Same H H') : Lt K CA TL d lc ls o pw cs xs zs high ss ws n H' := L.kp (.same s) (L.D.same s) (L.T.ext s)
theorem Lt.do' {K : PySem.W.Frag} {CA : Addr} {TL : List (Addr × Str)} {d lc ls o pw : Addr} {cs xs zs : List V} {high : Nat} {ss : List Sh} {ws : List (Nat × Nat)} {n m : Nat} {H H' : Hp} (L : Lt K CA TL d lc ls o pw cs xs zs high ss ws n H) (s : Do d H H') (D' : Du H' d m) : Lt K CA TL d lc ls o pw cs xs zs high ss ws m H' := L.kp (.of_do s) D' (tabs_do L.T L.D s)
theorem Lt.ex {K : PySem.W.Frag} {CA : Addr} {TL : List (Addr × Str)} {d lc ls o pw : Addr} {cs xs zs : List V} {high : Nat} {ss : List Sh} {ws : List (Nat × Nat)} {n : Nat} {H H' : Hp} (L : Lt K CA TL d lc ls o pw cs xs zs high ss ws n H) (s : ExtN H H') (T' : Tabs TL H') : Lt K CA TL d lc ls o pw cs xs zs high ss ws n H' := L.kp (.ext s) (L.D.ext s) T'
theorem Lt.le {K : PySem.W.Frag} {CA : Addr} {TL : List (Addr × Str)} {d lc ls o pw : Addr} {cs xs zs : List V} {high : Nat} {ss : List Sh} {ws : List (Nat × Nat)} {n m : Nat} {H : Hp} (L : Lt K CA TL d lc ls o pw cs xs zs high ss ws n H) (h : n ≤ m) : Lt K CA TL d lc ls o pw cs xs zs high ss ws m H := { L with D := L.D.le h }
/-- tyB over what stays -/
theorem tyB_kp {K : PySem.W.Frag} {H H' : Hp} {d : Addr} {n m : Nat} {x : V} {T : String} (s : Kp d H H') (D : Du H d n) (D' : Du H' d m) (t : TyB K H x T) : TyB K H' x T := by
  obtain ⟨a1, a2, a3, hd, _⟩ := D
  obtain ⟨b1, b2, b3, hd', _⟩ := D'
  cases t with
  | non => exact .non
  | bl b => exact .bl b
  | int i => exact .int i
  | str x => exact .str x
  | byt b => exact .byt b
  | @lst a xs h =>
    rcases h with (h | ⟨o, h⟩) | h
    · by_cases e : a = d
      · rw [e]
        exact .lst (SqL.of hd')
      · exact .lst (SqL.of (s _ _ h e fun _ z => nomatch z))
    · exact .lst (.inl (.inr ⟨o, s _ _ h (ne_of h hd (by intro z; cases z)) fun _ z => nomatch z⟩))
    · exact .lst (.inr h)
  | @tup a xs h =>
    rcases h with (h | ⟨o, h⟩) | h
    · exact .tup (SqT.of (s _ _ h (ne_of h hd (by intro z; cases z)) fun _ z => nomatch z))
    · exact .tup (.inl (.inr ⟨o, s _ _ h (ne_of h hd (by intro z; cases z)) fun _ z => nomatch z⟩))
    · exact .tup (.inr h)
  | @dK a kvs h => exact .dK (s _ _ h (ne_of h hd (by intro z; cases z)) fun _ z => nomatch z)
theorem BadR.kp {K : PySem.W.Frag} {H H' : Hp} {d : Addr} {n m : Nat} {ss : List Sh} {cols : Nat} {x : V} (h : BadR K H ss cols x) (k : Kp d H H') (D : Du H d n) (D' : Du H' d m) : BadR K H' ss cols x := by
  rcases h with ⟨T, t, o, n⟩ | ⟨a, xs, ws, y, q, ht, pl, wk, hy, wq⟩
  · exact .inl ⟨T, tyB_kp k D D' t, o, n⟩
  · refine .inr ⟨a, xs, ws, y, q, k.sqT D ht, k.plc D pl, wk, hy, ?_⟩
    rcases wq with ⟨T, t, o, n, q⟩ | ⟨t, xs, q, ht, n, q2⟩ | ⟨t, x1, x2, q, ht, ⟨T1, t1, o1⟩, ⟨T2, t2, o2⟩, q2⟩
    · exact .inl ⟨T, tyB_kp k D D' t, o, n, q⟩
    · exact .inr (.inl ⟨t, xs, q, k.sqT D ht, n, q2⟩)
    · exact .inr (.inr ⟨t, x1, x2, q, k.sqT D ht, ⟨T1, tyB_kp k D D' t1, o1⟩, ⟨T2, tyB_kp k D D' t2, o2⟩, q2⟩)
def OddB (x : V) : Prop := (∃ i : Int, x = .int i ∧ (i = 0 ∨ i = 21 ∨ i = -1)) ∨ x = .non ∨ x = .bl true ∨ x = .str "3"
theorem OddB.kt {K : PySem.W.Frag} {H : Hp} {x : V} (h : OddB x) : Kt K H x := by
  rcases h with ⟨i, rfl, _⟩ | rfl | rfl | rfl
  · exact kt_int _
  · exact ⟨_, .non, rfl⟩
  · exact kt_bl _
  · exact ⟨_, .str _, rfl⟩
theorem OddB.b {x : V} (h : OddB x) : betw x 1 20 = false := by
  rcases h with ⟨i, rfl, h⟩ | rfl | rfl | rfl
  · rw [betw_int]
    by_cases a : 1 ≤ i
    · have : ¬ i ≤ 20 := by omega
      rw [decide_eq_false this, Bool.and_false]
    · rw [decide_eq_false a, Bool.false_and]
  all_goals rfl
def Made (CA : Addr) (H : Hp) (y : Option V) : Prop := ∃ o high ss, y = some (.ref o) ∧ AlpG CA H o high ss ∧ ∀ s ∈ ss, 33 ≤ s.sg ∧ s.sg ≤ 126
theorem no_ne (x : Str) : (!decide (V.str x = V.str x)) = false := by
  rw [decide_eq_true rfl]
  rfl
def refD (j : Nat) : PyData := .tuple [.str "refused", .list [.int j]]
abbrev sLaw : Stmt := topS 62
abbrev nLaw : List Str := ["script", "k", "cell", "draw", "high", "shapes", "below", "due", "told", "made", "way", "odd", "wrong", "work", "one"]
theorem scLaw : FnScope nLaw ["script"] (defScope sLaw) := ⟨rfl, rfl, rfl, by decide +kernel, rfl, by decide +kernel, by decide +kernel⟩
def noSc : Scope := { kind := .function, names := [], isGenerator := false, isCoroutine := false }
def lamSc (n : Nat) : Scope := match (defBody sLaw).getD 0 (.Pass ⟨0, 0, 0, 0⟩) with
  | .For _ _ b _ _ => (match b.getD 10 (.Pass ⟨0, 0, 0, 0⟩) with
    | .For _ _ b2 _ _ => (match b2.getD n (.Pass ⟨0, 0, 0, 0⟩) with
      | .If (.Compare (.Call _ (.Lambda _ _ sc _ :: _) _ _) _ _ _) _ _ _ => sc
      | _ => noSc)
    | _ => noSc)
  | _ => noSc
section
variable {P : Program} {w : World} {K : PySem.W.Frag} {mg : Str → Option Value} {base : Heap} {CA CN CT CD fa cc PP : Addr} {cs12 : List Addr} {s : Shared} {H : Hp}
abbrev xLaw (P : Program) (w : World) (K : PySem.W.Frag) (mg : Str → Option Value) (base : Heap) (fa cc : Addr) (s : Shared) (H : Hp) : Cx := (cxOf CX0 P w K mg base nLaw "law" (defScope sLaw) fa (.ref cc) callerA [] s H E0).nox
structure LawFs (P : Program) (w : World) (K : PySem.W.Frag) (mg : Str → Option Value) (base : Heap) (CA CN CT CD : Addr) (cs12 : List Addr) (fI fT fW fC : Addr) (fdI fdT fdW fdC : FuncData) : Prop where
  tx : Tx mg
  ta : Tal K mg CA
  en : mg "enumerate" = none
  rp : mg "repr" = none
  mka : Mk K CA fI
  GI : FnOk P w K mg base CX0 11 fI fdI ["self", "high", "shapes"] (spAI CA)
  bI : Binds K fdI ["self", "high", "shapes"] []
  B : Pm P w K mg base CX0 12 "_law_begun" ["cell", "k"] spBg
  N : Pm P w K mg base CX0 12 "_law_next" ["draw", "below"] spNx
  K' : Pm P w K mg base CX0 12 "_law_pick" ["draw", "some"] (spPk K)
  S : Pm P w K mg base CX0 12 "_law_shapes" ["draw", "high", "most", "wide"] spShp
  DW : Pm P w K mg base CX0 12 "_law_drawn_way" ["draw", "shapes", "wide"] (spDW K)
  WI : Pm P w K mg base CX0 12 "_law_words_in" ["shapes", "way", "least"] (spWI K)
  FT : FnTO K fT fdT
  GT : FnOk P w K mg base (L2.CX P w) 10 fT fdT ["alphabet", "reading", "blank"] (spTO K CA CN CT)
  mT : mg "text_of" = some (.ref fT)
  FW : FnWO K fW fdW
  GW : FnOk P w K mg base (L2.CX P w) 10 fW fdW ["alphabet", "reading", "blank"] (spWO K CA CN CT)
  mW : mg "words_of" = some (.ref fW)
  tc : T12 mg CD cs12
  GC : FnOk P w K mg base CX0 10 fC fdC ["e"] (spLC K CD cs12)
  mC : mg "_law_classes" = some (.ref fC)
  kC : PySem.W.keepIn K (.ref fC) = true
  bC : Binds K fdC ["e"] []
  R : Df K mg "_law_word" sLW ["work", "some"]
  k5 : K12 K CD cs12 CN 5
  k10 : K12 K CD cs12 CT 10
theorem law_run {fI fT fW fC : Addr} {fdI fdT fdW fdC : FuncData} {dV kV doc pm ct oc : Value} {an od : Option Addr} {osl : Array (Option Value)} {s : Shared} {H : Hp} {a : Addr} {ns : List Int}
    (lk : K.lookup fa = some ⟨oc, od, .func (PySem.W.fnOf "law" "law" (defArgs sLaw) (defBody sLaw) (defScope sLaw) dV kV doc pm an (.ref cc) ct), osl⟩) (hcd : PySem.W.codeIn K (.ref cc) "law" = true)
    (hb : ∀ (s : Shared) (u : Value), BindsTo s (PySem.W.fnOf "law" "law" (defArgs sLaw) (defBody sLaw) (defScope sLaw) dV kV doc pm an (.ref cc) ct) ⟨[u], []⟩ [("script", u)])
    (L : LawFs P w K mg base CA CN CT CD cs12 fI fT fW fC fdI fdT fdW fdC) (TB : TabB base mg cc PP) (hr13 : Room 13 callerA) (e0 : Env0 P w K mg base callerA [] s H) (hT : H PP = some (.tbl #[])) (hS : SqL K H a (ns.map V.int)) (hlen : ns.length ≤ 63) :
    codeAny (model P w) callerA (.call (.ref fa) ⟨[.ref a], []⟩) (CR CX0 [] P w H s (fun v _ => v = .bl true) E0) s := by
  refine run_ofS (N := nLaw) (ps := ["script"]) (us := [.ref a]) (vs := [.ref a]) lk hcd scLaw hr13 e0 (hb s (.ref a)) (.cons rfl .nil) rfl fun hr => ?_
  have nd := scLaw.nd
  have hu64 : (callerA.deeper (envOfC "law" (defScope sLaw) s.heap.objs.size fa (.ref cc))).units + 64 < cLine := by
    have := hr.un
    omega
  have T := L.tx
  have en := L.en
  have TA := L.ta
  obtain ⟨fB, fdB, GB, mB, kB, bB⟩ := L.B.ex
  obtain ⟨fN, fdN, GN, mN, kN, bN⟩ := L.N.ex
  obtain ⟨fK, fdK, GK, mK, kK, bK⟩ := L.K'.ex
  obtain ⟨fS, fdS, GS, mS, kS, bS⟩ := L.S.ex
  obtain ⟨fD, fdD, GD, mD, kD, bD⟩ := L.DW.ex
  obtain ⟨fV, fdV, GV, mV, kV', bV⟩ := L.WI.ex
  obtain ⟨mvT, bT⟩ := to_binds1 L.FT
  obtain ⟨mvT0, bT0⟩ := to_binds0 L.FT
  obtain ⟨mvW, bW⟩ := wo_binds1 L.FW
  obtain ⟨mvW0, bW0⟩ := wo_binds0 L.FW
  have kT := L.FT.kp
  have kW := L.FW.kp
  have GT := L.GT
  have GW := L.GW
  have mT := L.mT
  have mW := L.mW
  have GI := L.GI
  have bI := L.bI
  have M := L.mka
  have GC := L.GC
  obtain ⟨fR, fdR, FR, mR, bR⟩ := L.R.ex
  have kR := FR.kp
  obtain ⟨ocR, odR, kVR, docR, pmR, anR, cdR, ctR, oslR, rfl, lkR, hcR⟩ := FR.ex
  have hG : Gives2 (xLaw P w K mg base fa cc s H) 11 nLW "_law_word" (defScope sLW) fR fC cdR (defBody sLW) "work" (lamQ (xLaw P w K mg base fa cc s H)) (TWrd K CD cs12) := word_gives (X := xLaw P w K mg base fa cc s H) (k := 10) L.tc GC L.kC L.bC
  refine ⟨_, PSs.nox (pss_cons (ps_for PassesOwn.never rfl (pi_enumG (by rfl) en (pa_cons (pe_slice sl_list (pe_orT (pv 0) (pe_one (pe_lst (pa_cons pe_int pa_nil)))) po_none (po_some pe_int)) pa_nil)) (pg_tup rfl (pgs_cons (pg_name (i := 1) nd rfl (Or.inl rfl)) (pgs_cons (pg_name (i := 2) nd rfl (Or.inl rfl)) pgs_nil)))
        (C8.pss_cut (ps_set (i := 3) nd rfl (.inl rfl) (pe_call GB hr (by rfl) mB kB bB .nil pass0 (pa_cons (pv 2) (pa_cons (pv 1) pa_nil))))
        (C8.pss_cut (ps_set (i := 4) nd rfl (.inl rfl) (pe_op op_add pe_int (pe_call GN hr (by rfl) mN kN bN .nil pass0 (pa_cons (pv 3) (pa_cons pe_int pa_nil)))))
        (C8.pss_cut (ps_set (i := 5) nd rfl (.inl rfl) (pe_call GS hr (by rfl) mS kS bS .nil pass0 (pa_cons (pv 3) (pa_cons (pv 4) (pa_cons pe_int (pa_cons (pe_op op_add pe_int (pe_call GN hr (by rfl) mN kN bN .nil pass0 (pa_cons (pv 3) (pa_cons pe_int pa_nil)))) pa_nil))))))
        (C8.pss_cut (ps_asg (pe_tup (pa_cons (pe_make M GI hr (by rfl) TA.mC bI .nil pass0 (pa_cons (pv 4) (pa_cons (pv 5) pa_nil))) (pa_cons (pe_call GD hr (by rfl) mD kD bD .nil pass0 (pa_cons (pv 3) (pa_cons (pv 5) (pa_cons (pe_op op_add pe_int (pe_call GN hr (by rfl) mN kN bN .nil pass0 (pa_cons (pv 3) (pa_cons pe_int pa_nil)))) pa_nil)))) pa_nil))) (pg_tup rfl (pgs_cons (pg_name (i := 9) nd rfl (Or.inr rfl)) (pgs_cons (pg_name (i := 10) nd rfl (Or.inr rfl)) pgs_nil))))
        (C8.pss_cut (ps_for PassesOwn.never rfl (pi_list (pe_lst (pa_cons (pe_op op_add pe_int (pe_call GN hr (by rfl) mN kN bN .nil pass0 (pa_cons (pv 3) (pa_cons pe_int pa_nil)))) (pa_cons (pe_op op_add pe_int (pe_call GN hr (by rfl) mN kN bN .nil pass0 (pa_cons (pv 3) (pa_cons pe_int pa_nil)))) (pa_cons pe_int pa_nil))))) (pg_name (i := 6) nd rfl (Or.inl rfl))
          (C8.pss_cut (ps_set (i := 7) nd rfl (.inl rfl) (pe_call GV hr (by rfl) mV kV' bV .nil pass0 (pa_cons (pv 5) (pa_cons (pv 10) (pa_cons (pv 6) pa_nil)))))
          (C8.pss_cut (ps_set (i := 8) nd rfl (.inl rfl) (pe_callN GW (hr.mono (by decide)) (by rfl) mW kW bW passX0 (pa_cons (pv 9) (pa_cons (pv 10) pa_nil)) (pk_cons (pv 6) pk_nil)))
          (C8.pss_cut (ps_if (pt_cmpR op_ne (pe_callB (call_reprD rfl hu64) (by rfl) L.rp (by decide +kernel) (pa_cons (pv 8) pa_nil)) (pe_callB (call_reprD rfl hu64) (by rfl) L.rp (by decide +kernel) (pa_cons (pv 7) pa_nil)) (nomark _)) (pss_one (ps_ret pe_bl)) pss_nil)
          (C8.pss_cut (ps_if (pt_cmpR op_ne (pe_callN GT (hr.mono (by decide)) (by rfl) mT kT bT passX0 (pa_cons (pv 9) (pa_cons (pv 10) pa_nil)) (pk_cons (pv 6) pk_nil)) (pe_joinK (K := K) rfl pe_str (pe_lc (own := [("one", 14)]) (g := gName 14) (tt := tYes) rfl nd (pi_list (pv 7)) (blkOk_by (N := nLaw) (sc := defScope sLaw) (by decide +kernel)) (fun _ _ _ _ _ => pg_name (i := 14) nd rfl (Or.inl rfl)) (fun _ _ _ _ _ => pts_nil) (fun _ _ _ _ _ => pe_ix (r := rIxT K) ix_tup (pv 14) pe_int (fun _ _ => rfl)))) (nomark _)) (pss_one (ps_ret pe_bl)) pss_nil)
          (pss_one (ps_expr (pe_bm0 PySem.F.plainAttrs_list PySem.F.slot_list_clear PySem.F.type_list_clear mt_clear (pv 8)))))))))
        (C8.pss_cut (ps_set (i := 7) nd rfl (.inl rfl) (pe_call GV hr (by rfl) mV kV' bV .nil pass0 (pa_cons (pv 5) (pa_cons (pv 10) (pa_cons pe_int pa_nil)))))
        (C8.pss_cut (ps_if (PW.pt (pw_or (pt_cmpR (op_neD hu64) (pe_callN GW (hr.mono (by decide)) (by rfl) mW kW bW0 passX0 (pa_cons (pv 9) (pa_cons (pv 10) pa_nil)) pk_nil) (pv 7) (nomark _)) (pw_or1 (pt_cmpR op_ne (pe_callN GT (hr.mono (by decide)) (by rfl) mT kT bT0 passX0 (pa_cons (pv 9) (pa_cons (pv 10) pa_nil)) pk_nil) (pe_joinK (K := K) rfl pe_str (pe_lc (own := [("one", 14)]) (g := gName 14) (tt := tYes) rfl nd (pi_list (pv 7)) (blkOk_by (N := nLaw) (sc := defScope sLaw) (by decide +kernel)) (fun _ _ _ _ _ => pg_name (i := 14) nd rfl (Or.inl rfl)) (fun _ _ _ _ _ => pts_nil) (fun _ _ _ _ _ => pe_ix (r := rIxT K) ix_tup (pv 14) pe_int (fun _ _ => rfl)))) (nomark _))))) (pss_one (ps_ret pe_bl)) pss_nil)
        (C8.pss_cut (ps_set (i := 11) nd rfl (.inr rfl) (pe_call GK hr (by rfl) mK kK bK .nil pass0 (pa_cons (pv 3) (pa_cons (pe_lst (pa_cons pe_int (pa_cons pe_int (pa_cons (pe_un un_neg pe_int) (pa_cons pe_non (pa_cons pe_bl (pa_cons pe_str pa_nil))))))) pa_nil))))
        (C8.pss_cut (ps_set (i := 12) nd rfl (.inr rfl) (pe_lst (pa_cons pe_non (pa_cons (pe_callTy call_list_of (by rfl) T.list (by decide +kernel) (pa_cons (pv 10) pa_nil)) (pa_cons (pe_op op_catA (pv 10) (pe_tup (pa_cons (pe_tup (pa_cons pe_int (pa_cons pe_int pa_nil))) pa_nil))) (pa_cons (pe_op op_catA (pv 10) (pe_tup (pa_cons (pe_tup (pa_cons pe_int (pa_cons (pe_callB call_len_seq (by rfl) T.len PySem.boot_len (pa_cons (pv 5) pa_nil)) pa_nil))) pa_nil))) (pa_cons (pe_tup (pa_cons (pe_tup (pa_cons pe_int (pa_cons pe_int pa_nil))) (pa_cons (pe_tup (pa_cons pe_int (pa_cons pe_int pa_nil))) pa_nil))) (pa_cons pe_str (pa_cons pe_int pa_nil)))))))))
        (C8.pss_cut (ps_set (i := 12) nd rfl (.inr rfl) (pe_call GK hr (by rfl) mK kK bK .nil pass0 (pa_cons (pv 3) (pa_cons (pv 12) pa_nil))))
        (pss_one (ps_for PassesOwn.never rfl (pi_tup (pe_tup (pa_cons (pe_glob (v := .ref fT) (by rfl) mT rfl) (pa_cons (pe_glob (v := .ref fW) (by rfl) mW rfl) pa_nil)))) (pg_name (i := 13) nd rfl (Or.inr rfl))
          (C8.pss_cut (ps_if (pt_cmpR (op_neD hu64) (pe_lamcall2 (k := 10) (T := [(PP, lamQ (xLaw P w K mg base fa cc s H))]) (TT := TWrd K CD cs12) (by rfl) mR kR (pe_glob (v := .ref fC) (by rfl) L.mC rfl) lkR hcR bR scLW rfl (.inl rfl) hG TB rfl (List.mem_singleton.mpr rfl) (fun p hp _ => by rw [List.mem_singleton.mp hp]) hr (lamS_by (show lamSB (defScope sLaw) (lamSc 0) = true by decide +kernel)) rfl (fun _ _ _ _ _ => rfl)
              (fun A outer s H E f c hr => pe_or (pe_callLN (i := 13) GT hr rfl (.inr (.inr rfl)) kT bT (passE (takes_of rfl rfl rfl rfl)) (pa_cons (pv 9) (pa_cons (pv 10) pa_nil)) (pk_cons (pv 11) pk_nil)) (pe_callLN (i := 13) GW hr rfl (.inr (.inr rfl)) kW bW (passE (takes_of rfl rfl rfl rfl)) (pa_cons (pv 9) (pa_cons (pv 10) pa_nil)) (pk_cons (pv 11) pk_nil))))
              (pe_tup (pa_cons pe_str (pa_cons (pe_lst (pa_cons pe_int pa_nil)) pa_nil))) (nomark _)) (pss_one (ps_ret pe_bl)) pss_nil)
          (pss_one (ps_if (pt_cmpR (op_neD hu64) (pe_lamcall2 (k := 10) (T := [(PP, lamQ (xLaw P w K mg base fa cc s H))]) (TT := TWrd K CD cs12) (by rfl) mR kR (pe_glob (v := .ref fC) (by rfl) L.mC rfl) lkR hcR bR scLW rfl (.inl rfl) hG TB rfl (List.mem_singleton.mpr rfl) (fun p hp _ => by rw [List.mem_singleton.mp hp]) hr (lamS_by (show lamSB (defScope sLaw) (lamSc 1) = true by decide +kernel)) rfl (fun _ _ _ _ _ => rfl)
              (fun A outer s H E f c hr => pe_or (pe_callLN (i := 13) GT hr rfl (.inr (.inr rfl)) kT bT (passE (takes_of rfl rfl rfl rfl)) (pa_cons (pv 9) (pa_cons (pv 12) pa_nil)) (pk_cons (pv 11) pk_nil)) (pe_callLN (i := 13) GW hr rfl (.inr (.inr rfl)) kW bW (passE (takes_of rfl rfl rfl rfl)) (pa_cons (pv 9) (pa_cons (pv 12) pa_nil)) (pk_cons (pv 11) pk_nil))))
              (pe_tup (pa_cons pe_str (pa_cons (pe_lst (pa_cons pe_int pa_nil)) pa_nil))) (nomark _)) (pss_one (ps_ret pe_bl)) pss_nil))))))))))))))))
      (pss_one (ps_ret (pe_and (pe_cmpR op_eq (pe_callN GT (hr.mono (by decide)) (by rfl) mT kT bT0 passX0 (pa_cons (pv 9) (pa_cons (pe_tup pa_nil) pa_nil)) pk_nil) pe_str (nomark _)) (pe_one (pe_cmpR (op_eqD hu64) (pe_callN GW (hr.mono (by decide)) (by rfl) mW kW bW0 passX0 (pa_cons (pv 9) (pa_cons (pe_tup pa_nil) pa_nil)) pk_nil) (pe_lst pa_nil) (nomark _))))))), ?_⟩
  have hTb : Tabs [(PP, lamQ (xLaw P w K mg base fa cc s H))] H := fun p hp => by
    rw [List.mem_singleton.mp hp]
    exact TabS.nil hT
  generalize hTT : [(PP, lamQ (xLaw P w K mg base fa cc s H))] = TL at hTb ⊢
  refine or_by (a := a) (ns := ns) (fun R r => ⟨.ref a, rfl, r⟩) hS hlen (fun R r => ⟨by show 1 ≤ sizeLine; decide, fun l hl => r l hl⟩) fun H1 l0 ms s1 hq hm hne => ?_
  refine ⟨8, rfl, l0, _, rfl, hq, fun lc hlc => ?_⟩
  have scut : cutV (ms.map V.int) none (some 8) = (ms.take 8).map V.int := by
    rw [List.map_take]
    exact cutV_to _ 8
  have hlc1 : (upd H1 lc (.lst (cutV (ms.map V.int) none (some 8)))) lc = some (.lst ((ms.take 8).map V.int)) := by rw [upd_same, scut]
  have TB' : Tabs TL (upd H1 lc (.lst (cutV (ms.map V.int) none (some 8)))) := (hTb.ext s1).ext (same_upd hlc)
  generalize upd H1 lc (.lst (cutV (ms.map V.int) none (some 8))) = HB at hlc1 TB' ⊢
  have hcs0 : ((ms.take 8).map V.int).length ≠ 0 := by
    rw [List.length_map, List.length_take]
    have := List.length_pos_iff.mpr hne
    omega
  generalize hcs : (ms.take 8).map V.int = cs at hlc1 hcs0
  refine ⟨.lst lc, cs, rfl, SqL.of hlc1, for_enumG (K := K) (A := .lst lc) (xs := cs) (fun i σ H2 => ∃ y1 y2 y3 y4 y5 y6 y7 y8 y9 y10 y11 y12 y13, σ = [some (.ref a), y1, y2, y3, y4, y5, y6, y7, y8, y9, y10, y11, y12, y13, none] ∧ H2 lc = some (.lst cs) ∧ Tabs TL H2 ∧ (i = 0 ∨ Made CA H2 y9)) ⟨none, none, none, none, none, none, none, none, none, none, none, none, none, rfl, hlc1, TB', .inl rfl⟩ (fun i σ H2 _ z => by
    obtain ⟨_, _, _, _, _, _, _, _, _, _, _, _, _, _, hl, _⟩ := z
    exact SqL.of hl) ?_ ?_⟩
  · rintro kk x σ H2 T' hx ⟨y1, y2, y3, y4, y5, y6, y7, y8, y9, y10, y11, y12, y13, rfl, hl2, T2, _⟩ hT'
    rw [← hcs] at hx
    have hkk : kk < 8 := by
      have := (List.getElem?_eq_some_iff.mp hx).1
      rw [List.length_map, List.length_take] at this
      omega
    obtain ⟨cell, _, rfl⟩ := map_at2 hx
    refine ⟨T', _, rfl, SqT.of upd_same, rfl, _, _, rfl, _, _, rfl, rfl, ?_⟩
    have sT := same_upd (o := .tup [V.int (kk : Nat), V.int cell]) hT'
    have hl3 := sT _ _ hl2
    have T3 := T2.ext sT
    generalize upd H2 T' (.tup [V.int (kk : Nat), V.int cell]) = H3 at hl3 T3
    -- the drawing list
    refine ⟨fun σ' H' => ∃ d, σ' = [some (.ref a), some (.int (kk : Nat)), some (.int cell), some (.ref d), y4, y5, y6, y7, y8, y9, y10, y11, y12, y13, none] ∧ Du H' d 0 ∧ Tabs TL H' ∧ H' lc = some (.lst cs) ∧ lc ≠ d, ?_, ?_⟩
    · exact ⟨.int cell, rfl, .int kk, rfl, cell, kk, rfl, by omega, by omega, fun d H4 nd4 s4 D4 => ⟨d, rfl, D4, T3.ext s4, s4 _ _ hl3, ne_of_none hl3 nd4⟩⟩
    rintro _ H4 ⟨d, rfl, D4, T4, hl4, nlc⟩
    -- how high
    refine ⟨fun σ' H' => ∃ high : Nat, σ' = [some (.ref a), some (.int (kk : Nat)), some (.int cell), some (.ref d), some (.int high), y5, y6, y7, y8, y9, y10, y11, y12, y13, none] ∧ 1 ≤ high ∧ high ≤ 5 ∧ Du H' d 1 ∧ Tabs TL H' ∧ H' lc = some (.lst cs), ?_, ?_⟩
    · refine ⟨.ref d, rfl, d, 5, 0, rfl, D4, (by show 0 ≤ 1000000000000; decide), by decide, by decide, fun m H5 m0 m1 D5 dn5 => ⟨1, m, rfl, rfl, ?_⟩⟩
      obtain ⟨m, rfl⟩ := Int.eq_ofNat_of_zero_le m0
      have e1 : (1 + (m : Int)) = ((1 + m : Nat) : Int) := by omega
      exact ⟨1 + m, by rw [← e1]; rfl, by omega, by omega, D5, tabs_do T4 D4 dn5, dn5 _ _ hl4 nlc⟩
    rintro _ H5 ⟨high, rfl, h1, h5, D5, T5, hl5⟩
    -- the shapes
    refine ⟨fun σ' H' => ∃ (ls : Addr) (xs : List V) (ss : List Sh) (ww : Nat), σ' = [some (.ref a), some (.int (kk : Nat)), some (.int cell), some (.ref d), some (.int high), some (.ref ls), y6, y7, y8, y9, y10, y11, y12, y13, none] ∧ ls ≠ d ∧ H' ls = some (.lst xs) ∧ Shs H' xs ss ∧ Goods high ww ss ∧ ww ≤ 6 ∧ 0 < ss.length ∧ ss.length ≤ 6 ∧ Du H' d 500002 ∧ Tabs TL H' ∧ H' lc = some (.lst cs), ?_, ?_⟩
    · refine ⟨.ref d, rfl, .int high, rfl, .ref d, rfl, d, 6, 1, rfl, D5, (by show 1 ≤ 1000000000000; decide), by decide, by decide, fun m H6 m0 m1 D6 dn6 => ⟨1, m, rfl, rfl, ?_⟩⟩
      obtain ⟨m, rfl⟩ := Int.eq_ofNat_of_zero_le m0
      have e1 : (1 + (m : Int)) = ((1 + m : Nat) : Int) := by omega
      refine ⟨d, high, 6, 1 + m, 2, congrArg (fun z => [V.ref d, V.int high, V.int 6, V.int z]) e1, D6, (by show 500002 ≤ 1000000000000; decide), h1, by omega, by decide, by decide, by omega, by omega, fun l xs ss H7 nl hl Ss Gs l0' l1' D7 dn7 => ?_⟩
      exact ⟨l, xs, ss, 1 + m, rfl, D6.new nl, hl, Ss, Gs, by omega, l0', l1', D7, tabs_do (tabs_do T5 D5 dn6) D6 dn7, dn7 _ _ (dn6 _ _ hl5 nlc) nlc⟩
    rintro _ H6 ⟨ls, xs, ss, ww, rfl, nls, hls, Ss, Gs, hww, l0', l6, D6, T6, hl6⟩
    have hsg : ∀ s ∈ ss, 33 ≤ s.sg ∧ s.sg ≤ 126 := fun s hs => ⟨(Gs.all s hs).s0, (Gs.all s hs).s1⟩
    have hpr : ∀ s ∈ ss, PicR high s.w s.rs := fun s hs => (Gs.all s hs).pic
    have hw8 : ∀ s ∈ ss, s.w ≤ 6 := fun s hs => Nat.le_trans (Gs.all s hs).w8 hww
    -- the alphabet and the way
    refine ⟨fun σ' H' => ∃ (o pw : Addr) (zs : List V) (ws : List (Nat × Nat)), σ' = [some (.ref a), some (.int (kk : Nat)), some (.int cell), some (.ref d), some (.int high), some (.ref ls), y6, y7, y8, some (.ref o), some (.ref pw), y11, y12, y13, none] ∧ WayOk ss 60 ws ∧ Lt K CA TL d lc ls o pw cs xs zs high ss ws 600000 H', ?_, ?_⟩
    · refine ⟨.int high, rfl, .ref ls, rfl, fun o dx no ndx nxo => ?_⟩
      have s8 : Same H6 (upd (upd H6 dx (.own o)) o (.ins CA dx [])) := fun b u e => by
        rw [upd_ne (ne_of_none e no), upd_ne (ne_of_none e ndx)]
        exact e
      refine ⟨o, dx, ls, high, xs, ss, rfl, upd_same, h1, by omega, s8 _ _ hls, Ss.same s8, ⟨fun s hs => ?_, Gs.nd⟩, l0', by omega, fun H8 al kp => ⟨rfl, ?_⟩⟩
      · have g := Gs.all s hs
        exact ⟨g.pic, Nat.le_trans g.w8 (by omega), g.s0, g.s1, g.dot⟩
      have s68 : Same H6 H8 := fun b u e => kp b u (s8 b u e) (ne_of_none e no)
      have D8 := D6.same s68
      refine ⟨.ref d, rfl, .ref ls, rfl, .ref d, rfl, d, 60, 500002, rfl, D8, (by show _ ≤ 1000000000000; decide), by decide, by decide, fun m H9 m0 m1 D9 dn9 => ⟨1, m, rfl, rfl, ?_⟩⟩
      obtain ⟨m, rfl⟩ := Int.eq_ofNat_of_zero_le m0
      have e1 : (1 + (m : Int)) = ((1 + m : Nat) : Int) := by omega
      refine ⟨d, ls, 500003, high, 1 + m, xs, ss, congrArg (fun z => [V.ref d, V.ref ls, V.int z]) e1, D9, (by show _ ≤ 1000000000000; decide), nls, dn9 _ _ (s68 _ _ hls) nls, (Ss.same s68).dn D8 dn9, hpr, l0', by omega, by omega, by omega, fun p zs ws H10 np hp pl wk D10 dn10 => ?_⟩
      refine ⟨by show 2 ≤ sizeLine; decide, fun t ht => ⟨t, _, rfl, SqT.of upd_same, rfl, _, _, rfl, _, _, rfl, rfl, o, p, zs, ws, rfl, wk.le (by omega), ?_⟩⟩
      have st := same_upd (o := .tup [V.ref o, V.ref p]) ht
      have al8 : AlpG CA H8 o high ss := ⟨al, hpr, l0', by omega⟩
      have al10 := (Kp.of_do dn10).alp D9 ((Kp.of_do dn9).alp D8 al8)
      have L10 : Lt K CA TL d lc ls o p cs xs zs high ss ws 500203 H10 := ⟨D10.le (by decide), tabs_do (tabs_do (T6.ext s68) D8 dn9) D9 dn10, dn10 _ _ (dn9 _ _ (s68 _ _ hl6) nlc) nlc, nlc, dn10 _ _ (dn9 _ _ (s68 _ _ hls) nls) nls, nls, ((Ss.same s68).dn D8 dn9).dn D9 dn10, al10, hp, pl⟩
      exact (L10.same st).le (by decide)
    rintro _ H7 ⟨o, pw, zs, ws, rfl, wk, L7⟩
    have lw60 : ws.length ≤ 60 := way_len L7.al wk
    have hsgs : ∀ c ∈ sgs ss ws, 33 ≤ c ∧ c ≤ 126 := fun c hc => by
      unfold sgs at hc
      obtain ⟨p, hp, rfl⟩ := List.mem_map.mp hc
      obtain ⟨i, hi⟩ := List.mem_iff_getElem?.mp hp
      have w1 := (wk i p hi).1
      rw [sgt_at (List.getElem?_eq_getElem w1)]
      exact hsg _ (List.getElem_mem w1)
    have gd : ∀ s ∈ ss, PicR high s.w s.rs ∧ 33 ≤ s.sg ∧ s.sg ≤ 126 := fun s hs => ⟨hpr s hs, hsg s hs⟩
    have good : ∀ {n : Nat} {H' : Hp}, Lt K CA TL d lc ls o pw cs xs zs high ss ws n H' → GoodR K H' ss 60 (.ref pw) ws := fun L => ⟨pw, zs, rfl, SqT.of L.hw, L.pl, wk⟩
    have dpw : ∀ {H' : Hp} {l : Addr} {us : List V} {b : Int}, H' l = some (.lst us) → Wds H' us (wds ss ws b) → Dp K H' (.ref l) (.list ((wds ss ws b).map wD)) := fun h W => .lst (SqL.of h) (dp_wds W)
    -- the words by three widths
    refine ⟨fun σ' H' => ∃ y6 y7 y8, σ' = [some (.ref a), some (.int (kk : Nat)), some (.int cell), some (.ref d), some (.int high), some (.ref ls), y6, y7, y8, some (.ref o), some (.ref pw), y11, y12, y13, none] ∧ Lt K CA TL d lc ls o pw cs xs zs high ss ws 600002 H', ?_, ?_⟩
    · refine ⟨.ref d, rfl, d, 4, 600000, rfl, L7.D, (by show _ ≤ 1000000000000; decide), by decide, by decide, fun m1 H8 m10 m11 D8 dn8 => ⟨1, m1, rfl, rfl, .ref d, rfl, d, 20, 600001, rfl, D8, (by show _ ≤ 1000000000000; decide), by decide, by decide, fun m2 H9 m20 m21 D9 dn9 => ⟨1, m2, rfl, rfl, by show 3 ≤ sizeLine; decide, fun lb hlb => ?_⟩⟩⟩
      have sb := same_upd (o := .lst [V.int (1 + m1), V.int (1 + m2), V.int 20]) hlb
      have LA := ((L7.do' dn8 D8).do' dn9 D9).same sb
      have hlb2 : (upd H9 lb (.lst [V.int (1 + m1), V.int (1 + m2), V.int 20])) lb = some (.lst [V.int (1 + m1), V.int (1 + m2), V.int 20]) := upd_same
      generalize upd H9 lb (.lst [V.int (1 + m1), V.int (1 + m2), V.int 20]) = HA at LA hlb2 ⊢
      refine ⟨lb, rfl, ⟨_, SqL.of hlb2⟩, for_list (K := K) (a := lb) (xs := [V.int (1 + m1), V.int (1 + m2), V.int 20]) (fun i σ HX => ∃ y6 y7 y8, σ = [some (.ref a), some (.int (kk : Nat)), some (.int cell), some (.ref d), some (.int high), some (.ref ls), y6, y7, y8, some (.ref o), some (.ref pw), y11, y12, y13, none] ∧ Same HA HX) ⟨y6, y7, y8, rfl, Same.refl _⟩ (fun i σ HX _ z => by
        obtain ⟨_, _, _, _, sm⟩ := z
        exact SqL.of (sm _ _ hlb2)) ?_ ?_⟩
      · rintro i x σ HX hx ⟨y6, y7, y8, rfl, sm⟩
        obtain ⟨b, rfl, b1, b20⟩ : ∃ b : Int, x = .int b ∧ 1 ≤ b ∧ b ≤ 20 := by
          have hm := List.mem_of_getElem? hx
          simp only [List.mem_cons, List.not_mem_nil, or_false] at hm
          rcases hm with rfl | rfl | rfl
          · exact ⟨_, rfl, by omega, by omega⟩
          · exact ⟨_, rfl, by omega, by omega⟩
          · exact ⟨_, rfl, by omega, by omega⟩
        -- what is due
        refine ⟨fun σ' H' => ∃ (m : Addr) (ys : List V), σ' = [some (.ref a), some (.int (kk : Nat)), some (.int cell), some (.ref d), some (.int high), some (.ref ls), some (.int b), some (.ref m), y8, some (.ref o), some (.ref pw), y11, y12, y13, none] ∧ Same HA H' ∧ H' m = some (.lst ys) ∧ Wds H' ys (wds ss ws b), ?_, ?_⟩
        · have LX := LA.same sm
          exact ⟨.ref ls, rfl, .ref pw, rfl, .int b, rfl, ls, pw, high, 60, b, xs, zs, ss, ws, rfl, LX.hs, LX.S, gd, SqT.of LX.hw, LX.pl, wk, lw60, fun m ys H' s' nm hm' W' => ⟨m, ys, rfl, sm.trans s', hm', W'⟩⟩
        rintro _ HY ⟨m, ys, rfl, smY, hm, W⟩
        -- what is told
        refine ⟨fun σ' H' => ∃ (tl : Addr) (us : List V), σ' = [some (.ref a), some (.int (kk : Nat)), some (.int cell), some (.ref d), some (.int high), some (.ref ls), some (.int b), some (.ref m), some (.ref tl), some (.ref o), some (.ref pw), y11, y12, y13, none] ∧ Same HA H' ∧ HA tl = none ∧ H' m = some (.lst ys) ∧ Wds H' ys (wds ss ws b) ∧ H' tl = some (.lst us) ∧ Wds H' us (wds ss ws b), ?_, ?_⟩
        · have LY := LA.same smY
          exact ⟨.ref o, rfl, .ref pw, rfl, .int b, rfl, rfl, rfl, o, high, ss, .ref pw, .int b, rfl, LY.al, kt_int _, hsg, .inr ⟨ws, good LY, .inr ⟨b, rfl, b1, b20, fun l us H' s' nl hl' W' => ⟨l, us, rfl, smY.trans s', smY.free nl, s' _ _ hm, W.same s', hl', W'⟩⟩⟩⟩
        rintro _ HZ ⟨tl, us, rfl, smZ, ntl, hm, W, htl, WT⟩
        obtain ⟨k1, k2, k3, k4⟩ := shown_wds (wds_ok (b := b) lw60 hsgs) (by have := wds_len (ss := ss) (ws := ws) (b := b); omega)
        -- as told
        refine ⟨fun σ' H' => σ' = [some (.ref a), some (.int (kk : Nat)), some (.int cell), some (.ref d), some (.int high), some (.ref ls), some (.int b), some (.ref m), some (.ref tl), some (.ref o), some (.ref pw), y11, y12, y13, none] ∧ Same HA H' ∧ HA tl = none ∧ H' m = some (.lst ys) ∧ Wds H' ys (wds ss ws b) ∧ H' tl = some (.lst us) ∧ Wds H' us (wds ss ws b), ?_, ?_⟩
        · exact ⟨.ref tl, rfl, tl, _, rfl, dpw htl WT, k1, k2, k3, k4, .ref m, rfl, m, _, rfl, dpw hm W, k1, k2, k3, k4, rfl, _, rfl, iteE (no_ne _) ⟨rfl, smZ, ntl, hm, W, htl, WT⟩⟩
        rintro _ HZ ⟨rfl, smZ, ntl, hm, W, htl, WT⟩
        -- as text
        refine ⟨fun σ' H' => σ' = [some (.ref a), some (.int (kk : Nat)), some (.int cell), some (.ref d), some (.int high), some (.ref ls), some (.int b), some (.ref m), some (.ref tl), some (.ref o), some (.ref pw), y11, y12, y13, none] ∧ Same HA H' ∧ HA tl = none ∧ H' tl = some (.lst us), ?_, ?_⟩
        · have LZ := LA.same smZ
          refine ⟨.ref o, rfl, .ref pw, rfl, .int b, rfl, rfl, rfl, o, high, ss, .ref pw, .int b, rfl, LZ.al, kt_int _, hsg, .inr ⟨ws, good LZ, .inr ⟨b, rfl, b1, b20, fun HW sW => ?_⟩⟩⟩
          have hm := sW _ _ hm
          have W := W.same sW
          refine ⟨⟨" ", rfl⟩, .ref m, rfl, m, rfl, ⟨_, SqL.of hm⟩, fun D hD => lc_list (K := K) (a := m) (xs := ys) (fun i HJ => Same HW HJ ∧ HJ D = some (.lst ((((wds ss ws b).take i).map fun (w : Wd) => S w.1).map V.str))) ⟨same_upd hD, upd_same⟩ (fun i HJ _ z => SqL.of (z.1 _ _ hm)) ?_ ?_⟩
          · rintro i y HJ hy ⟨sm, hJ⟩
            have hi : i < (wds ss ws b).length := by
              rw [← W.len]
              exact (List.getElem?_eq_some_iff.mp hy).1
            have ew : (wds ss ws b)[i]? = some (wds ss ws b)[i] := List.getElem?_eq_getElem hi
            generalize (wds ss ws b)[i] = w1 at ew
            obtain ⟨t, rfl, ht⟩ := W.at_ i y w1 hy ew
            refine ⟨rfl, .ref t, rfl, t, _, 0, .str (S w1.1), rfl, rfl, SqT.of (sm _ _ ht), rfl, _, hJ, ?_, same_over sm hD, ?_⟩
            · have := wds_len (ss := ss) (ws := ws) (b := b)
              rw [List.length_map, List.length_map, List.length_take]
              exact small1000 (by omega)
            · rw [upd_same, take_snoc ew, List.map_append, List.map_append]
              rfl
          · rintro HJ ⟨sm, hJ⟩
            have lwd := wds_len (ss := ss) (ws := ws) (b := b)
            rw [W.len, List.take_length] at hJ
            refine ⟨" ", D, ((wds ss ws b).map fun (w : Wd) => S w.1), rfl, rfl, .inl (SqL.of hJ), tOf_fit (wds_ok lw60 hsgs) (by omega), rfl, _, rfl, iteE (no_ne _) ?_⟩
            exact ⟨rfl, smZ.trans (sW.trans sm), ntl, sm _ _ (sW _ _ htl)⟩
        rintro _ HZ ⟨rfl, smZ, ntl, htl⟩
        exact ⟨.ref tl, rfl, .inl ⟨rfl, _, SqL.of htl⟩, tl, us, rfl, rfl, htl, some (.int b), some (.ref m), some (.ref tl), rfl, same_over smZ ntl⟩
      · rintro σ HX ⟨y6, y7, y8, rfl, sm⟩
        exact ⟨y6, y7, y8, rfl, LA.same sm⟩
    rintro _ H8 ⟨y6, y7, y8, rfl, L8⟩
    -- by the width that is not told
    refine ⟨fun σ' H' => ∃ (m : Addr) (ys : List V), σ' = [some (.ref a), some (.int (kk : Nat)), some (.int cell), some (.ref d), some (.int high), some (.ref ls), y6, some (.ref m), y8, some (.ref o), some (.ref pw), y11, y12, y13, none] ∧ Lt K CA TL d lc ls o pw cs xs zs high ss ws 600002 H' ∧ H' m = some (.lst ys) ∧ Wds H' ys (wds ss ws 3), ?_, ?_⟩
    · exact ⟨.ref ls, rfl, .ref pw, rfl, ls, pw, high, 60, 3, xs, zs, ss, ws, rfl, L8.hs, L8.S, gd, SqT.of L8.hw, L8.pl, wk, lw60, fun m ys H' s' nm hm' W' => ⟨m, ys, rfl, L8.same s', hm', W'⟩⟩
    rintro _ H9 ⟨m, ys, rfl, L9, hm, W⟩
    have wok := wds_ok (b := 3) lw60 hsgs
    refine ⟨fun σ' H' => σ' = [some (.ref a), some (.int (kk : Nat)), some (.int cell), some (.ref d), some (.int high), some (.ref ls), y6, some (.ref m), y8, some (.ref o), some (.ref pw), y11, y12, y13, none] ∧ Lt K CA TL d lc ls o pw cs xs zs high ss ws 600002 H', ?_, ?_⟩
    · refine ⟨.ref o, rfl, .ref pw, rfl, rfl, rfl, o, high, ss, .ref pw, .int 3, rfl, L9.al, kt_int _, hsg, .inr ⟨ws, good L9, .inr ⟨3, rfl, by decide, by decide, fun l us HV sV nl hl' W' => ?_⟩⟩⟩
      have LV := L9.same sV
      refine ⟨.ref m, rfl, _, _, dpw hl' W', dpw (sV _ _ hm) (W.same sV), shaped_wds wok, shaped_wds wok, _, rfl, iteE (by simp [PyData.eqv, eqv_wds]) ?_⟩
      refine ⟨.ref o, rfl, .ref pw, rfl, rfl, rfl, o, high, ss, .ref pw, .int 3, rfl, LV.al, kt_int _, hsg, .inr ⟨ws, good LV, .inr ⟨3, rfl, by decide, by decide, fun HW sW => ?_⟩⟩⟩
      have hm := sW _ _ (sV _ _ hm)
      have W := (W.same sV).same sW
      refine ⟨⟨" ", rfl⟩, .ref m, rfl, m, rfl, ⟨_, SqL.of hm⟩, fun D hD => lc_list (K := K) (a := m) (xs := ys) (fun i HJ => Same HW HJ ∧ HJ D = some (.lst ((((wds ss ws 3).take i).map fun (w : Wd) => S w.1).map V.str))) ⟨same_upd hD, upd_same⟩ (fun i HJ _ z => SqL.of (z.1 _ _ hm)) ?_ ?_⟩
      · rintro i y HJ hy ⟨sm, hJ⟩
        have hi : i < (wds ss ws 3).length := by
          rw [← W.len]
          exact (List.getElem?_eq_some_iff.mp hy).1
        have ew : (wds ss ws 3)[i]? = some (wds ss ws 3)[i] := List.getElem?_eq_getElem hi
        generalize (wds ss ws 3)[i] = w1 at ew
        obtain ⟨t, rfl, ht⟩ := W.at_ i y w1 hy ew
        refine ⟨rfl, .ref t, rfl, t, _, 0, .str (S w1.1), rfl, rfl, SqT.of (sm _ _ ht), rfl, _, hJ, ?_, same_over sm hD, ?_⟩
        · have := wds_len (ss := ss) (ws := ws) (b := 3)
          rw [List.length_map, List.length_map, List.length_take]
          exact small1000 (by omega)
        · rw [upd_same, take_snoc ew, List.map_append, List.map_append]
          rfl
      · rintro HJ ⟨sm, hJ⟩
        have lwd := wds_len (ss := ss) (ws := ws) (b := 3)
        rw [W.len, List.take_length] at hJ
        refine ⟨" ", D, ((wds ss ws 3).map fun (w : Wd) => S w.1), rfl, rfl, .inl (SqL.of hJ), tOf_fit (wds_ok lw60 hsgs) (by omega), rfl, _, rfl, iteE (no_ne _) ?_⟩
        exact ⟨rfl, (LV.same sW).same sm⟩
    rintro _ H10 ⟨rfl, L10⟩
    -- an odd width
    refine ⟨fun σ' H' => ∃ odd, σ' = [some (.ref a), some (.int (kk : Nat)), some (.int cell), some (.ref d), some (.int high), some (.ref ls), y6, some (.ref m), y8, some (.ref o), some (.ref pw), some odd, y12, y13, none] ∧ OddB odd ∧ Lt K CA TL d lc ls o pw cs xs zs high ss ws 600003 H', ?_, ?_⟩
    · refine ⟨.ref d, rfl, 1, rfl, by show 6 ≤ sizeLine; decide, fun l hl => ?_⟩
      have sl := same_upd (o := .lst [V.int 0, V.int 21, V.int (-1), V.non, V.bl true, V.str "3"]) hl
      have L11 := L10.same sl
      refine ⟨d, .ref l, _, rfl, L11.D, (by show _ ≤ 1000000000000; decide), .inl ⟨l, _, rfl, L10.D.new hl, upd_same, by show 0 < 6; decide, by show 6 ≤ 1000; decide, fun j x H12 hx D12 dn12 => ⟨x, rfl, ?_, L11.do' dn12 D12⟩⟩⟩
      have hm := List.mem_of_getElem? hx
      simp only [List.mem_cons, List.not_mem_nil, or_false] at hm
      rcases hm with rfl | rfl | rfl | rfl | rfl | rfl
      · exact .inl ⟨0, rfl, .inl rfl⟩
      · exact .inl ⟨21, rfl, .inr (.inl rfl)⟩
      · exact .inl ⟨-1, rfl, .inr (.inr rfl)⟩
      · exact .inr (.inl rfl)
      · exact .inr (.inr (.inl rfl))
      · exact .inr (.inr (.inr rfl))
    rintro _ H11 ⟨odd, rfl, od, L11⟩
    -- wrong readings
    have w0 : 0 < ss.length := l0'
    have es0 : ss[0]? = some ss[0] := List.getElem?_eq_getElem w0
    have ew0 := wdt_at es0
    have pr0 := hpr _ (List.getElem_mem w0)
    have w06 := hw8 _ (List.getElem_mem w0)
    have pw0 := pr0.w0
    generalize ss[0] = sh0 at es0 ew0 pr0 w06 pw0
    refine ⟨fun σ' H' => ∃ (wl : Addr) (ys : List V), σ' = [some (.ref a), some (.int (kk : Nat)), some (.int cell), some (.ref d), some (.int high), some (.ref ls), y6, some (.ref m), y8, some (.ref o), some (.ref pw), some odd, some (.ref wl), y13, none] ∧ H' wl = some (.lst ys) ∧ ys.length = 7 ∧ wl ≠ d ∧ (∀ y ∈ ys, BadR K H' ss 60 y) ∧ Lt K CA TL d lc ls o pw cs xs zs high ss ws 600003 H', ?_, ?_⟩
    · refine ⟨.ref pw, rfl, pw, zs, rfl, .inr (SqT.of L11.hw), fun l1 hl1 => ?_⟩
      have sA := same_upd (o := .lst zs) hl1
      have hl1' : (upd H11 l1 (.lst zs)) l1 = some (.lst zs) := upd_same
      have LA := L11.same sA
      generalize upd H11 l1 (.lst zs) = HA at sA hl1' LA
      refine ⟨.ref pw, rfl, by show 2 ≤ sizeLine; decide, fun t1 ht1 => ⟨by show 1 ≤ sizeLine; decide, fun t2 ht2 => ?_⟩⟩
      have sB := (same_upd (o := .tup [V.int 60, V.int 0]) ht1).trans (same_upd (o := .tup [V.ref t1]) ht2)
      have ht1' : (upd (upd HA t1 (.tup [V.int 60, V.int 0])) t2 (.tup [V.ref t1])) t1 = some (.tup [V.int 60, V.int 0]) := same_upd ht2 _ _ upd_same
      have ht2' : (upd (upd HA t1 (.tup [V.int 60, V.int 0])) t2 (.tup [V.ref t1])) t2 = some (.tup [V.ref t1]) := upd_same
      have LB := LA.same sB
      generalize upd (upd HA t1 (.tup [V.int 60, V.int 0])) t2 (.tup [V.ref t1]) = HB2 at sB ht1' ht2' LB ⊢
      have lz : zs.length = ws.length := L7.pl.len
      refine cat_any LB.hw ht2' (by rw [lz]; exact Nat.le_of_lt (small1000 (by show ws.length + 1 ≤ 1000; omega))) fun z1 HC sC hz1 => ?_
      have LC := LB.same sC
      refine ⟨.ref pw, rfl, .ref ls, rfl, ls, xs, rfl, .inl (SqL.of LC.hs), by show 2 ≤ sizeLine; decide, fun t3 ht3 => ⟨by show 1 ≤ sizeLine; decide, fun t4 ht4 => ?_⟩⟩
      have sD := (same_upd (o := .tup [V.int 0, V.int (xs.length : Nat)]) ht3).trans (same_upd (o := .tup [V.ref t3]) ht4)
      have ht3' : (upd (upd HC t3 (.tup [V.int 0, V.int (xs.length : Nat)])) t4 (.tup [V.ref t3])) t3 = some (.tup [V.int 0, V.int (xs.length : Nat)]) := same_upd ht4 _ _ upd_same
      have ht4' : (upd (upd HC t3 (.tup [V.int 0, V.int (xs.length : Nat)])) t4 (.tup [V.ref t3])) t4 = some (.tup [V.ref t3]) := upd_same
      have LD := LC.same sD
      generalize upd (upd HC t3 (.tup [V.int 0, V.int (xs.length : Nat)])) t4 (.tup [V.ref t3]) = HD at sD ht3' ht4' LD ⊢
      refine cat_any LD.hw ht4' (by rw [lz]; exact Nat.le_of_lt (small1000 (by show ws.length + 1 ≤ 1000; omega))) fun z2 HE sE hz2 => ?_
      have LE := LD.same sE
      refine ⟨by show 2 ≤ sizeLine; decide, fun t5 ht5 => ⟨by show 2 ≤ sizeLine; decide, fun t6 ht6 => ⟨by show 2 ≤ sizeLine; decide, fun t7 ht7 => ⟨by show 7 ≤ sizeLine; decide, fun wl hwl => ?_⟩⟩⟩⟩
      have s5 := same_upd (o := .tup [V.int 0, V.int 0]) ht5
      have s6 := same_upd (o := .tup [V.int 0, V.int 0]) ht6
      have s7 := same_upd (o := .tup [V.ref t5, V.ref t6]) ht7
      have s8 := same_upd (o := .lst [V.non, V.ref l1, V.ref z1, V.ref z2, V.ref t7, V.str "", V.int 7]) hwl
      have LF := (((LE.same s5).same s6).same s7).same s8
      have h5 := s8 _ _ (s7 _ _ (s6 _ _ (upd_same (H := HE) (a := t5) (o := .tup [V.int 0, V.int 0]))))
      have h6 := s8 _ _ (s7 _ _ (upd_same (H := upd HE t5 (.tup [V.int 0, V.int 0])) (a := t6) (o := .tup [V.int 0, V.int 0])))
      have h7 := s8 _ _ (upd_same (H := upd (upd HE t5 (.tup [V.int 0, V.int 0])) t6 (.tup [V.int 0, V.int 0])) (a := t7) (o := .tup [V.ref t5, V.ref t6]))
      have sEF := ((s5.trans s6).trans s7).trans s8
      have nwd : wl ≠ d := (((LE.same s5).same s6).same s7).D.new hwl
      refine ⟨wl, _, rfl, upd_same, rfl, nwd, fun y hy => ?_, LF⟩
      generalize upd (upd (upd (upd HE t5 (.tup [V.int 0, V.int 0])) t6 (.tup [V.int 0, V.int 0])) t7 (.tup [V.ref t5, V.ref t6])) wl (.lst [V.non, V.ref l1, V.ref z1, V.ref z2, V.ref t7, V.str "", V.int 7]) = HF at LF h5 h6 h7 sEF ⊢
      have hl1F : HF l1 = some (.lst zs) := sEF _ _ (sE _ _ (sD _ _ (sC _ _ (sB _ _ hl1'))))
      have hz1F : HF z1 = some (.tup (zs ++ [V.ref t1])) := sEF _ _ (sE _ _ (sD _ _ hz1))
      have ht1F : HF t1 = some (.tup [V.int 60, V.int 0]) := sEF _ _ (sE _ _ (sD _ _ (sC _ _ ht1')))
      have hz2F : HF z2 = some (.tup (zs ++ [V.ref t3])) := sEF _ _ hz2
      have ht3F : HF t3 = some (.tup [V.int 0, V.int (xs.length : Nat)]) := sEF _ _ (sE _ _ ht3')
      have tk : ∀ q : V, (zs ++ [q]).take ws.length = zs := fun q => by rw [← lz, List.take_left]
      have at1 : ∀ q : V, (zs ++ [q])[ws.length]? = some q := fun q => by rw [← lz, List.getElem?_append_right (Nat.le_refl _), Nat.sub_self]; rfl
      have lxs : xs.length = ss.length := L7.S.len
      simp only [List.mem_cons, List.not_mem_nil, or_false] at hy
      rcases hy with rfl | rfl | rfl | rfl | rfl | rfl | rfl
      · exact .inl ⟨"NoneType", .non, rfl, by decide⟩
      · exact .inl ⟨"list", .lst (SqL.of hl1F), rfl, by decide⟩
      · refine .inr ⟨z1, _, ws, .ref t1, rfl, SqT.of hz1F, by rw [tk]; exact LF.pl, wk, at1 _, .inr (.inr ⟨t1, .int 60, .int 0, rfl, SqT.of ht1F, kt_int _, kt_int _, ?_⟩)⟩
        show false = (betw (.int 0) 0 ((ss.length : Int) - 1) && betw (.int 60) (edge ss ws ws.length) (((60 : Nat) : Int) - (wdt ss (0 : Int).toNat : Int)))
        have e0 : wdt ss (0 : Int).toNat = sh0.w := ew0
        rw [e0, betw_int 60, decide_eq_false (p := (60 : Int) ≤ ((60 : Nat) : Int) - (sh0.w : Int)) (by omega), Bool.and_false, Bool.and_false]
      · refine .inr ⟨z2, _, ws, .ref t3, rfl, SqT.of hz2F, by rw [tk]; exact LF.pl, wk, at1 _, .inr (.inr ⟨t3, .int 0, .int (xs.length : Nat), rfl, SqT.of ht3F, kt_int _, kt_int _, ?_⟩)⟩
        unfold winB
        rw [betw_int, decide_eq_false (p := ((xs.length : Nat) : Int) ≤ (ss.length : Int) - 1) (by omega), Bool.and_false, Bool.false_and]
      · refine .inr ⟨t7, [V.ref t5, V.ref t6], [(0, 0)], .ref t6, rfl, SqT.of h7, ⟨rfl, fun i x p hx hp => ?_⟩, fun i p hp => ?_, rfl, .inr (.inr ⟨t6, .int 0, .int 0, rfl, SqT.of h6, kt_int _, kt_int _, ?_⟩)⟩
        · cases i with
          | zero =>
            cases hx
            cases hp
            exact ⟨t5, rfl, SqT.of h5⟩
          | succ i => exact nomatch hp
        · cases i with
          | zero =>
            cases hp
            refine ⟨w0, Nat.le_refl _, ?_⟩
            show 0 + wdt ss 0 ≤ 60
            omega
          | succ i => exact nomatch hp
        · show false = (betw (.int 0) 0 ((ss.length : Int) - 1) && betw (.int 0) (edge ss [(0, 0)] 1 : Nat) (((60 : Nat) : Int) - (wdt ss (0 : Int).toNat : Int)))
          have e1 : edge ss [(0, 0)] 1 = sh0.w := by
            rw [edge_at (p := (0, 0)) rfl]
            show 0 + wdt ss 0 = _
            omega
          rw [e1, betw_int 0 (sh0.w : Nat), decide_eq_false (p := ((sh0.w : Nat) : Int) ≤ 0) (by omega), Bool.false_and, Bool.and_false]
      · exact .inl ⟨"str", .str _, rfl, by decide⟩
      · exact .inl ⟨"int", .int _, rfl, by decide⟩
    rintro _ H12 ⟨wl, yw, rfl, hwl, l7, nwd, bad, L12⟩
    -- one of them
    refine ⟨fun σ' H' => ∃ wrong, σ' = [some (.ref a), some (.int (kk : Nat)), some (.int cell), some (.ref d), some (.int high), some (.ref ls), y6, some (.ref m), y8, some (.ref o), some (.ref pw), some odd, some wrong, y13, none] ∧ BadR K H' ss 60 wrong ∧ Lt K CA TL d lc ls o pw cs xs zs high ss ws 600004 H', ?_, ?_⟩
    · exact ⟨.ref d, rfl, .ref wl, rfl, d, .ref wl, _, rfl, L12.D, (by show _ ≤ 1000000000000; decide), .inl ⟨wl, yw, rfl, nwd, hwl, by omega, by omega, fun j x H13 hx D13 dn13 => ⟨x, rfl, (bad x (List.mem_of_getElem? hx)).kp (.of_do dn13) L12.D D13, L12.do' dn13 D13⟩⟩⟩
    rintro _ H13 ⟨wrong, rfl, bw, L13⟩
    -- each of the two
    refine ⟨by show 2 ≤ sizeLine; decide, fun t ht => ⟨t, rfl, ⟨_, SqT.of upd_same⟩, ?_⟩⟩
    have stt := same_upd (o := .tup [V.ref fT, V.ref fW]) ht
    have ht2 : (upd H13 t (.tup [V.ref fT, V.ref fW])) t = some (.tup [V.ref fT, V.ref fW]) := upd_same
    have L14 := L13.same stt
    have bw14 := bw.same stt
    generalize upd H13 t (.tup [V.ref fT, V.ref fW]) = H14 at L14 bw14 ht2 ⊢
    refine for_tup (K := K) (a := t) (xs := [V.ref fT, V.ref fW]) (fun i σ HX => ∃ y13, σ = [some (.ref a), some (.int (kk : Nat)), some (.int cell), some (.ref d), some (.int high), some (.ref ls), y6, some (.ref m), y8, some (.ref o), some (.ref pw), some odd, some wrong, y13, none] ∧ BadR K HX ss 60 wrong ∧ Lt K CA TL d lc ls o pw cs xs zs high ss ws 600004 HX ∧ HX t = some (.tup [V.ref fT, V.ref fW])) ⟨y13, rfl, bw14, L14, ht2⟩ (fun i σ HX _ z => by
      obtain ⟨_, _, _, _, h⟩ := z
      exact SqT.of h) ?_ ?_
    · rintro i x σ HX hx ⟨y13, rfl, bx, LX, hX⟩
      have hwork : x = .ref fT ∨ x = .ref fW := by
        have hm := List.mem_of_getElem? hx
        simp only [List.mem_cons, List.not_mem_nil, or_false] at hm
        exact hm
      have cmp : ∀ (j : Nat) (H1 H3 : Hp) (tt l : Addr), H3 tt = some (.tup [.str "refused", .ref l]) → H3 l = some (.lst [.int (j : Nat)]) → Dp K H3 (.ref tt) (refD j) := fun j H1 H3 tt l h1 h2 => .tup (SqT.of h1) (.cons (.str _) (.cons (.lst (SqL.of h2) (.cons (.int _) .nil)) .nil))
      -- an odd width is refused
      refine ⟨fun σ' H' => σ' = [some (.ref a), some (.int (kk : Nat)), some (.int cell), some (.ref d), some (.int high), some (.ref ls), y6, some (.ref m), y8, some (.ref o), some (.ref pw), some odd, some wrong, some x, none] ∧ BadR K H' ss 60 wrong ∧ Lt K CA TL d lc ls o pw cs xs zs high ss ws 600004 H' ∧ H' t = some (.tup [V.ref fT, V.ref fW]), ?_, ?_⟩
      · refine ⟨by first | exact LX.T | (rw [hTT]; exact LX.T), fun H1 ext T1 R H2 s2 hR => ?_⟩
        try rw [hTT] at T1
        have L1 := (LX.ex ext T1).same s2
        have b1 := (bx.kp (.ext ext) LX.D (LX.ex ext T1).D).same s2
        have hX2 := s2 _ _ ((Kp.ext (d := d) ext).tup LX.D hX)
        rcases hwork with rfl | rfl
        · refine .inl ⟨rfl, .ref o, rfl, .ref pw, rfl, odd, rfl, rfl, rfl, o, high, ss, .ref pw, odd, rfl, L1.al, od.kt, hsg, .inr ⟨ws, good L1, .inl ⟨od.b, fun dd H3 s3 ndd hdd => ⟨CT, 10, rfl, L.k10, .inr ⟨dd, _, rfl, hdd⟩, fun t2 l H4 s4 ht2 hl2 => ?_⟩⟩⟩⟩
          have s24 := s3.trans s4
          refine ⟨by show 1 ≤ sizeLine; decide, fun l2 hl3 => ⟨by show 2 ≤ sizeLine; decide, fun t3 ht3 => ?_⟩⟩
          have s46 := (same_upd (o := .lst [V.int 10]) hl3).trans (same_upd (o := .tup [V.str "refused", V.ref l2]) ht3)
          have s26 := s24.trans s46
          exact ⟨refD 10, refD 10, cmp 10 H4 _ t2 l (s46 _ _ ht2) (s46 _ _ hl2), cmp 10 H4 _ t3 l2 upd_same (same_upd ht3 _ _ upd_same), by decide +kernel, by decide +kernel, _, rfl, iteE (by decide +kernel) ⟨rfl, b1.same s26, L1.same s26, s26 _ _ hX2⟩⟩
        · refine .inr ⟨rfl, .ref o, rfl, .ref pw, rfl, odd, rfl, rfl, rfl, o, high, ss, .ref pw, odd, rfl, L1.al, od.kt, hsg, .inr ⟨ws, good L1, .inl ⟨od.b, fun dd H3 s3 ndd hdd => ⟨CT, 10, rfl, L.k10, .inr ⟨dd, _, rfl, hdd⟩, fun t2 l H4 s4 ht2 hl2 => ?_⟩⟩⟩⟩
          have s24 := s3.trans s4
          refine ⟨by show 1 ≤ sizeLine; decide, fun l2 hl3 => ⟨by show 2 ≤ sizeLine; decide, fun t3 ht3 => ?_⟩⟩
          have s46 := (same_upd (o := .lst [V.int 10]) hl3).trans (same_upd (o := .tup [V.str "refused", V.ref l2]) ht3)
          have s26 := s24.trans s46
          exact ⟨refD 10, refD 10, cmp 10 H4 _ t2 l (s46 _ _ ht2) (s46 _ _ hl2), cmp 10 H4 _ t3 l2 upd_same (same_upd ht3 _ _ upd_same), by decide +kernel, by decide +kernel, _, rfl, iteE (by decide +kernel) ⟨rfl, b1.same s26, L1.same s26, s26 _ _ hX2⟩⟩
      rintro _ HX ⟨rfl, bx, LX, hX⟩
      -- a wrong reading is refused ahead of it
      refine ⟨by first | exact LX.T | (rw [hTT]; exact LX.T), fun H1 ext T1 R H2 s2 hR => ?_⟩
      try rw [hTT] at T1
      have L1 := (LX.ex ext T1).same s2
      have b1 := (bx.kp (.ext ext) LX.D (LX.ex ext T1).D).same s2
      have hX2 := s2 _ _ ((Kp.ext (d := d) ext).tup LX.D hX)
      rcases hwork with rfl | rfl
      · refine .inl ⟨rfl, .ref o, rfl, wrong, rfl, odd, rfl, rfl, rfl, o, high, ss, wrong, odd, rfl, L1.al, od.kt, hsg, .inl ⟨b1, fun H3 s3 => ⟨CN, 5, rfl, L.k5, .inl rfl, fun t2 l H4 s4 ht2 hl2 => ?_⟩⟩⟩
        have s24 := s3.trans s4
        refine ⟨by show 1 ≤ sizeLine; decide, fun l2 hl3 => ⟨by show 2 ≤ sizeLine; decide, fun t3 ht3 => ?_⟩⟩
        have s46 := (same_upd (o := .lst [V.int 5]) hl3).trans (same_upd (o := .tup [V.str "refused", V.ref l2]) ht3)
        have s26 := s24.trans s46
        exact ⟨refD 5, refD 5, cmp 5 H4 _ t2 l (s46 _ _ ht2) (s46 _ _ hl2), cmp 5 H4 _ t3 l2 upd_same (same_upd ht3 _ _ upd_same), by decide +kernel, by decide +kernel, _, rfl, iteE (by decide +kernel) ⟨_, rfl, b1.same s26, L1.same s26, s26 _ _ hX2⟩⟩
      · refine .inr ⟨rfl, .ref o, rfl, wrong, rfl, odd, rfl, rfl, rfl, o, high, ss, wrong, odd, rfl, L1.al, od.kt, hsg, .inl ⟨b1, fun H3 s3 => ⟨CN, 5, rfl, L.k5, .inl rfl, fun t2 l H4 s4 ht2 hl2 => ?_⟩⟩⟩
        have s24 := s3.trans s4
        refine ⟨by show 1 ≤ sizeLine; decide, fun l2 hl3 => ⟨by show 2 ≤ sizeLine; decide, fun t3 ht3 => ?_⟩⟩
        have s46 := (same_upd (o := .lst [V.int 5]) hl3).trans (same_upd (o := .tup [V.str "refused", V.ref l2]) ht3)
        have s26 := s24.trans s46
        exact ⟨refD 5, refD 5, cmp 5 H4 _ t2 l (s46 _ _ ht2) (s46 _ _ hl2), cmp 5 H4 _ t3 l2 upd_same (same_upd ht3 _ _ upd_same), by decide +kernel, by decide +kernel, _, rfl, iteE (by decide +kernel) ⟨_, rfl, b1.same s26, L1.same s26, s26 _ _ hX2⟩⟩
    · rintro σ HX ⟨y13, rfl, bx, LX, hX⟩
      exact ⟨_, _, _, _, _, _, _, _, _, _, _, _, _, rfl, LX.hl, LX.T, .inr ⟨o, high, ss, rfl, LX.al, hsg⟩⟩
  · rintro σ H2 ⟨y1, y2, y3, y4, y5, y6, y7, y8, y9, y10, y11, y12, y13, rfl, hl2, T2, hmade⟩
    rcases hmade with z | ⟨o, high, ss, rfl, al, hsg⟩
    · exact absurd z hcs0
    have good0 : ∀ {H' : Hp} {t : Addr}, H' t = some (.tup []) → GoodR K H' ss 60 (.ref t) [] := fun h => ⟨_, [], rfl, SqT.of h, ⟨rfl, fun i x p h => nomatch h⟩, WayOk.nil⟩
    refine ⟨.ref o, rfl, by show 0 ≤ sizeLine; decide, fun t ht => ?_⟩
    have st := same_upd (o := .tup []) ht
    refine ⟨rfl, rfl, o, high, ss, .ref t, .int 3, rfl, al.same st, kt_int _, hsg, .inr ⟨[], good0 upd_same, .inr ⟨3, rfl, by decide, by decide, fun H3 s3 => ⟨rfl, _, rfl, iteY (decide_eq_true rfl) ?_⟩⟩⟩⟩
    have s23 := st.trans s3
    refine ⟨.ref o, rfl, by show 0 ≤ sizeLine; decide, fun t2 ht2 => ?_⟩
    have st2 := same_upd (o := .tup []) ht2
    refine ⟨rfl, rfl, o, high, ss, .ref t2, .int 3, rfl, (al.same s23).same st2, kt_int _, hsg, .inr ⟨[], good0 upd_same, .inr ⟨3, rfl, by decide, by decide, fun l us H4 s4 nl hl4 W4 => ?_⟩⟩⟩
    refine ⟨by show 0 ≤ sizeLine; decide, fun e0 he0 => ⟨.list [], .list [], .lst (SqL.of (same_upd he0 _ _ hl4)) ?_, .lst (SqL.of upd_same) .nil, by decide +kernel, by decide +kernel, ?_⟩⟩
    · have := W4.len
      cases us with
      | nil => exact .nil
      | cons u r => exact nomatch this
    · show V.bl _ = V.bl true
      simp [PyData.eqv, PyData.eqvAll]
end
end Dt
namespace Dt
open PySem PySem.Spec PyProof.Rows L2 L2X LamX
abbrev BndT (nm : Str) (st : Stmt) (ps : List Str) : Prop := ∀ (kV doc pm : Value) (an : Option Addr) (cdv ct : Value) (us : List Value), us.length = ps.length → bindArgs (PySem.W.fnOf nm nm (defArgs st) (defBody st) (defScope st) .none kV doc pm an cdv ct) ⟨us, []⟩ = pure (ps.zip us)
abbrev BndM (nm qn : Str) (st : Stmt) (ps : List Str) : Prop := ∀ (kV doc pm : Value) (an : Option Addr) (cdv ct : Value) (us : List Value), us.length = ps.length → bindArgs (PySem.W.fnOf nm qn (defArgs st) (defBody st) (defScope st) .none kV doc pm an cdv ct) ⟨us, []⟩ = pure (ps.zip us)
theorem df_mk {K : PySem.W.Frag} {h : Heap} {mg : Str → Option Value} {nm : Str} {st : Stmt} {ps : List Str} {f : Addr} {oc : Value} {od an : Option Addr} {osl : Array (Option Value)} {kV doc pm cdv ct : Value} (X : K.In h) (G : h.Ns mainGlobals mg)
    (a : PySem.W.nsIn K mainGlobals nm = some (some (.ref f))) (l : K.lookup f = some ⟨oc, od, .func (PySem.W.fnOf nm nm (defArgs st) (defBody st) (defScope st) .none kV doc pm an cdv ct), osl⟩) (c : PySem.W.codeIn K cdv nm = true) (k : PySem.W.keepIn K (.ref f) = true) (hb : BndT nm st ps) : Df K mg nm st ps :=
  have F := fun_mk (st := st) l c k
  ⟨f, _, F, PySem.W.mg_of X G a, F.binds (ps := ps) hb⟩
/-- a method as it stands behind the top -/
structure Dm (K : PySem.W.Frag) (C : Addr) (nm qn : Str) (st : Stmt) (ps : List Str) : Prop where
  ex : ∃ f fd, Fun K nm qn st f fd ∧ Meth K C nm f ∧ Binds K fd ps []
theorem dm_mk {K : PySem.W.Frag} {C : Addr} {nm qn : Str} {st : Stmt} {ps : List Str} {f : Addr} {oc : Value} {od an : Option Addr} {osl : Array (Option Value)} {kV doc pm cdv ct : Value}
    (a : PySem.W.findIn K (.ref C) nm = some (some (.ref f))) (i : PySem.W.isFn K (.ref f) = true) (l : K.lookup f = some ⟨oc, od, .func (PySem.W.fnOf nm qn (defArgs st) (defBody st) (defScope st) .none kV doc pm an cdv ct), osl⟩) (c : PySem.W.codeIn K cdv qn = true) (k : PySem.W.keepIn K (.ref f) = true) (hb : BndM nm qn st ps) : Dm K C nm qn st ps :=
  have F := fun_mk (st := st) l c k
  ⟨f, _, F, ⟨a, i, k⟩, F.binds (ps := ps) hb⟩
theorem Mm.of {P : Program} {w : World} {K : PySem.W.Frag} {mg : Str → Option Value} {base : Heap} {k : Nat} {C : Addr} {nm qn : Str} {st : Stmt} {ps : List Str} {sp : Sp} (d : Dm K C nm qn st ps) (h : ∀ f fd, Fun K nm qn st f fd → FnOk P w K mg base CX0 k f fd ps sp) : Mm P w K mg base k C nm ps sp := by
  obtain ⟨f, fd, F, m, b⟩ := d.ex
  exact ⟨f, fd, h f fd F, m, b⟩
theorem noa {K : PySem.W.Frag} {C : Addr} {f : Str} (h : PySem.W.findIn K (.ref C) f = some none) : NoAttr K C f := h
theorem exN_mk {K : PySem.W.Frag} {h : Heap} {mg : Str → Option Value} {nm : Str} {C : Addr} (X : K.In h) (G : h.Ns mainGlobals mg) (a : PySem.W.nsIn K mainGlobals nm = some (some (.ref C))) (x : PySem.W.excIn K C [.type "ValueError", .type "Exception", .type "BaseException", .type "object"] "ValueError.__new__" = true) (k : PySem.W.keepIn K (.ref C) = true) (b : PySem.W.subIn K (.ref C) (.type "BaseException") = some true) (t : PySem.W.typeIn K (.ref C) = some (.type "type")) : ExN K mg nm C :=
  ⟨PySem.W.mg_of X G a, x, k, b, t⟩
theorem bnd0 : BndT "_law_begun" sBg ["cell", "k"] := fun _ _ _ _ _ _ us hl => match us, hl with | [_, _], _ => rfl
theorem bnd1 : BndT "_law_next" sNx ["draw", "below"] := fun _ _ _ _ _ _ us hl => match us, hl with | [_, _], _ => rfl
theorem bnd2 : BndT "_law_pick" sPk ["draw", "some"] := fun _ _ _ _ _ _ us hl => match us, hl with | [_, _], _ => rfl
theorem bnd3 : BndT "_law_picture" sPc ["draw", "high", "wide", "dense"] := fun _ _ _ _ _ _ us hl => match us, hl with | [_, _, _, _], _ => rfl
theorem bnd4 : BndT "_law_near" sNr ["draw", "picture"] := fun _ _ _ _ _ _ us hl => match us, hl with | [_, _], _ => rfl
theorem bnd5 : BndT "_law_shapes" sShp ["draw", "high", "most", "wide"] := fun _ _ _ _ _ _ us hl => match us, hl with | [_, _, _, _], _ => rfl
theorem bnd6 : BndT "_law_words_in" sWI ["shapes", "way", "least"] := fun _ _ _ _ _ _ us hl => match us, hl with | [_, _, _], _ => rfl
theorem bnd7 : BndT "_law_word" sLW ["work", "some"] := fun _ _ _ _ _ _ us hl => match us, hl with | [_, _], _ => rfl
theorem bnd8 : BndT "_law_classes" sLC ["e"] := fun _ _ _ _ _ _ us hl => match us, hl with | [_], _ => rfl
theorem bnd9 : BndT "_law_drawn_way" sDW ["draw", "shapes", "wide"] := fun _ _ _ _ _ _ us hl => match us, hl with | [_, _, _], _ => rfl
theorem bnd10 : BndT "law" sLaw ["script"] := fun _ _ _ _ _ _ us hl => match us, hl with | [_], _ => rfl
theorem bnd11 : BndT "is_text" sIsText ["thing"] := fun _ _ _ _ _ _ us hl => match us, hl with | [_], _ => rfl
theorem bnd12 : BndT "_is_row" sIsRow ["thing"] := fun _ _ _ _ _ _ us hl => match us, hl with | [_], _ => rfl
theorem bnd13 : BndT "is_picture" sIsPic ["thing"] := fun _ _ _ _ _ _ us hl => match us, hl with | [_], _ => rfl
theorem bnd14 : BndT "want_picture" sWant ["thing"] := fun _ _ _ _ _ _ us hl => match us, hl with | [_], _ => rfl
theorem bnd15 : BndT "size" sSize ["picture"] := fun _ _ _ _ _ _ us hl => match us, hl with | [_], _ => rfl
theorem bnd16 : BndT "is_number" sIsNum ["thing"] := fun _ _ _ _ _ _ us hl => match us, hl with | [_], _ => rfl
theorem bnd17 : BndT "is_between" sBetw ["thing", "least", "most"] := fun _ _ _ _ _ _ us hl => match us, hl with | [_, _, _], _ => rfl
theorem bnd18 : BndT "is_list" sIsList ["thing"] := fun _ _ _ _ _ _ us hl => match us, hl with | [_], _ => rfl
theorem bnd19 : BndT "is_tuple" sIsTup ["thing", "many"] := fun _ _ _ _ _ _ us hl => match us, hl with | [_, _], _ => rfl
theorem bnd20 : BndT "dots" sDots ["picture"] := fun _ _ _ _ _ _ us hl => match us, hl with | [_], _ => rfl
theorem bnd21 : BndT "is_sign" sSg ["thing"] := fun _ _ _ _ _ _ us hl => match us, hl with | [_], _ => rfl
theorem bnd22 : BndT "_is_shape" sIS ["thing", "high"] := fun _ _ _ _ _ _ us hl => match us, hl with | [_, _], _ => rfl
theorem bnd23 : BndT "_is_picture_of" sIPO ["picture", "shapes"] := fun _ _ _ _ _ _ us hl => match us, hl with | [_, _], _ => rfl
theorem bnd24 : BndT "want_reading" sWR ["alphabet", "columns", "thing"] := fun _ _ _ _ _ _ us hl => match us, hl with | [_, _, _], _ => rfl
theorem bnd25 : BndT "_is_window" sIW ["alphabet", "thing", "edge", "columns"] := fun _ _ _ _ _ _ us hl => match us, hl with | [_, _, _, _], _ => rfl
theorem bnd26 : BndT "_white_ahead" sWA ["alphabet", "reading", "at"] := fun _ _ _ _ _ _ us hl => match us, hl with | [_, _, _], _ => rfl
theorem bnm0 : BndM "__init__" "Alphabet.__init__" sAI ["self", "high", "shapes"] := fun _ _ _ _ _ _ us hl => match us, hl with | [_, _, _], _ => rfl
theorem bnm1 : BndM "shapes" "Alphabet.shapes" sAS ["self"] := fun _ _ _ _ _ _ us hl => match us, hl with | [_], _ => rfl
theorem bnm2 : BndM "wide" "Alphabet.wide" sAW ["self", "number"] := fun _ _ _ _ _ _ us hl => match us, hl with | [_, _], _ => rfl
theorem bnm3 : BndM "_want_number" "Alphabet._want_number" sAN ["self", "number"] := fun _ _ _ _ _ _ us hl => match us, hl with | [_, _], _ => rfl
theorem bnm4 : BndM "__len__" "Alphabet.__len__" sALn ["self"] := fun _ _ _ _ _ _ us hl => match us, hl with | [_], _ => rfl
theorem bnmT : BndM "__init__" "TooMany.__init__" sTM ["self", "most"] := fun _ _ _ _ _ _ us hl => match us, hl with | [_, _], _ => rfl
structure AllD (K : PySem.W.Frag) (mg : Str → Option Value) (CA : Addr) : Prop where
  d0 : Df K mg "_law_begun" sBg ["cell", "k"]
  d1 : Df K mg "_law_next" sNx ["draw", "below"]
  d2 : Df K mg "_law_pick" sPk ["draw", "some"]
  d3 : Df K mg "_law_picture" sPc ["draw", "high", "wide", "dense"]
  d4 : Df K mg "_law_near" sNr ["draw", "picture"]
  d5 : Df K mg "_law_shapes" sShp ["draw", "high", "most", "wide"]
  d6 : Df K mg "_law_words_in" sWI ["shapes", "way", "least"]
  d7 : Df K mg "_law_word" sLW ["work", "some"]
  d8 : Df K mg "_law_classes" sLC ["e"]
  d9 : Df K mg "_law_drawn_way" sDW ["draw", "shapes", "wide"]
  d10 : Df K mg "law" sLaw ["script"]
  d11 : Df K mg "is_text" sIsText ["thing"]
  d12 : Df K mg "_is_row" sIsRow ["thing"]
  d13 : Df K mg "is_picture" sIsPic ["thing"]
  d14 : Df K mg "want_picture" sWant ["thing"]
  d15 : Df K mg "size" sSize ["picture"]
  d16 : Df K mg "is_number" sIsNum ["thing"]
  d17 : Df K mg "is_between" sBetw ["thing", "least", "most"]
  d18 : Df K mg "is_list" sIsList ["thing"]
  d19 : Df K mg "is_tuple" sIsTup ["thing", "many"]
  d20 : Df K mg "dots" sDots ["picture"]
  d21 : Df K mg "is_sign" sSg ["thing"]
  d22 : Df K mg "_is_shape" sIS ["thing", "high"]
  d23 : Df K mg "_is_picture_of" sIPO ["picture", "shapes"]
  d24 : Df K mg "want_reading" sWR ["alphabet", "columns", "thing"]
  d25 : Df K mg "_is_window" sIW ["alphabet", "thing", "edge", "columns"]
  d26 : Df K mg "_white_ahead" sWA ["alphabet", "reading", "at"]
  m0 : Dm K CA "__init__" "Alphabet.__init__" sAI ["self", "high", "shapes"]
  m1 : Dm K CA "shapes" "Alphabet.shapes" sAS ["self"]
  m2 : Dm K CA "wide" "Alphabet.wide" sAW ["self", "number"]
  m3 : Dm K CA "_want_number" "Alphabet._want_number" sAN ["self", "number"]
  m4 : Dm K CA "__len__" "Alphabet.__len__" sALn ["self"]
  wo : ∃ f fd, FnWO K f fd ∧ mg "words_of" = some (.ref f)
  to : ∃ f fd, FnTO K f fd ∧ mg "text_of" = some (.ref f)
structure AllN (K : PySem.W.Frag) (mg : Str → Option Value) (C CA CN CT CD : Addr) (cs12 : List Addr) : Prop where
  z0 : mg "len" = none
  z1 : mg "range" = none
  z2 : mg "tuple" = none
  z3 : mg "list" = none
  z4 : mg "int" = none
  z5 : mg "type" = none
  z6 : mg "str" = none
  z7 : mg "all" = none
  z8 : mg "any" = none
  z9 : mg "enumerate" = none
  z10 : mg "zip" = none
  z11 : mg "max" = none
  z12 : mg "isinstance" = none
  z13 : mg "ValueError" = none
  z14 : mg "repr" = none
  i0 : ∃ t, mg "MOST_ROWS" = some (.int 60 t)
  i1 : ∃ t, mg "MOST_COLUMNS" = some (.int 120 t)
  i2 : ∃ t, mg "MOST_LINE_COLUMNS" = some (.int 60 t)
  i3 : ∃ t, mg "MOST_HIGH" = some (.int 9 t)
  i4 : ∃ t, mg "MOST_WIDE" = some (.int 8 t)
  i5 : ∃ t, mg "MOST_SHAPES" = some (.int 16 t)
  i6 : ∃ t, mg "MOST_BLANK" = some (.int 20 t)
  n : Tn K mg C
  nr : ExN K mg "NoReading" CN
  tm : Ttm K mg CT
  ta : Tal K mg CA
  mks : PySem.W.makesIn K CA = true
  kp : PySem.W.keepIn K (.ref CA) = true
  gd : mg "DotError" = some (.ref CD)
  gs : ∃ c0 c1 c2 c3 c4 c5 c6 c7 c8 c9 c10 c11, cs12 = [c0, c1, c2, c3, c4, c5, c6, c7, c8, c9, c10, c11] ∧ mg "NoPicture" = some (.ref c0) ∧ mg "NoPlace" = some (.ref c1) ∧ mg "NoShape" = some (.ref c2) ∧ mg "NoSign" = some (.ref c3) ∧ mg "NoWord" = some (.ref c4) ∧ mg "NoReading" = some (.ref c5) ∧ mg "NoTable" = some (.ref c6) ∧ mg "NoLine" = some (.ref c7) ∧ mg "NoDeed" = some (.ref c8) ∧ mg "NoBack" = some (.ref c9) ∧ mg "TooMany" = some (.ref c10) ∧ mg "NoText" = some (.ref c11)
  k5 : K12 K CD cs12 CN 5
  k10 : K12 K CD cs12 CT 10
section
variable {P : Program} {w : World} {K : PySem.W.Frag} {mg : Str → Option Value} {base : Heap} {C CA CN CT CD : Addr} {cs12 : List Addr}
theorem facts (D : AllD K mg CA) (N : AllN K mg C CA CN CT CD cs12) : ∃ fI fT fW fC fdI fdT fdW fdC, LawFs P w K mg base CA CN CT CD cs12 fI fT fW fC fdI fdT fdW fdC := by
  have X : Tx mg := ⟨N.z0, N.z1, N.z2, N.z3, N.z4⟩
  have T : Tp mg := ⟨N.z5, N.z6, N.z7, N.i0, N.i1⟩
  have nxt : ∀ k, Pm P w K mg base CX0 (k + 1) "_law_next" ["draw", "below"] spNx := fun k => .of D.d1 fun f fd F => ok_nx F
  have pck : ∀ k, Pm P w K mg base CX0 (k + 2) "_law_pick" ["draw", "some"] (spPk K) := fun k => .of D.d2 fun f fd F => by
    obtain ⟨_, _, G, m, kp, b⟩ := (nxt k).ex
    exact ok_pk F X _ _ G m kp b
  have pct : ∀ k, Pm P w K mg base CX0 (k + 2) "_law_picture" ["draw", "high", "wide", "dense"] spPc := fun k => .of D.d3 fun f fd F => ok_pc F X (nxt k)
  have nea : ∀ k, Pm P w K mg base CX0 (k + 2) "_law_near" ["draw", "picture"] spNr := fun k => .of D.d4 fun f fd F => ok_nr F X (nxt k)
  have isT : ∀ k, Pm P w K mg base CX0 (k + 1) "is_text" ["thing"] (spIsText K) := fun k => .of D.d11 fun f fd F => ok_isText F T
  have isR : ∀ k, Pm P w K mg base CX0 (k + 2) "_is_row" ["thing"] (spIsRow K) := fun k => .of D.d12 fun f fd F => by
    obtain ⟨_, _, G, m, kp, b⟩ := (isT k).ex
    exact ok_isRow F T X G m kp b
  have isP : ∀ k, Pm P w K mg base CX0 (k + 3) "is_picture" ["thing"] (spIsPic K) := fun k => .of D.d13 fun f fd F => by
    obtain ⟨_, _, G, m, kp, b⟩ := (isR k).ex
    exact ok_isPic (k := k + 1) F T X G m kp b
  have wnt : ∀ k, GW P w K mg base C (k + 4) := fun k => by
    obtain ⟨fW, fdW, FW, mW, bW⟩ := (D.d14).ex
    obtain ⟨_, _, G, m, kp, b⟩ := (isP k).ex
    exact ⟨fW, fdW, ok_want (k := k + 2) FW N.n G m kp b, mW, FW.kp, bW⟩
  have siz : ∀ k, GS P w K mg base C (k + 5) := fun k => by
    obtain ⟨f, fd, F, m, b⟩ := (D.d15).ex
    exact ⟨f, fd, ok_size (k := k + 3) F X (wnt k), m, F.kp, b⟩
  have isN : ∀ k, Pm P w K mg base CX0 (k + 1) "is_number" ["thing"] (spIsNum K) := fun k => .of D.d16 fun f fd F => ok_isNum F T X
  have btw : ∀ k, Pm P w K mg base CX0 (k + 2) "is_between" ["thing", "least", "most"] (spBetw K) := fun k => .of D.d17 fun f fd F => by
    obtain ⟨_, _, G, m, kp, b⟩ := (isN k).ex
    exact ok_betw F G m kp b
  have isL : ∀ k, Pm P w K mg base CX0 (k + 1) "is_list" ["thing"] (spIsList K) := fun k => .of D.d18 fun f fd F => ok_isList F T X
  have isU : ∀ k, Pm P w K mg base CX0 (k + 1) "is_tuple" ["thing", "many"] (spIsTup K) := fun k => .of D.d19 fun f fd F => ok_isTup F T X
  have dts : ∀ k, Pm P w K mg base (L2.CX P w) (k + 5) "dots" ["picture"] (spDots K) := fun k => .of D.d20 fun f fd F => ok_dots (k := k + 3) F N.z9 (wnt k)
  have sgn : ∀ k, Pm P w K mg base CX0 (k + 2) "is_sign" ["thing"] spSg := fun k => .of D.d21 fun f fd F => ok_sg F X (isT k)
  have ish : ∀ k, Pm P w K mg base CX0 (k + 6) "_is_shape" ["thing", "high"] spIS := fun k => .of D.d22 fun f fd F => ok_is (k := k + 4) F X N.i4 (isU (k + 4)) (sgn (k + 3)) (isP (k + 2)) (siz k) (dts k)
  have ipo : ∀ k, Pm P w K mg base CX0 (k + 1) "_is_picture_of" ["picture", "shapes"] spIPO := fun k => .of D.d23 fun f fd F => ok_ipo F N.z8
  have ash : ∀ k, Mm P w K mg base (k + 1) CA "shapes" ["self"] (spAS CA) := fun k => .of D.m1 fun f fd F => ok_as F X N.ta
  have anu : ∀ k, Mm P w K mg base (k + 3) CA "_want_number" ["self", "number"] (spAN CA) := fun k => .of D.m3 fun f fd F => ok_an (k := k + 1) F X N.ta (btw k)
  have awi : ∀ k, Mm P w K mg base (k + 6) CA "wide" ["self", "number"] (spAW CA) := fun k => .of D.m2 fun f fd F => ok_aw (k := k + 4) F N.ta (siz k) (anu (k + 2))
  have aln : ∀ k, Mm P w K mg base (k + 1) CA "__len__" ["self"] (spALn CA) := fun k => .of D.m4 fun f fd F => ok_aln F X N.ta
  have iwi : ∀ k, Pm P w K mg base CX0 (k + 7) "_is_window" ["alphabet", "thing", "edge", "columns"] (spIW K CA) := fun k => .of D.d25 fun f fd F => ok_iw (k := k + 4) F X N.ta (isU (k + 5)) (btw (k + 4)) (aln (k + 4)) (awi k)
  have wre : ∀ k, Pm P w K mg base (L2.CX P w) (k + 8) "want_reading" ["alphabet", "columns", "thing"] (spWR K CA CN) := fun k => .of D.d24 fun f fd F => ok_wr (k := k + 6) F X T N.ta N.nr (iwi k) (awi (k + 1))
  have waa : ∀ k, Pm P w K mg base CX0 (k + 7) "_white_ahead" ["alphabet", "reading", "at"] (spWA K CA) := fun k => .of D.d26 fun f fd F => ok_wa (k := k + 5) F N.ta (awi k)
  obtain ⟨fI, fdI, FI, mI, bI⟩ := (D.m0).ex
  obtain ⟨fW, fdW, FW, mW⟩ := D.wo
  obtain ⟨fT, fdT, FT, mT⟩ := D.to
  obtain ⟨fC, fdC, FC, mC, bC⟩ := (D.d8).ex
  have T2 : T12 mg CD cs12 := ⟨N.z12, N.z13, N.z9, N.gd, N.gs⟩
  have GO9 : FnOk P w K mg base (L2.CX P w) 9 fW fdW ["alphabet", "reading", "blank"] (spWO K CA CN CT) := ok_wo (k := 6) FW X N.z10 N.ta N.tm N.i2 N.i6 (wre 0) (btw 6) (ash 7) (waa 1)
  exact ⟨fI, fT, fW, fC, fdI, fdT, fdW, fdC,
    { tx := X
      ta := N.ta
      en := N.z9
      rp := N.z14
      mka := ⟨N.mks, mI.at_, mI.fn, N.kp⟩
      GI := ok_ai (k := 9) FI X N.ta N.z9 N.i3 N.i5 (btw 8) (isL 9) (ish 4) (ipo 9)
      bI := bI
      B := .of D.d0 fun f fd F => ok_bg (k := 11) F N.z11
      N := nxt 11
      K' := pck 10
      S := .of D.d5 fun f fd F => ok_shp (k := 8) F X N.z10 (nxt 10) (pck 9) (pct 9) (nea 9)
      DW := .of D.d9 fun f fd F => ok_dw (k := 10) F X (nxt 10) (pck 9)
      WI := .of D.d6 fun f fd F => ok_wi (k := 11) F X N.z9
      FT := FT
      GT := ok_to (k := 8) FT FW GO9 mW
      mT := mT
      FW := FW
      GW := ok_wo (k := 7) FW X N.z10 N.ta N.tm N.i2 N.i6 (wre 1) (btw 7) (ash 8) (waa 2)
      mW := mW
      tc := T2
      GC := ok_lc (k := 9) FC T2
      mC := mC
      kC := FC.kp
      bC := bC
      R := D.d7
      k5 := N.k5
      k10 := N.k10 }⟩
end
theorem gli_mk {K : PySem.W.Frag} {h : Heap} {mg : Str → Option Value} {nm : Str} {i : Int} {t : Tok} (X : K.In h) (G : h.Ns mainGlobals mg) (a : PySem.W.nsIn K mainGlobals nm = some (some (.int i t))) : ∃ t, mg nm = some (.int i t) := ⟨t, PySem.W.mg_of X G a⟩
theorem glk_mk {K : PySem.W.Frag} {h : Heap} {mg : Str → Option Value} {nm : Str} {C D : Addr} {b : Bool} (X : K.In h) (G : h.Ns mainGlobals mg) (a : PySem.W.nsIn K mainGlobals nm = some (some (.ref C))) (q : PySem.W.kitOne K (.ref D) (.ref C) = some b) : ∃ C, mg nm = some (.ref C) ∧ PySem.W.kitOne K (.ref D) (.ref C) = some b := ⟨C, PySem.W.mg_of X G a, q⟩
theorem glx_mk {K : PySem.W.Frag} {h : Heap} {mg : Str → Option Value} {nm : Str} {C D : Addr} (X : K.In h) (G : h.Ns mainGlobals mg) (a : PySem.W.nsIn K mainGlobals nm = some (some (.ref C))) (q : PySem.W.exmOne K (.ref D) (.ref C) = some true) : ∃ C, mg nm = some (.ref C) ∧ PySem.W.exmOne K (.ref D) (.ref C) = some true := ⟨C, PySem.W.mg_of X G a, q⟩
theorem kitc_ref {K : PySem.W.Frag} {C D : Addr} {b : Bool} (i : PySem.W.isClsIn K C = true) (y : PySem.W.typeIn K (.ref C) = some (.type "type")) (s : PySem.W.subIn K (.ref D) (.ref C) = some b) : PySem.W.kitCls K (.ref D) (.ref C) = some b := by
  have e2 : ((PySem.W.clsIn K C).isSome && PySem.W.typeIn K (.ref C) == some (.type "type")) = true := by
    have i' : (PySem.W.clsIn K C).isSome = true := i
    rw [i', y] <;> rfl
  show (if ((PySem.W.clsIn K C).isSome && PySem.W.typeIn K (.ref C) == some (.type "type")) = true then PySem.W.subIn K (.ref D) (.ref C) else none) = some b
  rw [if_pos e2]
  exact s
theorem kit_self {K : PySem.W.Frag} {C : Addr} : PySem.W.kitOne K (.ref C) (.ref C) = some true := if_pos (beq_self_eq_true _)
theorem kit_ne {K : PySem.W.Frag} {C D : Addr} {b : Bool} (n : D ≠ C) (h : PySem.W.kitCls K (.ref D) (.ref C) = some b) : PySem.W.kitOne K (.ref D) (.ref C) = some b := by
  unfold PySem.W.kitOne
  rw [if_neg (fun z => n (Value.ref.inj (beq_iff_eq.mp z)))]
  exact h
theorem glo_mk {K : PySem.W.Frag} {h : Heap} {mg : Str → Option Value} {nm : Str} {C D : Addr} {b : Bool} (X : K.In h) (G : h.Ns mainGlobals mg) (a : PySem.W.nsIn K mainGlobals nm = some (some (.ref C))) (i : PySem.W.isClsIn K C = true) (y : PySem.W.typeIn K (.ref C) = some (.type "type")) (s : PySem.W.subIn K (.ref D) (.ref C) = some b) (n : D ≠ C) : ∃ C, mg nm = some (.ref C) ∧ PySem.W.kitOne K (.ref D) (.ref C) = some b :=
  ⟨C, PySem.W.mg_of X G a, kit_ne n (kitc_ref i y s)⟩
theorem gls_mk {K : PySem.W.Frag} {h : Heap} {mg : Str → Option Value} {nm : Str} {C : Addr} (X : K.In h) (G : h.Ns mainGlobals mg) (a : PySem.W.nsIn K mainGlobals nm = some (some (.ref C))) : ∃ D, mg nm = some (.ref D) ∧ PySem.W.kitOne K (.ref C) (.ref D) = some true := ⟨C, PySem.W.mg_of X G a, kit_self⟩
theorem kit_ty {K : PySem.W.Frag} {D : Addr} {T : String} {b : Bool} (m : PySem.W.kitMeta T = true) (s : PySem.W.subIn K (.ref D) (.type T) = some b) : PySem.W.kitOne K (.ref D) (.type T) = some b := by
  unfold PySem.W.kitOne
  have n : ¬ ((Value.ref D == Value.type T) = true) := fun z => by
    have e := beq_iff_eq.mp z
    cases e
  rw [if_neg n]
  show (if PySem.W.kitMeta T = true then PySem.W.subIn K (.ref D) (.type T) else none) = some b
  rw [if_pos m]
  exact s
theorem glx_of {K : PySem.W.Frag} {h : Heap} {mg : Str → Option Value} {nm : Str} {C D : Addr} (X : K.In h) (G : h.Ns mainGlobals mg) (a : PySem.W.nsIn K mainGlobals nm = some (some (.ref C))) (b : PySem.W.subIn K (.ref C) (.type "BaseException") = some true) (hd : PySem.W.hasDictIn K C = true) (y : PySem.W.typeIn K (.ref C) = some (.type "type")) (s : PySem.W.subIn K (.ref D) (.ref C) = some true) :
    ∃ C, mg nm = some (.ref C) ∧ PySem.W.exmOne K (.ref D) (.ref C) = some true := ⟨C, PySem.W.mg_of X G a, PySem.W.exm_ref b hd y s⟩
theorem tabm {K : PySem.W.Frag} {f cc PP : Addr} {oc oc2 : Value} {od od2 : Option Addr} {fd : FuncData} {sl sl2 : Array (Option Value)} {vs : Array Value} (a : PySem.W.nsIn K mainGlobals "law" = some (some (.ref f))) (l : K.lookup f = some ⟨oc, od, .func fd, sl⟩) (c : fd.code = .ref cc) (m : K.lookup cc = some ⟨oc2, od2, .fields vs, sl2⟩) (v : (vs[11]? : Option Value) = some (.ref PP)) :
    PySem.W.tabIn K "law" = some (cc, PP) := by
  unfold PySem.W.tabIn
  rw [a]
  simp only
  rw [l]
  simp only
  rw [c]
  simp only
  rw [m]
  simp only
  rw [v]
theorem mk_words_of {K : PySem.W.Frag} {h : Heap} {mg : Str → Option Value} {f Dk : Addr} {t : Tok} {oc : Value} {od an : Option Addr} {osl : Array (Option Value)} {doc pm cdv ct : Value} (X : K.In h) (G : h.Ns mainGlobals mg)
    (a : PySem.W.nsIn K mainGlobals "words_of" = some (some (.ref f))) (l : K.lookup f = some ⟨oc, od, .func (PySem.W.fnOf "words_of" "words_of" (defArgs sWO) (defBody sWO) (defScope sWO) .none (.ref Dk) doc pm an cdv ct), osl⟩) (c : PySem.W.codeIn K cdv "words_of" = true) (k : PySem.W.keepIn K (.ref f) = true)
    (n : PySem.W.nsIn K Dk "blank" = some (some (.int 3 t))) : ∃ f fd, FnWO K f fd ∧ mg "words_of" = some (.ref f) :=
  ⟨f, _, ⟨⟨oc, od, .none, .ref Dk, doc, pm, an, cdv, ct, osl, rfl, l, c, .inl ⟨rfl, rfl⟩, .inr ⟨Dk, rfl, fun q hq => by
    rw [List.mem_singleton.mp hq]
    exact ⟨_, n, t, rfl⟩⟩⟩, k⟩, PySem.W.mg_of X G a⟩
theorem mk_text_of {K : PySem.W.Frag} {h : Heap} {mg : Str → Option Value} {f Dk : Addr} {t : Tok} {oc : Value} {od an : Option Addr} {osl : Array (Option Value)} {doc pm cdv ct : Value} (X : K.In h) (G : h.Ns mainGlobals mg)
    (a : PySem.W.nsIn K mainGlobals "text_of" = some (some (.ref f))) (l : K.lookup f = some ⟨oc, od, .func (PySem.W.fnOf "text_of" "text_of" (defArgs sTO) (defBody sTO) (defScope sTO) .none (.ref Dk) doc pm an cdv ct), osl⟩) (c : PySem.W.codeIn K cdv "text_of" = true) (k : PySem.W.keepIn K (.ref f) = true)
    (n : PySem.W.nsIn K Dk "blank" = some (some (.int 3 t))) : ∃ f fd, FnTO K f fd ∧ mg "text_of" = some (.ref f) :=
  ⟨f, _, ⟨⟨oc, od, .none, .ref Dk, doc, pm, an, cdv, ct, osl, rfl, l, c, .inl ⟨rfl, rfl⟩, .inr ⟨Dk, rfl, fun q hq => by
    rw [List.mem_singleton.mp hq]
    exact ⟨_, n, t, rfl⟩⟩⟩, k⟩, PySem.W.mg_of X G a⟩
theorem ttm_mk {K : PySem.W.Frag} {h : Heap} {mg : Str → Option Value} {C f : Addr} {nm q : Str} {N : Addr} {bs bm : List Value} {sn : List Str} {sub : List Value} {ab : Bool} {col : Option Bool} {dd : Option Addr} {k0 k1 k2 k3 k5 : Option Value} {oc : Value} {od an : Option Addr} {osl : Array (Option Value)} {kV doc pm cdv ct : Value} (X : K.In h) (G : h.Ns mainGlobals mg) (a : PySem.W.nsIn K mainGlobals "TooMany" = some (some (.ref C)))
    (cl : K.lookup C = some (PySem.excClassObj nm q C N bs bm true sn sub ab col dd k0 k1 k2 k3 k5 "ValueError.__new__")) (rv : PySem.HandSPX.refsVE bm = true) (sa : PySem.W.findIn K (.ref C) "__setattr__" = some (some (.builtin "object.__setattr__"))) (eC : PySem.W.subIn K (.ref C) (.type "BaseException") = some true) (tC : PySem.W.typeIn K (.ref C) = some (.type "type")) (kC : PySem.W.keepIn K (.ref C) = true)
    (no : PySem.W.findIn K (.ref C) "most" = some none) (i : PySem.W.findIn K (.ref C) "__init__" = some (some (.ref f))) (ti : PySem.W.typeIn K (.ref f) = some (.type "function")) (l : K.lookup f = some ⟨oc, od, .func (PySem.W.fnOf "__init__" "TooMany.__init__" (defArgs sTM) (defBody sTM) (defScope sTM) .none kV doc pm an cdv ct), osl⟩) (c : PySem.W.codeIn K cdv "TooMany.__init__" = true) (k : PySem.W.keepIn K (.ref f) = true) : Ttm K mg C :=
  have F := fun_mk (st := sTM) l c k
  ⟨PySem.W.mg_of X G a, ⟨⟨nm, q, N, bs, bm, sn, sub, ab, col, dd, k0, k1, k2, k3, k5, cl, rv⟩, sa, eC, tC, kC⟩, no, f, _, i, ti, F, F.binds (ps := ["self", "most"]) bnmT⟩
/-- a class of the top -/
def Cc (K : PySem.W.Frag) (C : Addr) : Prop := PySem.W.isClsIn K C = true ∧ PySem.W.typeIn K (.ref C) = some (.type "type")
theorem Cc.of {K : PySem.W.Frag} {C D : Addr} {b : Bool} (c : Cc K C) (s : PySem.W.subIn K (.ref D) (.ref C) = some b) (n : D ≠ C) : PySem.W.kitOne K (.ref D) (.ref C) = some b := kit_ne n (kitc_ref c.1 c.2 s)
theorem gs12_mk {K : PySem.W.Frag} {h : Heap} {mg : Str → Option Value} {c0 c1 c2 c3 c4 c5 c6 c7 c8 c9 c10 c11 : Addr} (X : K.In h) (G : h.Ns mainGlobals mg) (a0 : PySem.W.nsIn K mainGlobals "NoPicture" = some (some (.ref c0))) (a1 : PySem.W.nsIn K mainGlobals "NoPlace" = some (some (.ref c1))) (a2 : PySem.W.nsIn K mainGlobals "NoShape" = some (some (.ref c2))) (a3 : PySem.W.nsIn K mainGlobals "NoSign" = some (some (.ref c3))) (a4 : PySem.W.nsIn K mainGlobals "NoWord" = some (some (.ref c4))) (a5 : PySem.W.nsIn K mainGlobals "NoReading" = some (some (.ref c5))) (a6 : PySem.W.nsIn K mainGlobals "NoTable" = some (some (.ref c6))) (a7 : PySem.W.nsIn K mainGlobals "NoLine" = some (some (.ref c7))) (a8 : PySem.W.nsIn K mainGlobals "NoDeed" = some (some (.ref c8))) (a9 : PySem.W.nsIn K mainGlobals "NoBack" = some (some (.ref c9))) (a10 : PySem.W.nsIn K mainGlobals "TooMany" = some (some (.ref c10))) (a11 : PySem.W.nsIn K mainGlobals "NoText" = some (some (.ref c11))) :
    ∃ d0 d1 d2 d3 d4 d5 d6 d7 d8 d9 d10 d11, [c0, c1, c2, c3, c4, c5, c6, c7, c8, c9, c10, c11] = [d0, d1, d2, d3, d4, d5, d6, d7, d8, d9, d10, d11] ∧ mg "NoPicture" = some (.ref d0) ∧ mg "NoPlace" = some (.ref d1) ∧ mg "NoShape" = some (.ref d2) ∧ mg "NoSign" = some (.ref d3) ∧ mg "NoWord" = some (.ref d4) ∧ mg "NoReading" = some (.ref d5) ∧ mg "NoTable" = some (.ref d6) ∧ mg "NoLine" = some (.ref d7) ∧ mg "NoDeed" = some (.ref d8) ∧ mg "NoBack" = some (.ref d9) ∧ mg "TooMany" = some (.ref d10) ∧ mg "NoText" = some (.ref d11) :=
  ⟨c0, c1, c2, c3, c4, c5, c6, c7, c8, c9, c10, c11, rfl, PySem.W.mg_of X G a0, PySem.W.mg_of X G a1, PySem.W.mg_of X G a2, PySem.W.mg_of X G a3, PySem.W.mg_of X G a4, PySem.W.mg_of X G a5, PySem.W.mg_of X G a6, PySem.W.mg_of X G a7, PySem.W.mg_of X G a8, PySem.W.mg_of X G a9, PySem.W.mg_of X G a10, PySem.W.mg_of X G a11⟩
theorem ks12 {K : PySem.W.Frag} {D : Addr} {j : Nat} {c0 c1 c2 c3 c4 c5 c6 c7 c8 c9 c10 c11 : Addr} (h0 : PySem.W.kitOne K (.ref D) (.ref c0) = some (decide (0 = j))) (h1 : PySem.W.kitOne K (.ref D) (.ref c1) = some (decide (1 = j))) (h2 : PySem.W.kitOne K (.ref D) (.ref c2) = some (decide (2 = j))) (h3 : PySem.W.kitOne K (.ref D) (.ref c3) = some (decide (3 = j))) (h4 : PySem.W.kitOne K (.ref D) (.ref c4) = some (decide (4 = j))) (h5 : PySem.W.kitOne K (.ref D) (.ref c5) = some (decide (5 = j))) (h6 : PySem.W.kitOne K (.ref D) (.ref c6) = some (decide (6 = j))) (h7 : PySem.W.kitOne K (.ref D) (.ref c7) = some (decide (7 = j))) (h8 : PySem.W.kitOne K (.ref D) (.ref c8) = some (decide (8 = j))) (h9 : PySem.W.kitOne K (.ref D) (.ref c9) = some (decide (9 = j))) (h10 : PySem.W.kitOne K (.ref D) (.ref c10) = some (decide (10 = j))) (h11 : PySem.W.kitOne K (.ref D) (.ref c11) = some (decide (11 = j))) :
    ∀ (i : Nat) (c : Addr), [c0, c1, c2, c3, c4, c5, c6, c7, c8, c9, c10, c11][i]? = some c → PySem.W.kitOne K (.ref D) (.ref c) = some (decide (i = j)) := by
  intro i c h
  match i, h with
  | 0, h => cases h; exact h0
  | 1, h => cases h; exact h1
  | 2, h => cases h; exact h2
  | 3, h => cases h; exact h3
  | 4, h => cases h; exact h4
  | 5, h => cases h; exact h5
  | 6, h => cases h; exact h6
  | 7, h => cases h; exact h7
  | 8, h => cases h; exact h8
  | 9, h => cases h; exact h9
  | 10, h => cases h; exact h10
  | 11, h => cases h; exact h11
  | n + 12, h => exact nomatch h
theorem end_mk19 {K : PySem.W.Frag} {mg : Str → Option Value} {C CA CN CT CD cc PP : Addr} {cs12 : List Addr} (D : AllD K mg CA) (N : AllN K mg C CA CN CT CD cs12) (t : PySem.W.tabIn K "law" = some (cc, PP)) (np : K.lookup PP = none) :
    ∃ (C CA CN CT CD : Addr) (cs12 : List Addr) (cc PP : Addr), AllD K mg CA ∧ AllN K mg C CA CN CT CD cs12 ∧ PySem.W.tabIn K "law" = some (cc, PP) ∧ K.lookup PP = none := ⟨C, CA, CN, CT, CD, cs12, cc, PP, D, N, t, np⟩
theorem walk19 {l : PySem.W.OpenLaw} {q : Program} {loose : List Str} {XP : (Str → Option Value) → Heap → Prop} {YP : World → Heap → Prop} {d e : DefRec} {K : Params → PySem.W.Frag}
    (hn : l.most = some 63) (hdf : d.params.defaults = []) (hrec : (PyProof.Rows.recsOf q).find? (fun e => e.name == ("law" : Str)) = some e) (hY : ∀ (w : World) (h : Heap), YP w h → (K w.params).In h) (hname : d.name = "law")
    (F : ∀ (w : World) (mg : Str → Option Value) (h : Heap), (K w.params).In h → h.Ns mainGlobals mg → ∃ (C CA CN CT CD : Addr) (cs12 : List Addr) (cc PP : Addr), AllD (K w.params) mg CA ∧ AllN (K w.params) mg C CA CN CT CD cs12 ∧ PySem.W.tabIn (K w.params) "law" = some (cc, PP) ∧ (K w.params).lookup PP = none) :
    PySem.W.WalkO q loose XP YP l.row.toRowW d [] (fun f vs => PySem.call f vs) := by
  refine Att.attach_callB hn hdf fun w s₀ s₁ mg mb fa o pm cd doc a vs ns G Y ho hd hcd hmg hobj hints hlen hbits hg => ?_
  have KX := hY w _ Y
  obtain ⟨C, CA, CN, CT, CD, cs12, cc, PP, D, N, ht, nP⟩ := F w mg _ KX G.T.g
  obtain ⟨hC, hP⟩ := PySem.W.tab_of G.T KX hrec ht
  rw [hname] at hmg
  obtain ⟨fL, fdL, FL, mL, bL⟩ := D.d10.ex
  rw [hmg] at mL
  cases mL
  obtain ⟨oc, od, kV, dc, pm', an, cdv, ct, osl, rfl, lk, hc⟩ := FL.ex
  have ec := PySem.W.law_code KX G.T.g ht hmg (KX _ _ lk) rfl
  have ec' : cdv = .ref cc := ec
  subst ec'
  refine law_callG (cs := [(cc, PP)]) KX G.T.g G.T.b G.T.builtins G.T.nolimit hg (fun p hp => by rw [List.mem_singleton.mp hp]; exact hP) (fun p hp => by rw [List.mem_singleton.mp hp]; exact nP) (fun p hp => by rw [List.mem_singleton.mp hp]; exact hC) G.T.bmain hobj hints (Nat.le_trans hlen (by decide)) ?_
  intro base H hKb hNs hTB hHT hS e0
  obtain ⟨fI, fT, fW, fC, fdI, fdT, fdW, fdC, LF⟩ := facts (P := l.prog) (w := w) (base := base) D N
  exact law_run lk hc (fun _ _ => .of_eq rfl) LF (hTB _ (List.mem_singleton.mpr rfl)) ⟨rfl, by decide, by decide⟩ e0 (hHT _ (List.mem_singleton.mpr rfl)) hS hlen
end Dt
open PySem PySem.W PyProof.Rows
set_option maxRecDepth 100000 in
set_option maxHeartbeats 0 in
theorem PySem.Challenge.cw_dotread_k19_texts_and_words_holds : PySem.Challenge.rw_dotread_k19_texts_and_words.Holds := by
  w_on; o_law; k_head; (case hw => w_witness2)
  k_fill
  refine Dt.walk19 (l := PySem.Challenge.rw_dotread_k19_texts_and_words) rfl rfl rfl (fun w h Y => PySem.W.km_in_of Y) (by kernel_rfl) ?F
  case F =>
    intro w mg h KX G
    refine' Dt.end_mk19 ⟨Dt.df_mk KX G ?a0 ?l0 ?c0 ?k0 Dt.bnd0, Dt.df_mk KX G ?a1 ?l1 ?c1 ?k1 Dt.bnd1, Dt.df_mk KX G ?a2 ?l2 ?c2 ?k2 Dt.bnd2, Dt.df_mk KX G ?a3 ?l3 ?c3 ?k3 Dt.bnd3, Dt.df_mk KX G ?a4 ?l4 ?c4 ?k4 Dt.bnd4, Dt.df_mk KX G ?a5 ?l5 ?c5 ?k5 Dt.bnd5, Dt.df_mk KX G ?a6 ?l6 ?c6 ?k6 Dt.bnd6, Dt.df_mk KX G ?a7 ?l7 ?c7 ?k7 Dt.bnd7, Dt.df_mk KX G ?a8 ?l8 ?c8 ?k8 Dt.bnd8, Dt.df_mk KX G ?a9 ?l9 ?c9 ?k9 Dt.bnd9, Dt.df_mk KX G ?a10 ?l10 ?c10 ?k10 Dt.bnd10, Dt.df_mk KX G ?a11 ?l11 ?c11 ?k11 Dt.bnd11, Dt.df_mk KX G ?a12 ?l12 ?c12 ?k12 Dt.bnd12, Dt.df_mk KX G ?a13 ?l13 ?c13 ?k13 Dt.bnd13, Dt.df_mk KX G ?a14 ?l14 ?c14 ?k14 Dt.bnd14, Dt.df_mk KX G ?a15 ?l15 ?c15 ?k15 Dt.bnd15, Dt.df_mk KX G ?a16 ?l16 ?c16 ?k16 Dt.bnd16, Dt.df_mk KX G ?a17 ?l17 ?c17 ?k17 Dt.bnd17, Dt.df_mk KX G ?a18 ?l18 ?c18 ?k18 Dt.bnd18, Dt.df_mk KX G ?a19 ?l19 ?c19 ?k19 Dt.bnd19, Dt.df_mk KX G ?a20 ?l20 ?c20 ?k20 Dt.bnd20, Dt.df_mk KX G ?a21 ?l21 ?c21 ?k21 Dt.bnd21, Dt.df_mk KX G ?a22 ?l22 ?c22 ?k22 Dt.bnd22, Dt.df_mk KX G ?a23 ?l23 ?c23 ?k23 Dt.bnd23, Dt.df_mk KX G ?a24 ?l24 ?c24 ?k24 Dt.bnd24, Dt.df_mk KX G ?a25 ?l25 ?c25 ?k25 Dt.bnd25, Dt.df_mk KX G ?a26 ?l26 ?c26 ?k26 Dt.bnd26, Dt.dm_mk ?ma0 ?mi0 ?ml0 ?mc0 ?mk0 Dt.bnm0, Dt.dm_mk ?ma1 ?mi1 ?ml1 ?mc1 ?mk1 Dt.bnm1, Dt.dm_mk ?ma2 ?mi2 ?ml2 ?mc2 ?mk2 Dt.bnm2, Dt.dm_mk ?ma3 ?mi3 ?ml3 ?mc3 ?mk3 Dt.bnm3, Dt.dm_mk ?ma4 ?mi4 ?ml4 ?mc4 ?mk4 Dt.bnm4, Dt.mk_words_of KX G ?pa ?pl ?pc ?pk ?pn, Dt.mk_text_of KX G ?qa ?ql ?qc ?qk ?qn⟩ ⟨mg_none_of KX G ?z0, mg_none_of KX G ?z1, mg_none_of KX G ?z2, mg_none_of KX G ?z3, mg_none_of KX G ?z4, mg_none_of KX G ?z5, mg_none_of KX G ?z6, mg_none_of KX G ?z7, mg_none_of KX G ?z8, mg_none_of KX G ?z9, mg_none_of KX G ?z10, mg_none_of KX G ?z11, mg_none_of KX G ?z12, mg_none_of KX G ?z13, mg_none_of KX G ?z14, Dt.gli_mk KX G ?i0, Dt.gli_mk KX G ?i1, Dt.gli_mk KX G ?i2, Dt.gli_mk KX G ?i3, Dt.gli_mk KX G ?i4, Dt.gli_mk KX G ?i5, Dt.gli_mk KX G ?i6, ⟨mg_of KX G ?nC2, ?nx, ?nk, ?nb, ?nt⟩, Dt.exN_mk KX G ?nR2 ?px ?pk2 ?pb ?pt, Dt.ttm_mk KX G ?nT2 ?sl ?sr ?ss ?se ?st ?sk ?sn ?si ?sf ?sg ?sc ?sq, ⟨⟨?tg, ?th, ?to, ?ts⟩, Dt.noa ?tH, Dt.noa ?tS, mg_of KX G ?nA⟩, ?mm, ?mp, mg_of KX G ?nD2, Dt.gs12_mk KX G ?ng0 ?ng1 ?ng2 ?ng3 ?ng4 ?ng5 ?ng6 ?ng7 ?ng8 ?ng9 ?ng10 ?ng11, ⟨by decide, ⟨?e5x1, ?e5x2, ?e5x3, ?e5x4, ?e5x5, ?e5x6, ?e5x7, ?e5x8⟩, Dt.kit_ty (by decide +kernel) ?v5, PySem.W.exm_ref ?yb ?yd ?yy ?ys5, Dt.ks12 (Dt.Cc.of ⟨?cci0, ?ccy0⟩ ?s5x0 ?m5x0) (Dt.Cc.of ⟨?cci1, ?ccy1⟩ ?s5x1 ?m5x1) (Dt.Cc.of ⟨?cci2, ?ccy2⟩ ?s5x2 ?m5x2) (Dt.Cc.of ⟨?cci3, ?ccy3⟩ ?s5x3 ?m5x3) (Dt.Cc.of ⟨?cci4, ?ccy4⟩ ?s5x4 ?m5x4) Dt.kit_self (Dt.Cc.of ⟨?cci6, ?ccy6⟩ ?s5x6 ?m5x6) (Dt.Cc.of ⟨?cci7, ?ccy7⟩ ?s5x7 ?m5x7) (Dt.Cc.of ⟨?cci8, ?ccy8⟩ ?s5x8 ?m5x8) (Dt.Cc.of ⟨?cci9, ?ccy9⟩ ?s5x9 ?m5x9) (Dt.Cc.of ⟨?cci10, ?ccy10⟩ ?s5x10 ?m5x10) (Dt.Cc.of ⟨?cci11, ?ccy11⟩ ?s5x11 ?m5x11)⟩, ⟨by decide, ⟨?e10x1, ?e10x2, ?e10x3, ?e10x4, ?e10x5, ?e10x6, ?e10x7, ?e10x8⟩, Dt.kit_ty (by decide +kernel) ?v10, PySem.W.exm_ref ?yb ?yd ?yy ?ys10, Dt.ks12 (Dt.Cc.of ⟨?cci0, ?ccy0⟩ ?s10x0 ?m10x0) (Dt.Cc.of ⟨?cci1, ?ccy1⟩ ?s10x1 ?m10x1) (Dt.Cc.of ⟨?cci2, ?ccy2⟩ ?s10x2 ?m10x2) (Dt.Cc.of ⟨?cci3, ?ccy3⟩ ?s10x3 ?m10x3) (Dt.Cc.of ⟨?cci4, ?ccy4⟩ ?s10x4 ?m10x4) (Dt.Cc.of ⟨?cci5, ?ccy5⟩ ?s10x5 ?m10x5) (Dt.Cc.of ⟨?cci6, ?ccy6⟩ ?s10x6 ?m10x6) (Dt.Cc.of ⟨?cci7, ?ccy7⟩ ?s10x7 ?m10x7) (Dt.Cc.of ⟨?cci8, ?ccy8⟩ ?s10x8 ?m10x8) (Dt.Cc.of ⟨?cci9, ?ccy9⟩ ?s10x9 ?m10x9) Dt.kit_self (Dt.Cc.of ⟨?cci11, ?ccy11⟩ ?s10x11 ?m10x11)⟩⟩ (Dt.tabm ?ta ?tl ?tc ?tm ?tv) ?np
    (case nA => k_is)
    (case nC2 => k_is)
    (case nR2 => k_is)
    (case nT2 => k_is)
    (case nD2 => k_is)
    (case ng0 => k_is)
    (case ng1 => k_is)
    (case ng2 => k_is)
    (case ng3 => k_is)
    (case ng4 => k_is)
    (case ng5 => k_is)
    (case ng6 => k_is)
    (case ng7 => k_is)
    (case ng8 => k_is)
    (case ng9 => k_is)
    (case ng10 => k_is)
    (case ng11 => k_is)
    (case a0 => k_is)
    (case l0 => k_is)
    (case c0 => k_is)
    (case k0 => k_is)
    (case a1 => k_is)
    (case l1 => k_is)
    (case c1 => k_is)
    (case k1 => k_is)
    (case a2 => k_is)
    (case l2 => k_is)
    (case c2 => k_is)
    (case k2 => k_is)
    (case a3 => k_is)
    (case l3 => k_is)
    (case c3 => k_is)
    (case k3 => k_is)
    (case a4 => k_is)
    (case l4 => k_is)
    (case c4 => k_is)
    (case k4 => k_is)
    (case a5 => k_is)
    (case l5 => k_is)
    (case c5 => k_is)
    (case k5 => k_is)
    (case a6 => k_is)
    (case l6 => k_is)
    (case c6 => k_is)
    (case k6 => k_is)
    (case a7 => k_is)
    (case l7 => k_is)
    (case c7 => k_is)
    (case k7 => k_is)
    (case a8 => k_is)
    (case l8 => k_is)
    (case c8 => k_is)
    (case k8 => k_is)
    (case a9 => k_is)
    (case l9 => k_is)
    (case c9 => k_is)
    (case k9 => k_is)
    (case a10 => k_is)
    (case l10 => k_is)
    (case c10 => k_is)
    (case k10 => k_is)
    (case a11 => k_is)
    (case l11 => k_is)
    (case c11 => k_is)
    (case k11 => k_is)
    (case a12 => k_is)
    (case l12 => k_is)
    (case c12 => k_is)
    (case k12 => k_is)
    (case a13 => k_is)
    (case l13 => k_is)
    (case c13 => k_is)
    (case k13 => k_is)
    (case a14 => k_is)
    (case l14 => k_is)
    (case c14 => k_is)
    (case k14 => k_is)
    (case a15 => k_is)
    (case l15 => k_is)
    (case c15 => k_is)
    (case k15 => k_is)
    (case a16 => k_is)
    (case l16 => k_is)
    (case c16 => k_is)
    (case k16 => k_is)
    (case a17 => k_is)
    (case l17 => k_is)
    (case c17 => k_is)
    (case k17 => k_is)
    (case a18 => k_is)
    (case l18 => k_is)
    (case c18 => k_is)
    (case k18 => k_is)
    (case a19 => k_is)
    (case l19 => k_is)
    (case c19 => k_is)
    (case k19 => k_is)
    (case a20 => k_is)
    (case l20 => k_is)
    (case c20 => k_is)
    (case k20 => k_is)
    (case a21 => k_is)
    (case l21 => k_is)
    (case c21 => k_is)
    (case k21 => k_is)
    (case a22 => k_is)
    (case l22 => k_is)
    (case c22 => k_is)
    (case k22 => k_is)
    (case a23 => k_is)
    (case l23 => k_is)
    (case c23 => k_is)
    (case k23 => k_is)
    (case a24 => k_is)
    (case l24 => k_is)
    (case c24 => k_is)
    (case k24 => k_is)
    (case a25 => k_is)
    (case l25 => k_is)
    (case c25 => k_is)
    (case k25 => k_is)
    (case a26 => k_is)
    (case l26 => k_is)
    (case c26 => k_is)
    (case k26 => k_is)
    (case ma0 => k_is)
    (case mi0 => k_is)
    (case ml0 => k_is)
    (case mc0 => k_is)
    (case mk0 => k_is)
    (case ma1 => k_is)
    (case mi1 => k_is)
    (case ml1 => k_is)
    (case mc1 => k_is)
    (case mk1 => k_is)
    (case ma2 => k_is)
    (case mi2 => k_is)
    (case ml2 => k_is)
    (case mc2 => k_is)
    (case mk2 => k_is)
    (case ma3 => k_is)
    (case mi3 => k_is)
    (case ml3 => k_is)
    (case mc3 => k_is)
    (case mk3 => k_is)
    (case ma4 => k_is)
    (case mi4 => k_is)
    (case ml4 => k_is)
    (case mc4 => k_is)
    (case mk4 => k_is)
    (case pa => k_is)
    (case pl => k_is)
    (case pc => k_is)
    (case pk => k_is)
    (case pn => k_is)
    (case qa => k_is)
    (case ql => k_is)
    (case qc => k_is)
    (case qk => k_is)
    (case qn => k_is)
    (case z0 => k_is)
    (case z1 => k_is)
    (case z2 => k_is)
    (case z3 => k_is)
    (case z4 => k_is)
    (case z5 => k_is)
    (case z6 => k_is)
    (case z7 => k_is)
    (case z8 => k_is)
    (case z9 => k_is)
    (case z10 => k_is)
    (case z11 => k_is)
    (case z12 => k_is)
    (case z13 => k_is)
    (case z14 => k_is)
    (case i0 => k_is)
    (case i1 => k_is)
    (case i2 => k_is)
    (case i3 => k_is)
    (case i4 => k_is)
    (case i5 => k_is)
    (case i6 => k_is)
    (case nk => k_is)
    (case nb => k_is)
    (case nt => k_is)
    (case nx => first | kernel_rfl | decide +kernel | rfl)
    (case pk2 => k_is)
    (case pb => k_is)
    (case pt => k_is)
    (case px => first | kernel_rfl | decide +kernel | rfl)
    (case sl => k_is)
    (case sr => decide +kernel)
    (case ss => k_is)
    (case se => k_is)
    (case st => k_is)
    (case sk => k_is)
    (case sn => k_is)
    (case si => k_is)
    (case sf => k_is)
    (case sg => k_is)
    (case sc => k_is)
    (case sq => k_is)
    (case tg => k_is)
    (case th => k_is)
    (case to => k_is)
    (case ts => k_is)
    (case tH => k_is)
    (case tS => k_is)
    (case mm => k_is)
    (case mp => k_is)
    (case s5x0 => k_is)
    (case m5x0 => decide)
    (case s5x1 => k_is)
    (case m5x1 => decide)
    (case s5x2 => k_is)
    (case m5x2 => decide)
    (case s5x3 => k_is)
    (case m5x3 => decide)
    (case s5x4 => k_is)
    (case m5x4 => decide)
    (case s5x6 => k_is)
    (case m5x6 => decide)
    (case s5x7 => k_is)
    (case m5x7 => decide)
    (case s5x8 => k_is)
    (case m5x8 => decide)
    (case s5x9 => k_is)
    (case m5x9 => decide)
    (case s5x10 => k_is)
    (case m5x10 => decide)
    (case s5x11 => k_is)
    (case m5x11 => decide)
    (case e5x1 => k_is)
    (case e5x2 => k_is)
    (case e5x3 => k_is)
    (case e5x4 => k_is)
    (case e5x5 => k_is)
    (case e5x6 => k_is)
    (case e5x7 => k_is)
    (case e5x8 => k_is)
    (case v5 => k_is)
    (case ys5 => k_is)
    (case s10x0 => k_is)
    (case m10x0 => decide)
    (case s10x1 => k_is)
    (case m10x1 => decide)
    (case s10x2 => k_is)
    (case m10x2 => decide)
    (case s10x3 => k_is)
    (case m10x3 => decide)
    (case s10x4 => k_is)
    (case m10x4 => decide)
    (case s10x5 => k_is)
    (case m10x5 => decide)
    (case s10x6 => k_is)
    (case m10x6 => decide)
    (case s10x7 => k_is)
    (case m10x7 => decide)
    (case s10x8 => k_is)
    (case m10x8 => decide)
    (case s10x9 => k_is)
    (case m10x9 => decide)
    (case s10x11 => k_is)
    (case m10x11 => decide)
    (case e10x1 => k_is)
    (case e10x2 => k_is)
    (case e10x3 => k_is)
    (case e10x4 => k_is)
    (case e10x5 => k_is)
    (case e10x6 => k_is)
    (case e10x7 => k_is)
    (case e10x8 => k_is)
    (case v10 => k_is)
    (case ys10 => k_is)
    (case yb => k_is)
    (case yd => k_is)
    (case yy => k_is)
    (case cci0 => k_is)
    (case ccy0 => k_is)
    (case cci1 => k_is)
    (case ccy1 => k_is)
    (case cci2 => k_is)
    (case ccy2 => k_is)
    (case cci3 => k_is)
    (case ccy3 => k_is)
    (case cci4 => k_is)
    (case ccy4 => k_is)
    (case cci5 => k_is)
    (case ccy5 => k_is)
    (case cci6 => k_is)
    (case ccy6 => k_is)
    (case cci7 => k_is)
    (case ccy7 => k_is)
    (case cci8 => k_is)
    (case ccy8 => k_is)
    (case cci9 => k_is)
    (case ccy9 => k_is)
    (case cci10 => k_is)
    (case ccy10 => k_is)
    (case cci11 => k_is)
    (case ccy11 => k_is)
    (case ta => k_is)
    (case tl => k_is)
    (case tc => rfl)
    (case tm => k_is)
    (case tv => rfl)
    (case np => first | kernel_rfl | decide +kernel | rfl)
