import PyProof.Rows.All
import Wide.All
import OpenK.AllK
import Wide.FinOn
import HandS.ForMost
import HandS.Wide
import HandS.Codes
import PySem.Challenge.RW_dotread_k36_whole_partings_wider_and_of
import PyProof.TypeEq
import PyProof.InstEq
import PyProof.StrBlock2
import HandS.TupMul
import HandS.TupAny
import HandS.More
import HandS.ForExc
import PyProof.ListStr
import HandS.Zip
import KE.GoesMore
import KE.GoesZip
import KE.GoesEnum
import HandS.Deep
import HandS.List
import HandS.WideBits
import HandS.Text
import HandS.StrMore
import KE.DataMinMax
import KE.SortData
import KE.KDictZip
import HandS.Star
import HandS.Walk
import HandS.SetBool
import HandS.Strs
import HandS.DictComp
import HandS.RevRange
import HandS.Conv
import HandS.Steps
import HandS.CallLocal
import HandS.Defaults
import OpenK.KOps
import HandS.Style
import KE.KRevSl
import HandS.Lambda
import HandS.TryOnly
import HandS.Flow
import HandS.EndTab
import KE.OsRunLaw
import HandS.Head2
set_option Elab.async false
set_option linter.all false
set_option maxRecDepth 100000
set_option maxHeartbeats 4000000
namespace Dt
open PySem PySem.Spec PyProof.Rows L2
def topS (i : Nat) : Stmt := PySem.Challenge.pw_dotread_k36_whole_partings_wider_and_of.main.body.getD i (.Pass ⟨0, 0, 0, 0⟩)
theorem inr_ne {a b : Str} (h : ¬ a = b) : ¬ (Sum.inr a : Key) = Sum.inr b := fun z => h (Sum.inr.inj z)
theorem same_upd {H : Hp} {p : Addr} {o : HO} (h : H p = none) : Same H (upd H p o) := fun b x e => by
  rw [upd_ne (ne_of_none e h)]
  exact e
theorem dpInts {K : PySem.W.Frag} {H : Hp} : ∀ ns : List Int, DpAll K H (ns.map V.int) (ns.map PyData.int)
  | [] => .nil
  | n :: r => .cons (.int n) (dpInts r)
end Dt
/-! rules of our own: types compared, a text times a number -/
namespace TyNe
open PySem PySem.TypeEq
open Sem (wp)
open Builtin
theorem slot_type_ne : Slot "type" (cmpInfo .NotEq).2.1 "object.__ne__" :=
  .of (owner := "object") (n := "__ne__") (by rw [typeLookup_type, builtinLookup_eq_fast]; kernel_rfl) (by decide +kernel) (by decide +kernel) (by decide +kernel)
    (by first | exact .inl (by decide +kernel) | exact .inr (by decide +kernel)) (by rw [isSubtype_type]; kernel_rfl)
theorem slot_type_ne2 : Slot "type" (cmpInfo .NotEq).2.2 "object.__ne__" :=
  .of (owner := "object") (n := "__ne__") (by rw [typeLookup_type, builtinLookup_eq_fast]; kernel_rfl) (by decide +kernel) (by decide +kernel) (by decide +kernel)
    (by first | exact .inl (by decide +kernel) | exact .inr (by decide +kernel)) (by rw [isSubtype_type]; kernel_rfl)
section
variable {prog : Program} {w : World} {A : Around} {E : Value → Shared → Prop} {s : Shared}
theorem call_ne_same {X : String} {Q : Value → Shared → Prop} (hX : ∀ s' : Shared, s'.TypeIs (.type X) "type") (h : Q (.bool false) s) : wpAny (model prog w) A (call (.builtin "object.__ne__") [.type X, .type X]) Q E s := by
  refine wpAny_call (codeAny_call_builtin slot_type_ne.plain F.cmpEntry_ne (slot_type_ne.check _ _ _ _ _ _ _ _ (hX s) (F.cmpArgs_ne _ _) ?_))
  unfold Builtin.«object.__ne__»
  repeat (first
    | with_reducible refine wpAny_cRoomFor_or (.inl rfl) ?_
    | (refine wpAny_bind (m := callSpecialIfBound? (.type X) (Str.ofString "__eq__") [.type X])
        (wpAny_callSpecialIfBound?_slot (hX _) slot_type_eq (call_gives slot_type_eq (hX _) F.entry_object_eq (F.args_object_eq_2 _ _) (object_eq_same rfl (by simp)) ?_)))
    | wp_step)
  show wpAny (model prog w) A.in1 (truthy (.bool true) >>= fun b => ret (.bool !b)) _ _ _
  exact wpAny_bind (wpAny_truthy_bool (wpAny_pure h))
theorem call_ne_other {X Y : String} {Q : Value → Shared → Prop} (hX : ∀ s' : Shared, s'.TypeIs (.type X) "type") (hne : (Value.type X == Value.type Y) = false) (h : Q .notImplemented s) : wpAny (model prog w) A (call (.builtin "object.__ne__") [.type X, .type Y]) Q E s := by
  refine wpAny_call (codeAny_call_builtin slot_type_ne.plain F.cmpEntry_ne (slot_type_ne.check _ _ _ _ _ _ _ _ (hX s) (F.cmpArgs_ne _ _) ?_))
  unfold Builtin.«object.__ne__»
  repeat (first
    | with_reducible refine wpAny_cRoomFor_or (.inl rfl) ?_
    | (refine wpAny_bind (m := callSpecialIfBound? (.type X) (Str.ofString "__eq__") [.type Y])
        (wpAny_callSpecialIfBound?_slot (hX _) slot_type_eq (call_gives slot_type_eq (hX _) F.entry_object_eq (F.args_object_eq_2 _ _) (object_eq_other rfl hne) ?_)))
    | wp_step)
  show wpAny (model prog w) A.in1 (ret .notImplemented) _ _ _
  exact wpAny_pure h
theorem ne_type_same {X : String} {Q : Value → Shared → Prop} (hX : ∀ s' : Shared, s'.TypeIs (.type X) "type") (h : Q (.bool false) s) : wpAny (model prog w) A (compareOp .NotEq (.type X) (.type X)) Q E s := by
  show wpAny _ A (richCompare .NotEq _ _) Q E s
  exact wpAny_richCompare_same (T := "type") (hX s) (hX s) slot_type_ne (call_ne_same hX ⟨(by intro e; cases e), h⟩)
theorem ne_type_other {X Y : String} {Q : Value → Shared → Prop} (hX : ∀ s' : Shared, s'.TypeIs (.type X) "type") (hY : ∀ s' : Shared, s'.TypeIs (.type Y) "type") (hne : (Value.type X == Value.type Y) = false) (h : Q (.bool true) s) :
    wpAny (model prog w) A (compareOp .NotEq (.type X) (.type Y)) Q E s := by
  have hne' : (Value.type Y == Value.type X) = false := by
    rw [Bool.eq_false_iff] at hne ⊢
    intro e
    exact hne (by rw [beq_iff_eq] at e ⊢; exact e.symm)
  show wpAny _ A (richCompare .NotEq _ _) Q E s
  have h1 := slot_type_ne
  have h2 := slot_type_ne2
  rcases hi : cmpInfo CmpOp.NotEq with ⟨sym, f, r⟩
  rw [hi] at h1 h2
  simp only [richCompare, hi, (hX s).oneThing_none]
  try with_reducible refine wpAny_holding ?_
  refine wpAny_bind (wpAny_cRoomFor_or (.inl rfl) ?_)
  refine wpAny_bind (wpAny_typeOf (hX s) (wpAny_bind (wpAny_typeOf (hY s) ?_)))
  simp only [bne_self_eq_false, Bool.false_eq_true, if_false, pure_bind, Bool.not_false, if_true]
  refine wpAny_bind (m := tryCompare _ _ _) (wpAny_tryCompare_declines (hX s) h1 (call_ne_other hX hne ⟨rfl, ?_⟩))
  refine wpAny_bind (m := tryCompare _ _ _) (wpAny_tryCompare_declines (hY _) h2 (call_ne_other hY hne' ⟨rfl, ?_⟩))
  refine wpAny_bind (wpAny_rule (wpAny_bind (wpAny_of_eq (a := false) (by rw [isSame_plain rfl, hne]) (wpAny_pure h))))
end
end TyNe
namespace L2X
open PySem PySem.Spec PyProof.Rows L2
/-- the built-in classes that are compared here -/
def tyOk (a : String) : Bool := a = "int" ∨ a = "str" ∨ a = "bool" ∨ a = "NoneType" ∨ a = "list" ∨ a = "tuple" ∨ a = "dict"
theorem tyOk_is {a : String} (h : tyOk a = true) : ∀ s' : Shared, s'.TypeIs (.type a) "type" := by
  unfold tyOk at h
  rcases of_decide_eq_true h with rfl | rfl | rfl | rfl | rfl | rfl | rfl
  · exact TypeEq.meta_int
  · exact TypeEq.meta_str
  · exact TypeEq.meta_bool
  · exact TypeEq.meta_NoneType
  · exact TypeEq.meta_list
  · exact TypeEq.meta_tuple
  · exact TypeEq.meta_dict
theorem ty_ne {a b : String} (h : a ≠ b) : (Value.type a == Value.type b) = false := beq_eq_false_iff_ne.mpr fun z => h (Value.type.inj z)
def rTyC (g : Bool → Bool) : R2 := fun x y H Q => ∃ a b, x = .ty a ∧ y = .ty b ∧ tyOk a = true ∧ tyOk b = true ∧ Q (.bl (g (decide (a = b)))) H
section
variable {X : Cx}
theorem op_eq_ty : OpR X (compareOp .Eq) (rTyC id) := by
  intro pins s σ H x y v u Q I rx ry h
  obtain ⟨a, b, rfl, rfl, ha, hb, q⟩ := h
  cases (show v = Value.type a from rx)
  cases (show u = Value.type b from ry)
  by_cases e : a = b
  · subst e
    refine TypeEq.eq_type_same (tyOk_is ha) ⟨.bl true, H, I, rfl, ?_⟩
    rw [decide_eq_true rfl] at q
    exact q
  · refine TypeEq.eq_type_other (tyOk_is ha) (tyOk_is hb) (ty_ne e) ⟨.bl false, H, I, rfl, ?_⟩
    rw [decide_eq_false e] at q
    exact q
theorem op_ne_ty : OpR X (compareOp .NotEq) (rTyC not) := by
  intro pins s σ H x y v u Q I rx ry h
  obtain ⟨a, b, rfl, rfl, ha, hb, q⟩ := h
  cases (show v = Value.type a from rx)
  cases (show u = Value.type b from ry)
  by_cases e : a = b
  · subst e
    refine TyNe.ne_type_same (tyOk_is ha) ⟨.bl false, H, I, rfl, ?_⟩
    rw [decide_eq_true rfl] at q
    exact q
  · refine TyNe.ne_type_other (tyOk_is ha) (tyOk_is hb) (ty_ne e) ⟨.bl true, H, I, rfl, ?_⟩
    rw [decide_eq_false e] at q
    exact q
/-- text * n -/
theorem op_mul_str : OpR X (binaryOp .Mult) (fun x y H Q => ∃ z n, x = .str z ∧ y = .int n ∧ MulOk z n ∧ Q (.str (Txt.mul z n)) H) := by
  intro pins s σ H x y v u Q I rx ry h
  obtain ⟨z, n, rfl, rfl, hk, q⟩ := h
  obtain ⟨t, rfl⟩ := rx
  obtain ⟨t', rfl⟩ := ry
  exact SB.mul hk fun t' k => ⟨.str _, H, I.tok _, ⟨_, rfl⟩, q⟩
end
end L2X
namespace Dt
open PySem PySem.Spec PyProof.Rows L2 L2X
open SX (S)
/-- the built-ins that are named in the text -/
structure Tx (mg : Str → Option Value) : Prop where
  len : mg "len" = none
  range : mg "range" = none
  tuple : mg "tuple" = none
  list : mg "list" = none
  int : mg "int" = none
/-! ### rows and pictures -/
def rv (l : List Nat) : V := .str (S l)
structure RowR (wide : Nat) (l : List Nat) : Prop where
  len : l.length = wide
  sg : ∀ c ∈ l, c = 35 ∨ c = 46
structure PicR (high wide : Nat) (rs : List (List Nat)) : Prop where
  len : rs.length = high
  row : ∀ l ∈ rs, RowR wide l
  h0 : 1 ≤ high
  h1 : high ≤ 60
  w0 : 1 ≤ wide
  w1 : wide ≤ 120
theorem s_dot : ("." : Str) = S [46] := by decide +kernel
theorem s_hash : ("#" : Str) = S [35] := by decide +kernel
theorem s_empty : ("" : Str) = S [] := by decide +kernel
/-! ### a sign many times; signs joined -/
theorem fold_rep (c : Nat) : ∀ (n : Nat) (acc : Array Nat), (List.replicate n #[c]).foldl (· ++ ·) acc = acc ++ (List.replicate n c).toArray
  | 0, acc => by simp
  | n + 1, acc => by
    rw [List.replicate_succ, List.foldl_cons, fold_rep c n (acc ++ #[c]), List.replicate_succ]
    apply Array.ext'
    simp
theorem mul_sign (c n : Nat) (h : 1 ≤ n) : Txt.mul (S [c]) (n : Int) = S (List.replicate n c) := by
  unfold Txt.mul
  rw [if_neg (by omega)]
  by_cases e : n = 1
  · subst e
    rfl
  · have e1 : (((n : Int) == 1) || (S [c]).length == 0) = false := by
      have a1 : ((n : Int) == 1) = false := by
        rw [beq_eq_false_iff_ne]
        omega
      rw [a1]
      rfl
    rw [e1, if_neg Bool.false_ne_true]
    have q := fold_rep c n #[]
    show (⟨(List.replicate (n : Int).toNat #[c]).foldl (· ++ ·) #[]⟩ : Str) = _
    rw [Int.toNat_natCast, q]
    simp [S]
theorem mul_ok (c n : Nat) (h : 1 ≤ n) (h2 : n ≤ 120) : MulOk (S [c]) (n : Int) := by
  refine ⟨?_, fun _ _ => ?_, fun _ _ => ?_⟩
  · rw [Bool.or_eq_false_iff, decide_eq_false_iff_not, decide_eq_false_iff_not]
    omega
  · show ¬ ((1 : Nat) : Int) > (2 ^ 63 - 1) / (n : Int)
    have : (1 : Int) ≤ (2 ^ 63 - 1) / (n : Int) := (Int.le_ediv_iff_mul_le (by omega)).mpr (by omega)
    omega
  · have e : (S [c]).length * (n : Int).toNat = n := by
      show 1 * (n : Int).toNat = n
      omega
    rw [e]
    unfold Builtin.Str.tooLong
    have z : n ≤ sizeLine := Nat.le_of_lt (small1000 (by omega))
    first
      | (rw [decide_eq_false_iff_not]; omega)
      | (simp; omega)
theorem joinL_ones : ∀ cs : List Nat, TL.joinL [] (cs.map fun c => [c]) = cs
  | [] => rfl
  | [c] => rfl
  | c :: d :: r => by
    show [c] ++ ([] ++ TL.joinL [] ((d :: r).map fun c => [c])) = _
    rw [joinL_ones (d :: r)]
    rfl
theorem join_ones (cs : List Nat) : Txt.join "" (cs.map fun c => S [c]) = S cs := by
  rw [s_empty]
  have e := SX.join_S [] (cs.map fun c => [c])
  rw [joinL_ones, List.map_map] at e
  exact e
theorem lens_ones : ∀ cs : List Nat, ((cs.map fun c => S [c]).map (·.length)).sum = cs.length
  | [] => rfl
  | c :: r => by
    show 1 + ((r.map fun c => S [c]).map (·.length)).sum = r.length + 1
    rw [lens_ones r, Nat.add_comm]
theorem row_rep (c wide : Nat) (h : c = 35 ∨ c = 46) : RowR wide (List.replicate wide c) := ⟨List.length_replicate, fun x hx => by rw [(List.mem_replicate.mp hx).2]; exact h⟩
end Dt
namespace Dt
open PySem PySem.Spec PyProof.Rows L2 L2X
open SX (S)
/-! ### what is a picture -/
def rowOk : V → Bool
  | .str x => decide (1 ≤ x.length) && decide (x.length ≤ 120) && decide (Txt.count x "#" + Txt.count x "." = (x.length : Int))
  | _ => false
theorem rowOk_str (x : Str) : rowOk (.str x) = (decide (1 ≤ x.length) && decide (x.length ≤ 120) && decide (Txt.count x "#" + Txt.count x "." = (x.length : Int))) := rfl
def lenV : V → Int
  | .str x => x.length
  | _ => 0
def picOk (xs : List V) : Bool := decide (1 ≤ xs.length) && decide (xs.length ≤ 60) && xs.all rowOk && xs.all fun y => decide (lenV y = lenV (xs.headD .non))
/-- a thing of a known kind -/
def Kn (K : PySem.W.Frag) (H : Hp) (x : V) : Prop := (∃ T, TyB K H x T ∧ tyOk T = true) ∧ ∀ z, x = .str z → z.length ≤ sizeLine
structure Tp (mg : Str → Option Value) : Prop where
  typ : mg "type" = none
  str : mg "str" = none
  all : mg "all" = none
  mr : ∃ t, mg "MOST_ROWS" = some (.int 60 t)
  mc : ∃ t, mg "MOST_COLUMNS" = some (.int 120 t)
abbrev sIsText : Stmt := topS 13
theorem scIsText : FnScope ["thing"] ["thing"] (defScope sIsText) := ⟨rfl, rfl, rfl, by decide +kernel, rfl, by decide +kernel, by decide +kernel⟩
def isStr : V → Bool
  | .str _ => true
  | _ => false
def spIsText (K : PySem.W.Frag) : Sp := fun vs H Q _ => ∃ x, vs = [x] ∧ Kn K H x ∧ Q (.bl (isStr x)) H
abbrev sIsRow : Stmt := topS 20
theorem scIsRow : FnScope ["thing"] ["thing"] (defScope sIsRow) := ⟨rfl, rfl, rfl, by decide +kernel, rfl, by decide +kernel, by decide +kernel⟩
def spIsRow (K : PySem.W.Frag) : Sp := fun vs H Q _ => ∃ x, vs = [x] ∧ Kn K H x ∧ Q (.bl (rowOk x)) H
theorem isStr_ty {K : PySem.W.Frag} {H : Hp} {x : V} {T : String} (t : TyB K H x T) : decide (T = "str") = isStr x := by
  cases t <;> rfl
section
variable {P : Program} {w : World} {K : PySem.W.Frag} {mg : Str → Option Value} {base : Heap}
theorem ok_isText {f : Addr} {fd : FuncData} {k : Nat} (F : Fun K "is_text" "is_text" sIsText f fd) (T : Tp mg) : FnOk P w K mg base CX0 (k + 1) f fd ["thing"] (spIsText K) := by
  refine F.ok scIsText (fun vs H Q E h => ?_) (fun cdv A outer s H vs Q E hr h => ?_)
  · obtain ⟨x, rfl, _⟩ := h
    rfl
  · obtain ⟨x, rfl, ⟨⟨Ty, ht, ok⟩, _⟩, q⟩ := h
    refine ⟨_, pss_one (ps_ret (pe_cmpR op_eq_ty (pe_callTy call_type1 (by rfl) T.typ (by decide +kernel) (pa_cons (pv 0) pa_nil)) (pe_bltn (v := .ty "str") (u := .type "str") (by rfl) T.str (by decide +kernel) rfl) (nomark _))), ?_⟩
    refine ⟨x, rfl, x, Ty, rfl, ht, Ty, "str", rfl, rfl, ok, rfl, ?_⟩
    have e : id (decide (Ty = "str")) = isStr x := isStr_ty ht
    rw [e]
    exact q
theorem ok_isRow {f fT : Addr} {fd fdT : FuncData} {k : Nat} (F : Fun K "_is_row" "_is_row" sIsRow f fd) (T : Tp mg) (X : Tx mg) (GT : FnOk P w K mg base CX0 (k + 1) fT fdT ["thing"] (spIsText K)) (mT : mg "is_text" = some (.ref fT)) (kT : PySem.W.keepIn K (.ref fT) = true) (bT : Binds K fdT ["thing"] []) : FnOk P w K mg base CX0 (k + 2) f fd ["thing"] (spIsRow K) := by
  refine F.ok scIsRow (fun vs H Q E h => ?_) (fun cdv A outer s H vs Q E hr h => ?_)
  · obtain ⟨x, rfl, _⟩ := h
    rfl
  · obtain ⟨x, rfl, kn, q⟩ := h
    obtain ⟨t, hmc⟩ := T.mc
    refine ⟨_, pss_cons (ps_if (PW.pt (pw_or (pt_not (pt_val (pe_call GT hr (by rfl) mT kT bT .nil pass0 (pa_cons (pv 0) pa_nil)))) (pw_or1 (pt_not (pt_chain op_le op_le pe_int (pe_callB call_len_str (by rfl) X.len PySem.boot_len (pa_cons (pv 0) pa_nil)) (pe_glob (v := .int 120) (by rfl) hmc ⟨_, rfl⟩))))))
        (pss_one (ps_ret pe_bl)) pss_nil)
      (pss_one (ps_ret (pe_cmpR op_eq (pe_op op_add (pe_m1 PySem.F.slot_str_count PySem.F.type_str_count mt_count (pv 0) pe_str) (pe_m1 PySem.F.slot_str_count PySem.F.type_str_count mt_count (pv 0) pe_str)) (pe_callB call_len_str (by rfl) X.len PySem.boot_len (pa_cons (pv 0) pa_nil)) (nomark _)))), ?_⟩
    refine ⟨x, rfl, x, rfl, kn, _, rfl, ?_⟩
    cases x with
    | str z =>
      have hz := kn.2 z rfl
      refine iteF ?_
      refine ⟨.str z, rfl, z, rfl, hz, 1, _, rfl, rfl, _, rfl, ?_⟩
      refine ite2 (fun e => ?_) (fun e => ?_)
      · refine ⟨_, 120, rfl, rfl, _, rfl, ite2 (fun e2 => ?_) (fun e2 => ?_)⟩
        · have e3 : ¬ z.length ≤ 120 := fun le => by
            have : decide ((z.length : Int) ≤ 120) = true := decide_eq_true (by omega)
            rw [this] at e2
            cases e2
          have e4 : rowOk (.str z) = false := by
            rw [rowOk_str, decide_eq_false e3, Bool.and_false, Bool.false_and]
          rw [e4] at q
          exact q
        · have e3 : z.length ≤ 120 := by
            have h1 : ¬ ((!decide ((z.length : Int) ≤ 120)) = true) := e2
            have h2 : decide ((z.length : Int) ≤ 120) = true := by
              cases hh : decide ((z.length : Int) ≤ 120) with
              | true => rfl
              | false =>
                rw [hh] at h1
                exact absurd rfl h1
            have := of_decide_eq_true h2
            omega
          have e1 : 1 ≤ z.length := by
            have := of_decide_eq_true e
            omega
          refine ⟨.str z, rfl, ⟨_, rfl⟩, z, "#", rfl, rfl, .str z, rfl, ⟨_, rfl⟩, z, ".", rfl, rfl, _, _, rfl, rfl, .str z, rfl, z, rfl, hz, rfl, ?_⟩
          have e4 : rowOk (.str z) = decide (V.int (Txt.count z "#" + Txt.count z ".") = V.int (z.length : Int)) := by
            rw [rowOk_str, decide_eq_true e1, decide_eq_true e3, Bool.true_and, Bool.true_and]
            exact Bool.eq_iff_iff.mpr ⟨fun h => decide_eq_true (congrArg V.int (of_decide_eq_true h)), fun h => decide_eq_true (V.int.inj (of_decide_eq_true h))⟩
          rw [e4] at q
          exact q
      · have e1 : ¬ 1 ≤ z.length := fun le => e (decide_eq_true (by omega))
        have e4 : rowOk (.str z) = false := by
          rw [rowOk_str, decide_eq_false e1, Bool.false_and, Bool.false_and]
        rw [e4] at q
        exact ⟨_, rfl, q⟩
    | _ => exact iteT (iteT q)
/-! ### is_picture -/
abbrev sIsPic : Stmt := topS 19
theorem scIsPic : FnScope ["thing", "row"] ["thing"] (defScope sIsPic) := ⟨rfl, rfl, rfl, by decide +kernel, rfl, by decide +kernel, by decide +kernel⟩
/-- a thing as is_picture may be asked: no tuple, or a tuple whose items are of known kinds -/
def Asked (K : PySem.W.Frag) (H : Hp) (x : V) (b : Bool) : Prop :=
  (∃ T, TyB K H x T ∧ tyOk T = true ∧ T ≠ "tuple" ∧ b = false) ∨ ∃ a xs, x = .ref a ∧ SqT K H a xs ∧ (xs.length ≤ 60 → ∀ y ∈ xs, Kn K H y) ∧ b = picOk xs
def spIsPic (K : PySem.W.Frag) : Sp := fun vs H Q _ => ∃ x b, vs = [x] ∧ Asked K H x b ∧ ∀ H', Same H H' → Q (.bl b) H'
theorem sameT {K : PySem.W.Frag} {H H' : Hp} {a : Addr} {xs : List V} (e : Same H H') (h : SqT K H a xs) : SqT K H' a xs := by
  rcases h with (h | ⟨o, h⟩) | h
  · exact .inl (.inl (e _ _ h))
  · exact .inl (.inr ⟨o, e _ _ h⟩)
  · exact .inr h
theorem Kn.same {H H' : Hp} {x : V} (h : Kn K H x) (s : Same H H') : Kn K H' x := by
  obtain ⟨⟨T, t, ok⟩, hz⟩ := h
  refine ⟨⟨T, ?_, ok⟩, hz⟩
  cases t with
  | non => exact .non
  | bl b => exact .bl b
  | int i => exact .int i
  | str x => exact .str x
  | byt b => exact .byt b
  | lst h => exact .lst (s.seq h)
  | tup h => exact .tup (sameT s h)
  | dK h => exact .dK (s _ _ h)
theorem iteE {c : Bool} {A B : Prop} (e : c = false) (h : B) : if c = true then A else B := by
  rw [e]
  exact iteF h
theorem iteY {c : Bool} {A B : Prop} (e : c = true) (h : A) : if c = true then A else B := by
  rw [e]
  exact iteT h
theorem take_snoc {α : Type} {xs : List α} {i : Nat} {x : α} (h : xs[i]? = some x) : xs.take (i + 1) = xs.take i ++ [x] := by
  rw [List.take_add_one, h]
  rfl
theorem all_map_id {α : Type} (f : α → Bool) : ∀ xs : List α, (xs.map f).all id = xs.all f
  | [] => rfl
  | x :: r => by
    show (id (f x) && (r.map f).all id) = (f x && r.all f)
    rw [all_map_id f r]
    rfl
theorem bls {α : Type} (f : α → Bool) (xs : List α) : xs.map (fun y => V.bl (f y)) = (xs.map f).map V.bl := by
  rw [List.map_map]
  rfl
theorem ok_isPic {f fR : Addr} {fd fdR : FuncData} {k : Nat} (F : Fun K "is_picture" "is_picture" sIsPic f fd) (T : Tp mg) (X : Tx mg) (GR : FnOk P w K mg base CX0 (k + 1) fR fdR ["thing"] (spIsRow K)) (mR : mg "_is_row" = some (.ref fR)) (kR : PySem.W.keepIn K (.ref fR) = true) (bR : Binds K fdR ["thing"] []) : FnOk P w K mg base CX0 (k + 2) f fd ["thing"] (spIsPic K) := by
  refine F.ok scIsPic (fun vs H Q E h => ?_) (fun cdv A outer s H vs Q E hr h => ?_)
  · obtain ⟨x, b, rfl, _⟩ := h
    rfl
  · obtain ⟨x, b, rfl, ask, q⟩ := h
    obtain ⟨t, hmr⟩ := T.mr
    have nd := scIsPic.nd
    refine ⟨_, pss_cons (ps_if (PW.pt (pw_or (pt_cmpR op_ne_ty (pe_callTy call_type1 (by rfl) T.typ (by decide +kernel) (pa_cons (pv 0) pa_nil)) (pe_bltn (v := .ty "tuple") (u := .type "tuple") (by rfl) X.tuple (by decide +kernel) rfl) (nomark _)) (pw_or1 (pt_not (pt_chain op_le op_le pe_int (pe_callB call_len_seq (by rfl) X.len PySem.boot_len (pa_cons (pv 0) pa_nil)) (pe_glob (v := .int 60) (by rfl) hmr ⟨_, rfl⟩))))))
        (pss_one (ps_ret pe_bl)) pss_nil)
      (pss_cons (ps_if (pt_not (pt_val (pe_callB (cr_all rfl) (by rfl) T.all (by decide +kernel) (pa_cons (pe_lc (own := [("row", 1)]) (g := gName 1) (tt := tYes) rfl nd (pi_tup (pv 0)) (blkOk_by (N := ["thing", "row"]) (sc := defScope sIsPic) (by decide +kernel)) (fun _ _ _ _ _ => pg_name (i := 1) nd rfl (Or.inl rfl)) (fun _ _ _ _ _ => pts_nil)
            (fun _ _ _ _ _ => pe_call GR hr (by rfl) mR kR bR .nil pass0 (pa_cons (pv 1) pa_nil))) pa_nil)))) (pss_one (ps_ret pe_bl)) pss_nil)
      (pss_one (ps_ret (pe_callB (cr_all rfl) (by rfl) T.all (by decide +kernel) (pa_cons (pe_lc (own := [("row", 1)]) (g := gName 1) (tt := tYes) rfl nd (pi_tup (pv 0)) (blkOk_by (N := ["thing", "row"]) (sc := defScope sIsPic) (by decide +kernel)) (fun _ _ _ _ _ => pg_name (i := 1) nd rfl (Or.inl rfl)) (fun _ _ _ _ _ => pts_nil)
            (fun _ _ _ _ _ => pe_cmpR op_eq (pe_callB call_len_str (by rfl) X.len PySem.boot_len (pa_cons (pv 1) pa_nil)) (pe_callB call_len_str (by rfl) X.len PySem.boot_len (pa_cons (pe_ix (r := rIxT K) ix_tup (pv 0) pe_int (fun _ _ => rfl)) pa_nil)) (nomark _))) pa_nil))))), ?_⟩
    rcases ask with ⟨Ty, ht, ok, ne, rfl⟩ | ⟨a, xs, rfl, hx, kn, rfl⟩
    · refine ⟨x, rfl, x, Ty, rfl, ht, Ty, "tuple", rfl, rfl, ok, rfl, _, rfl, ?_⟩
      have e : not (decide (Ty = "tuple")) = true := by rw [decide_eq_false ne]; rfl
      exact iteY e (q H (Same.refl H))
    · refine ⟨.ref a, rfl, .ref a, "tuple", rfl, .tup hx, "tuple", "tuple", rfl, rfl, rfl, rfl, _, rfl, iteE (by decide) ?_⟩
      refine ⟨.ref a, rfl, a, xs, rfl, .inr hx, 1, _, rfl, rfl, _, rfl, ite2 (fun e => ?_) (fun e => ?_)⟩
      · have e1 : 1 ≤ xs.length := by
          have := of_decide_eq_true e
          omega
        refine ⟨_, 60, rfl, rfl, _, rfl, ite2 (fun e2 => ?_) (fun e2 => ?_)⟩
        · have e3 : ¬ xs.length ≤ 60 := fun le => by
            have : decide ((xs.length : Int) ≤ 60) = true := decide_eq_true (by omega)
            rw [this] at e2
            cases e2
          have z : picOk xs = false := by
            unfold picOk
            rw [decide_eq_false e3, Bool.and_false, Bool.false_and, Bool.false_and]
          rw [z] at q
          exact q H (Same.refl H)
        · have e3 : xs.length ≤ 60 := by
            have h1 : ¬ ((!decide ((xs.length : Int) ≤ 60)) = true) := e2
            have h2 : decide ((xs.length : Int) ≤ 60) = true := by
              cases hh : decide ((xs.length : Int) ≤ 60) with
              | true => rfl
              | false =>
                rw [hh] at h1
                exact absurd rfl h1
            have := of_decide_eq_true h2
            omega
          have kn' := kn e3
          refine ⟨.ref a, rfl, a, rfl, ⟨_, hx⟩, fun Dd hDd => lc_tup (K := K) (a := a) (xs := xs) (fun i H2 => Same H H2 ∧ H2 Dd = some (.lst ((xs.take i).map fun y => V.bl (rowOk y)))) ⟨same_upd hDd, upd_same⟩ (fun i H2 _ z => sameT z.1 hx) ?_ ?_⟩
          · rintro i y H2 hi ⟨sm, h2⟩
            have hm : y ∈ xs := List.mem_of_getElem? hi
            refine ⟨rfl, y, rfl, y, rfl, (kn' y hm).same sm, _, h2, ?_, ?_, ?_⟩
            · rw [List.length_map, List.length_take]
              exact small1000 (by omega)
            · exact fun b o e => by
                rw [upd_ne (ne_of_none e hDd)]
                exact sm _ _ e
            · rw [upd_same, take_snoc hi, List.map_append]
              rfl
          · rintro H2 ⟨sm, h2⟩
            rw [List.take_length, bls] at h2
            refine ⟨Dd, xs.map rowOk, rfl, SqL.of h2, _, rfl, ?_⟩
            rw [all_map_id]
            cases eall : xs.all rowOk with
            | false =>
              have z : picOk xs = false := by
                unfold picOk
                rw [eall, Bool.and_false, Bool.false_and]
              rw [z] at q
              exact q H2 sm
            | true =>
              have hx2 : SqT K H2 a xs := sameT sm hx
              obtain ⟨x0, r0, rfl⟩ : ∃ x0 r0, xs = x0 :: r0 := by
                cases xs with
                | nil => exact absurd e1 (by decide)
                | cons x0 r0 => exact ⟨x0, r0, rfl⟩
              have isS : ∀ y ∈ x0 :: r0, ∃ z : Str, y = .str z ∧ z.length ≤ sizeLine := fun y hy => by
                have h := List.all_eq_true.mp eall y hy
                cases y with
                | str z => exact ⟨z, rfl, (kn' _ hy).2 z rfl⟩
                | _ => cases h
              obtain ⟨z0, ez0, hz0⟩ := isS x0 List.mem_cons_self
              refine ⟨.ref a, rfl, a, rfl, ⟨_, hx2⟩, fun D2 hD2 => lc_tup (K := K) (a := a) (xs := x0 :: r0) (fun i H3 => Same H2 H3 ∧ H3 D2 = some (.lst (((x0 :: r0).take i).map fun y => V.bl (decide (lenV y = lenV x0))))) ⟨same_upd hD2, upd_same⟩ (fun i H3 _ z => sameT z.1 hx2) ?_ ?_⟩
              · rintro i y H3 hi ⟨sm3, h3⟩
                have hm : y ∈ x0 :: r0 := List.mem_of_getElem? hi
                obtain ⟨zy, ey, hzy⟩ := isS y hm
                refine ⟨rfl, y, rfl, zy, by rw [ey], hzy, .ref a, rfl, a, x0 :: r0, 0, x0, rfl, rfl, sameT sm3 hx2, atI_nat (j := 0) rfl, z0, by rw [ez0], hz0, rfl, _, h3, ?_, ?_, ?_⟩
                · rw [List.length_map, List.length_take]
                  exact small1000 (by omega)
                · exact fun b o e => by
                    rw [upd_ne (ne_of_none e hD2)]
                    exact sm3 _ _ e
                · rw [upd_same, take_snoc hi, List.map_append]
                  have e5 : decide (V.int (zy.length : Int) = V.int (z0.length : Int)) = decide (lenV y = lenV x0) := by
                    rw [ey, ez0]
                    exact Bool.eq_iff_iff.mpr ⟨fun h => decide_eq_true (V.int.inj (of_decide_eq_true h)), fun h => decide_eq_true (congrArg V.int (of_decide_eq_true h))⟩
                  rw [e5]
                  rfl
              · rintro H3 ⟨sm3, h3⟩
                rw [List.take_length, bls] at h3
                refine ⟨D2, _, rfl, SqL.of h3, ?_⟩
                rw [all_map_id]
                have z : picOk (x0 :: r0) = (x0 :: r0).all fun y => decide (lenV y = lenV x0) := by
                  unfold picOk
                  rw [eall, decide_eq_true e1, decide_eq_true e3]
                  rfl
                rw [z] at q
                exact q H3 (sm.trans sm3)
      · have e1 : ¬ 1 ≤ xs.length := fun le => e (decide_eq_true (by omega))
        have z : picOk xs = false := by
          unfold picOk
          rw [decide_eq_false e1, Bool.false_and, Bool.false_and, Bool.false_and]
        rw [z] at q
        exact ⟨_, rfl, q H (Same.refl H)⟩
end
end Dt
namespace Dt
open PySem PySem.Spec PyProof.Rows L2 L2X
open SX (S)
/-! ### refusals -/
/-- the class NoPicture, as the top has made it, at C -/
structure Tn (K : PySem.W.Frag) (mg : Str → Option Value) (C : Addr) : Prop where
  g : mg "NoPicture" = some (.ref C)
  x : PySem.W.excIn K C [.type "ValueError", .type "Exception", .type "BaseException", .type "object"] "ValueError.__new__" = true
  k : PySem.W.keepIn K (.ref C) = true
  b : PySem.W.subIn K (.ref C) (.type "BaseException") = some true
  t : PySem.W.typeIn K (.ref C) = some (.type "type")
abbrev sWant : Stmt := topS 21
theorem scWant : FnScope ["thing"] ["thing"] (defScope sWant) := ⟨rfl, rfl, rfl, by decide +kernel, rfl, by decide +kernel, by decide +kernel⟩
def spWant (K : PySem.W.Frag) (C : Addr) : Sp := fun vs H Q E => ∃ x b, vs = [x] ∧ Asked K H x b ∧ (b = true → ∀ H', Same H H' → Q .non H') ∧ (b = false → ∀ H', Same H H' → E (.ref C) none H')
section
variable {P : Program} {w : World} {K : PySem.W.Frag} {mg : Str → Option Value} {base : Heap} {C : Addr}
theorem ok_want {f fP : Addr} {fd fdP : FuncData} {k : Nat} (F : Fun K "want_picture" "want_picture" sWant f fd) (N : Tn K mg C) (GP : FnOk P w K mg base CX0 (k + 1) fP fdP ["thing"] (spIsPic K)) (mP : mg "is_picture" = some (.ref fP)) (kP : PySem.W.keepIn K (.ref fP) = true) (bP : Binds K fdP ["thing"] []) :
    FnOk P w K mg base (L2.CX P w) (k + 2) f fd ["thing"] (spWant K C) := by
  refine F.okX scWant (fun vs H Q E h => ?_) (fun cdv A outer s H vs Q E hr h => ?_)
  · obtain ⟨x, b, rfl, _⟩ := h
    rfl
  · obtain ⟨x, b, rfl, ask, q1, q2⟩ := h
    refine ⟨_, pss_one (ps_if (pt_not (pt_val (pe_call GP hr (by rfl) mP kP bP .nil pass0 (pa_cons (pv 0) pa_nil)))) (pss_one (ps_raise rfl (takes_of rfl rfl rfl rfl) (pmk_own PySem.F.excBase_ValueError N.x N.g N.k (raises_own N.b N.t) rfl))) pss_nil), ?_⟩
    refine ⟨x, rfl, x, b, rfl, ask, fun H' sm => ⟨_, rfl, ?_⟩⟩
    cases b with
    | true => exact iteF (q1 rfl H' sm)
    | false => exact iteT (q2 rfl H' sm)
end
end Dt
namespace L2X
open PySem PySem.Spec PyProof.Rows L2
section
variable {X : Cx}
/-- a tuple once is itself -/
theorem tuple_mul1 (l : Addr) (items : Array Value) (n : Nat) (dd : Option Addr) (sl : Array (Option Value)) (u : Tok) :
    Meets (Builtin.«tuple.__mul__» ⟨[.ref l, .int 1 u], []⟩) (fun _ R s => s.heap.get? l = some { cls := .type "tuple", dict := dd, data := .seq items n, slots := sl } ∧ R (.ok (.ret (Value.ref l))) s) :=
  .of_wp fun prog w A R s h => by
    obtain ⟨hp, g, d, tk, os⟩ := s
    obtain ⟨hl, h⟩ := h
    have f1 := AutoSeq1.idx_int
    wp_walk using wpAny_loadPart' hl
    exact ⟨_, rfl, h⟩
/-- list(text) -/
theorem vals_signs : ∀ (l : List Nat) (its : List Value), l.length = its.length → (∀ (j : Nat) (v : Value), its[j]? = some v → ∃ (c : Nat) (u : Tok), l[j]? = some c ∧ v = Value.str ⟨#[c]⟩ u) → Vals (l.map fun c => V.str ⟨#[c]⟩) its
  | [], [], _, _ => .nil
  | [], _ :: _, h, _ => by cases h
  | _ :: _, [], h, _ => by cases h
  | c :: r, v :: t, h, g => by
    obtain ⟨c', u, e1, e2⟩ := g 0 v rfl
    have e3 : c = c' := Option.some.inj e1
    subst e3
    refine .cons ⟨u, e2⟩ (vals_signs r t (Nat.succ.inj h) fun j w e => ?_)
    obtain ⟨c2, u2, e4, e5⟩ := g (j + 1) w e
    exact ⟨c2, u2, e4, e5⟩
theorem call_listS (hc : X.calm = true) : CallR X (.type "list") (fun xs H Q => ∃ x : Str, xs = [.str x] ∧ x.length ≤ sizeLine ∧ ∀ l, H l = none → Q (.ref l) (upd H l (.lst (x.cps.toList.map fun c => V.str ⟨#[c]⟩)))) := by
  intro pins s σ H xs us Q I r h
  obtain ⟨x, rfl, hx, q⟩ := h
  obtain ⟨u, rfl, t, rfl⟩ := vals1 r
  refine call_list_str (I.ok.hd hc) x t (fun h' tk acc c' keeps got it => ?_) hx
  have hl : x.cps.toList.length = acc.toList.length := by
    rw [Array.length_toList, Array.length_toList, it.1]
  have vs := vals_signs x.cps.toList acc.toList hl fun j v e => by
    obtain ⟨c, u', e1, e2⟩ := it.2 j v (by rw [← Array.getElem?_toList]; exact e)
    exact ⟨c, u', by rw [Array.getElem?_toList]; exact e1, e2⟩
  refine ⟨.ref s.heap.objs.size, _, I.laid (t' := tk) keeps (Nat.le_refl _) ?_, rfl, q _ (I.hok.fresh (Nat.le_refl _))⟩
  refine ⟨?_, acc.toList, c', vs, ?_⟩
  · rw [List.length_map]
    exact hx
  · rw [got]
/-- t * n, n from 1 on -/
def rRepA (K : PySem.W.Frag) : R2 := fun x y H Q => ∃ l k xs, x = .ref l ∧ y = .int k ∧ SqT K H l xs ∧ xs ≠ [] ∧ 1 ≤ k ∧ k ≤ 1000 ∧ xs.length ≤ 1000 ∧ (k = 1 → Q (.ref l) H) ∧ (2 ≤ k → ∀ p, H p = none → Q (.ref p) (upd H p (.tup (List.replicate k.toNat xs).flatten)))
theorem op_repA : OpR X (binaryOp .Mult) (rRepA X.K) := by
  intro pins s σ H x y v u Q I rx ry h
  obtain ⟨l, k, xs, rfl, rfl, hT, hne, h1, h2, hz, q1, q2⟩ := h
  by_cases e1 : k = 1
  · subst e1
    cases rx
    obtain ⟨t, rfl⟩ := ry
    obtain ⟨its, _, ⟨⟨cls, dd, data, sl⟩, got, hc, n, hd⟩, _⟩ := I.tuple hT
    simp only at hc hd
    subst hc hd
    have once := tuple_mul1 l its.toArray n dd sl t
    have back := int_rmul_tuple 1 t l its.toArray n dd sl
    refine wpAny_binaryOp_repeat_ref (T := "tuple") (U := "int") (by decide) ⟨_, got, rfl⟩ (fun s' => typeIs_int s' 1 t)
      noFill_tuple_mul F.fills_int_mul F.slot_int_rmul repeat_tuple F.slot_int_index.lookup ?_
    refine call_meets F.slot_int_rmul (typeIs_int s 1 t) F.entry_int_rmul (F.args_int_rmul_2 _ _) back ⟨got, rfl, ⟨_, got, rfl⟩, ?_⟩
    refine call_meets F.slot_tuple_mul ⟨_, got, rfl⟩ F.entry_tuple_mul (F.args_tuple_mul_2 _ _) once ⟨got, ?_⟩
    exact ⟨.ref l, H, I, rfl, q1 rfl⟩
  · exact op_repT pins s σ H _ _ v u Q I rx ry ⟨l, k, xs, rfl, rfl, hT, hne, by omega, h2, hz, q2 (by omega)⟩
end
end L2X
namespace Dt
open PySem PySem.Spec PyProof.Rows L2 L2X
open SX (S)
/-! ### rows and pictures by their signs -/
theorem cnt_two : ∀ l : List Nat, cnt 35 l + cnt 46 l ≤ l.length ∧ (cnt 35 l + cnt 46 l = l.length ↔ ∀ c ∈ l, c = 35 ∨ c = 46)
  | [] => ⟨by rw [cnt_nil, cnt_nil]; exact Int.le_refl _, by rw [cnt_nil, cnt_nil]; exact ⟨fun _ _ h => (List.not_mem_nil h).elim, fun _ => rfl⟩⟩
  | n :: r => by
    obtain ⟨h1, h2⟩ := cnt_two r
    rw [cnt_cons, cnt_cons, List.length_cons]
    have e : ∀ c ∈ n :: r, (c = 35 ∨ c = 46) ↔ True ∧ (c = 35 ∨ c = 46) := fun c _ => by simp
    by_cases a : n = 35
    · subst a
      rw [if_pos rfl, if_neg (by decide)]
      refine ⟨by omega, ⟨fun z => ?_, fun z => ?_⟩⟩
      · have z2 := h2.mp (by omega)
        intro c hc
        rcases List.mem_cons.mp hc with q | q
        · exact .inl q
        · exact z2 c q
      · have := h2.mpr fun c hc => z c (List.mem_cons_of_mem _ hc)
        omega
    · by_cases b : n = 46
      · subst b
        rw [if_neg (by decide), if_pos rfl]
        refine ⟨by omega, ⟨fun z => ?_, fun z => ?_⟩⟩
        · have z2 := h2.mp (by omega)
          intro c hc
          rcases List.mem_cons.mp hc with q | q
          · exact .inr q
          · exact z2 c q
        · have := h2.mpr fun c hc => z c (List.mem_cons_of_mem _ hc)
          omega
      · rw [if_neg a, if_neg b]
        refine ⟨by omega, ⟨fun z => by omega, fun z => ?_⟩⟩
        rcases z n List.mem_cons_self with q | q
        · exact absurd q a
        · exact absurd q b
theorem rowOk_S (l : List Nat) : rowOk (.str (S l)) = (decide (1 ≤ l.length) && decide (l.length ≤ 120) && decide (∀ c ∈ l, c = 35 ∨ c = 46)) := by
  have e : decide (Txt.count (S l) "#" + Txt.count (S l) "." = ((S l).length : Int)) = decide (∀ c ∈ l, c = 35 ∨ c = 46) := by
    rw [s_hash, s_dot, count_cnt, count_cnt, SX.S_len]
    exact Bool.eq_iff_iff.mpr ⟨fun h => decide_eq_true ((cnt_two l).2.mp (of_decide_eq_true h)), fun h => decide_eq_true ((cnt_two l).2.mpr (of_decide_eq_true h))⟩
  rw [rowOk_str, e, SX.S_len]
theorem rowOk_rv {wide : Nat} {l : List Nat} (h : RowR wide l) (w0 : 1 ≤ wide) (w1 : wide ≤ 120) : rowOk (rv l) = true := by
  unfold rv
  rw [rowOk_S, h.len, decide_eq_true w0, decide_eq_true w1, decide_eq_true h.sg]
  rfl
theorem rowOk_bad {l : List Nat} {c : Nat} (hc : c ∈ l) (h1 : c ≠ 35) (h2 : c ≠ 46) : rowOk (.str (S l)) = false := by
  rw [rowOk_S, decide_eq_false (p := ∀ c ∈ l, c = 35 ∨ c = 46), Bool.and_false]
  intro z
  rcases z c hc with q | q
  · exact h1 q
  · exact h2 q
theorem rowOk_len {l : List Nat} (h : l.length = 0 ∨ 120 < l.length) : rowOk (.str (S l)) = false := by
  rw [rowOk_S]
  rcases h with h | h
  · rw [decide_eq_false (by omega : ¬ 1 ≤ l.length)]
    rfl
  · rw [decide_eq_false (by omega : ¬ l.length ≤ 120), Bool.and_false, Bool.false_and]
theorem lenV_S (l : List Nat) : lenV (.str (S l)) = (l.length : Int) := by
  show ((S l).length : Int) = _
  rw [SX.S_len]
theorem picOk_pic {high wide : Nat} {rs : List (List Nat)} (h : PicR high wide rs) : picOk (rs.map rv) = true := by
  unfold picOk
  have a1 : decide (1 ≤ (rs.map rv).length) = true := decide_eq_true (by rw [List.length_map, h.len]; exact h.h0)
  have a2 : decide ((rs.map rv).length ≤ 60) = true := decide_eq_true (by rw [List.length_map, h.len]; exact h.h1)
  have a3 : (rs.map rv).all rowOk = true := List.all_eq_true.mpr fun y hy => by
    obtain ⟨l, hl, rfl⟩ := List.mem_map.mp hy
    exact rowOk_rv (h.row l hl) h.w0 h.w1
  have len : ∀ y ∈ rs.map rv, lenV y = (wide : Int) := fun y hy => by
    obtain ⟨l, hl, rfl⟩ := List.mem_map.mp hy
    unfold rv
    rw [lenV_S, (h.row l hl).len]
  have a4 : ((rs.map rv).all fun y => decide (lenV y = lenV ((rs.map rv).headD .non))) = true := List.all_eq_true.mpr fun y hy => by
    refine decide_eq_true ?_
    rw [len y hy]
    cases e : rs.map rv with
    | nil =>
      rw [e] at hy
      cases hy
    | cons x r =>
      have z := len x (by rw [e]; exact List.mem_cons_self)
      exact z.symm
  rw [a1, a2, a3, a4]
  rfl
/-- one row put in the place of another: no picture -/
theorem picOk_odd {high wide r : Nat} {rs : List (List Nat)} {one : V} (h : PicR high wide rs) (hr : r < high) (b : rowOk one = false ∨ (2 ≤ high ∧ lenV one ≠ (wide : Int))) :
    picOk ((rs.map rv).take r ++ [one] ++ (rs.map rv).drop (r + 1)) = false := by
  cases e : picOk ((rs.map rv).take r ++ [one] ++ (rs.map rv).drop (r + 1)) with
  | false => rfl
  | true =>
    exfalso
    unfold picOk at e
    rw [Bool.and_eq_true, Bool.and_eq_true, Bool.and_eq_true] at e
    obtain ⟨⟨⟨_, _⟩, e3⟩, e4⟩ := e
    have m1 : one ∈ (rs.map rv).take r ++ [one] ++ (rs.map rv).drop (r + 1) := by simp
    rcases b with b | ⟨b1, b2⟩
    · have z := List.all_eq_true.mp e3 one m1
      rw [b] at z
      cases z
    · have len : ∀ y ∈ rs.map rv, lenV y = (wide : Int) := fun y hy => by
        obtain ⟨l, hl, rfl⟩ := List.mem_map.mp hy
        unfold rv
        rw [lenV_S, (h.row l hl).len]
      obtain ⟨y, m2, hy⟩ : ∃ y, y ∈ (rs.map rv).take r ++ [one] ++ (rs.map rv).drop (r + 1) ∧ y ∈ rs.map rv := by
        have hl : (rs.map rv).length = high := by rw [List.length_map, h.len]
        by_cases hr0 : r = 0
        · subst hr0
          have : 1 < (rs.map rv).length := by omega
          refine ⟨(rs.map rv)[1], ?_, List.getElem_mem _⟩
          refine List.mem_append_right _ ?_
          exact List.mem_of_getElem? (i := 0) (by rw [List.getElem?_drop, List.getElem?_eq_getElem this])
        · have : 0 < (rs.map rv).length := by omega
          refine ⟨(rs.map rv)[0], ?_, List.getElem_mem _⟩
          refine List.mem_append_left _ (List.mem_append_left _ ?_)
          exact List.mem_of_getElem? (i := 0) (by rw [List.getElem?_take, if_pos (by omega), List.getElem?_eq_getElem this])
      have z1 := of_decide_eq_true (List.all_eq_true.mp e4 one m1)
      have z2 := of_decide_eq_true (List.all_eq_true.mp e4 y m2)
      exact b2 (z1.trans (z2.symm.trans (len y hy)))
end Dt
namespace Dt
open PySem PySem.Spec PyProof.Rows L2 L2X
open SX (S)
theorem pss_never {X : Cx} {st : List Stmt} : PSs X st (fun _ _ _ => False) := ⟨fun _ _ _ _ _ _ h => h.elim⟩
theorem pg_never {X : Cx} {tg : Expr} : PG X tg (fun _ _ _ _ => False) := ⟨fun _ _ _ _ _ _ _ _ _ h => h.elim⟩
abbrev sSize : Stmt := topS 22
theorem scSize : FnScope ["picture"] ["picture"] (defScope sSize) := ⟨rfl, rfl, rfl, by decide +kernel, rfl, by decide +kernel, by decide +kernel⟩
/-- size of a picture, or of what is none -/
def spSize (K : PySem.W.Frag) (C : Addr) : Sp := fun vs H Q E => ∃ x, vs = [x] ∧ ((Asked K H x false ∧ ∀ H', Same H H' → E (.ref C) none H') ∨
  ∃ a xs, x = .ref a ∧ SqT K H a xs ∧ (∀ y ∈ xs, Kn K H y) ∧ picOk xs = true ∧ ∀ p H', Same H H' → H p = none → H' p = some (.tup [.int (xs.length : Int), .int (lenV (xs.headD .non))]) → Q (.ref p) H')
theorem Asked.same {K : PySem.W.Frag} {H H' : Hp} {x : V} {b : Bool} (h : Asked K H x b) (s : Same H H') : Asked K H' x b := by
  rcases h with ⟨T, t, ok, ne, e⟩ | ⟨a, xs, e, h1, h2, e2⟩
  · refine .inl ⟨T, ?_, ok, ne, e⟩
    cases t with
    | non => exact .non
    | bl b => exact .bl b
    | int i => exact .int i
    | str x => exact .str x
    | byt b => exact .byt b
    | lst h => exact .lst (s.seq h)
    | tup h => exact .tup (sameT s h)
    | dK h => exact .dK (s _ _ h)
  · exact .inr ⟨a, xs, e, sameT s h1, fun l y hy => (h2 l y hy).same s, e2⟩
section
variable {P : Program} {w : World} {K : PySem.W.Frag} {mg : Str → Option Value} {base : Heap} {C : Addr}
/-- want_picture, and whoever calls it first -/
structure GW (P : Program) (w : World) (K : PySem.W.Frag) (mg : Str → Option Value) (base : Heap) (C : Addr) (k : Nat) : Prop where
  ex : ∃ f fd, FnOk P w K mg base (L2.CX P w) k f fd ["thing"] (spWant K C) ∧ mg "want_picture" = some (.ref f) ∧ PySem.W.keepIn K (.ref f) = true ∧ Binds K fd ["thing"] []
structure GS (P : Program) (w : World) (K : PySem.W.Frag) (mg : Str → Option Value) (base : Heap) (C : Addr) (k : Nat) : Prop where
  ex : ∃ f fd, FnOk P w K mg base (L2.CX P w) k f fd ["picture"] (spSize K C) ∧ mg "size" = some (.ref f) ∧ PySem.W.keepIn K (.ref f) = true ∧ Binds K fd ["picture"] []
theorem ok_size {f : Addr} {fd : FuncData} {k : Nat} (F : Fun K "size" "size" sSize f fd) (X : Tx mg) (G : GW P w K mg base C (k + 1)) : FnOk P w K mg base (L2.CX P w) (k + 2) f fd ["picture"] (spSize K C) := by
  obtain ⟨fW, fdW, GW, mW, kW, bW⟩ := G.ex
  refine F.okX scSize (fun vs H Q E h => ?_) (fun cdv A outer s H vs Q E hr h => ?_)
  · obtain ⟨x, rfl, _⟩ := h
    rfl
  · obtain ⟨x, rfl, h⟩ := h
    refine ⟨_, pss_cons (ps_expr (pe_callS GW hr (by rfl) mW kW bW (fun σ => passAt (takes_of rfl rfl rfl rfl) σ) (pa_cons (pv 0) pa_nil)))
      (pss_one (ps_ret (pe_tup (pa_cons (pe_callB call_len_seq (by rfl) X.len PySem.boot_len (pa_cons (pv 0) pa_nil)) (pa_cons (pe_callB call_len_str (by rfl) X.len PySem.boot_len (pa_cons (pe_ix (r := rIxT K) ix_tup (pv 0) pe_int (fun _ _ => rfl)) pa_nil)) pa_nil))))), ?_⟩
    rcases h with ⟨ask, q⟩ | ⟨a, xs, rfl, hx, kn, ok, q⟩
    · exact ⟨x, rfl, x, false, rfl, ask, (fun e => nomatch e), fun _ H' sm => q H' sm⟩
    · refine ⟨.ref a, rfl, .ref a, true, rfl, .inr ⟨a, xs, rfl, hx, fun _ => kn, ok.symm⟩, fun _ H' sm => ?_, fun e => nomatch e⟩
      have hx' := sameT sm hx
      unfold picOk at ok
      rw [Bool.and_eq_true, Bool.and_eq_true, Bool.and_eq_true] at ok
      obtain ⟨⟨⟨o1, o2⟩, o3⟩, o4⟩ := ok
      cases xs with
      | nil => exact absurd (of_decide_eq_true o1) (by decide)
      | cons x0 r =>
        have hk := List.all_eq_true.mp o3 x0 List.mem_cons_self
        cases x0 with
        | str z =>
          have hz := (kn _ List.mem_cons_self).2 z rfl
          refine ⟨.ref a, rfl, a, _, rfl, .inr hx', .ref a, rfl, a, _, 0, .str z, rfl, rfl, hx', atI_nat (j := 0) rfl, z, rfl, hz, by show 2 ≤ sizeLine; decide, fun p hp => ?_⟩
          exact q p _ (sm.trans (same_upd hp)) (sm.free hp) upd_same
        | _ => cases hk
end
theorem upd_at2 {H : Hp} {p : Addr} {o : HO} : (upd H p o) p = some o := upd_same
theorem kn_str2 {K : PySem.W.Frag} {H : Hp} {z : Str} (h : z.length ≤ sizeLine) : Kn K H (.str z) := ⟨⟨"str", .str z, rfl⟩, fun y e => by cases e; exact h⟩
theorem kn_rows {K : PySem.W.Frag} {H : Hp} {high wide : Nat} {rs : List (List Nat)} (h : PicR high wide rs) : ∀ y ∈ rs.map rv, Kn K H y := by
  intro y hy
  obtain ⟨x, hx, rfl⟩ := List.mem_map.mp hy
  refine kn_str2 ?_
  show x.length ≤ sizeLine
  have := (h.row x hx).len
  have := h.w1
  exact Nat.le_of_lt (small1000 (by omega))
theorem askPic {K : PySem.W.Frag} {H : Hp} {high wide : Nat} {rs : List (List Nat)} {a : Addr} (h : PicR high wide rs) (e : H a = some (.tup (rs.map rv))) : Asked K H (.ref a) true :=
  .inr ⟨a, _, rfl, SqT.of e, fun _ => kn_rows h, (picOk_pic h).symm⟩
theorem picSize {high wide : Nat} {rs : List (List Nat)} (h : PicR high wide rs) : (((rs.map rv).length : Nat) : Int) = (high : Int) ∧ lenV ((rs.map rv).headD .non) = (wide : Int) := by
  refine ⟨by rw [List.length_map, h.len], ?_⟩
  cases rs with
  | nil =>
    have h1 := h.len
    have h2 := h.h0
    simp at h1
    omega
  | cons l r =>
    have e := (h.row l List.mem_cons_self).len
    show lenV (rv l) = _
    unfold rv
    rw [lenV_S, e]
end Dt
namespace L2X
open PySem PySem.Spec PyProof.Rows L2
theorem eqAt_ty {A : Around} {s : Shared} {a b : String} (ha : tyOk a = true) (hb : tyOk b = true) : SeqAt.EqAt A s (.type a) (.type b) (decide (a = b)) := fun prog w E Q h => by
  unfold eqBool
  refine wpAny_holding ?_
  by_cases e : a = b
  · subst e
    rw [decide_eq_true rfl] at h
    refine wpAny_ite_split (fun _ => ?_) (fun n => absurd (beq_self_eq_true _) n)
    exact wpAny_pure (M := model prog w) (E := E) h
  · rw [decide_eq_false e] at h
    refine wpAny_ite_split (fun q => ?_) (fun _ => ?_)
    · rw [ty_ne e] at q
      cases q
    · have z : wpAny (model prog w) A (compareOp .Eq (.type a) (.type b)) (fun v s' => v = .bool false ∧ s' = s) E s := TypeEq.eq_type_other (tyOk_is ha) (tyOk_is hb) (ty_ne e) ⟨rfl, rfl⟩
      exact wpAny_bind (wpAny_mono z (fun v s' q => by
        obtain ⟨rfl, rfl⟩ := q
        exact wpAny_truthy_bool h) fun _ _ x => x)
def tyIs (a : String) : Value → Bool
  | .type T => decide (T = a)
  | _ => false
def rInTy (K : PySem.W.Frag) : R2 := fun x y H Q => ∃ (a : String) (p : Addr) (ts : List String), x = .ty a ∧ y = .ref p ∧ SqT K H p (ts.map V.ty) ∧ tyOk a = true ∧ ts.all tyOk = true ∧ Q (.bl (ts.any fun t => decide (t = a))) H
theorem vals_tys : ∀ {ts : List String} {us : List Value}, Vals (ts.map V.ty) us → us = ts.map Value.type
  | [], _, .nil => rfl
  | t :: ts, _, .cons r rr => by
    cases (show _ = Value.type t from r)
    rw [vals_tys rr]
    rfl
theorem op_in_ty {X : Cx} : OpR X (compareOp .In) (rInTy X.K) := by
  intro pins s σ H x y v u Q I rx ry h
  obtain ⟨a, p, ts, rfl, rfl, hq, ha, hts, q⟩ := h
  cases ry
  cases (show v = Value.type a from rx)
  obtain ⟨its, r, pl, hz⟩ := I.tuple hq
  have e := vals_tys r
  subst e
  refine SeqAt.in_tupleAt (tyIs a) pl (fun w hw => ?_) ⟨.bl _, H, I, rfl, ?_⟩
  · obtain ⟨t, ht, rfl⟩ : ∃ t, t ∈ ts ∧ w = Value.type t := by
      obtain ⟨t, ht, e⟩ := List.mem_map.mp (show w ∈ ts.map Value.type by simpa using hw)
      exact ⟨t, ht, e.symm⟩
    exact eqAt_ty (List.all_eq_true.mp hts t ht) ha
  · have e : (ts.map Value.type).toArray.any (tyIs a) = ts.any fun t => decide (t = a) := by
      simp [List.any_map]
      rfl
    rw [e]
    exact q
end L2X
namespace Dt
open PySem PySem.Spec PyProof.Rows L2 L2X
/-! ### kinds -/
def isInt : V → Bool
  | .int _ => true
  | _ => false
theorem isInt_ty {K : PySem.W.Frag} {H : Hp} {x : V} {T : String} (t : TyB K H x T) : decide (T = "int") = isInt x := by
  cases t <;> rfl
def betw : V → Int → Int → Bool
  | .int i, lo, hi => decide (lo ≤ i) && decide (i ≤ hi)
  | _, _, _ => false
theorem betw_int (i lo hi : Int) : betw (.int i) lo hi = (decide (lo ≤ i) && decide (i ≤ hi)) := rfl
theorem betw_no {x : V} {lo hi : Int} (h : isInt x = false) : betw x lo hi = false := by
  cases x with
  | int i => cases h
  | _ => rfl
/-- a thing of a known kind -/
def Kt (K : PySem.W.Frag) (H : Hp) (x : V) : Prop := ∃ T, TyB K H x T ∧ tyOk T = true
abbrev sIsNum : Stmt := topS 11
theorem scIsNum : FnScope ["thing"] ["thing"] (defScope sIsNum) := ⟨rfl, rfl, rfl, by decide +kernel, rfl, by decide +kernel, by decide +kernel⟩
def spIsNum (K : PySem.W.Frag) : Sp := fun vs H Q _ => ∃ x, vs = [x] ∧ Kt K H x ∧ Q (.bl (isInt x)) H
abbrev sBetw : Stmt := topS 12
theorem scBetw : FnScope ["thing", "least", "most"] ["thing", "least", "most"] (defScope sBetw) := ⟨rfl, rfl, rfl, by decide +kernel, rfl, by decide +kernel, by decide +kernel⟩
def spBetw (K : PySem.W.Frag) : Sp := fun vs H Q _ => ∃ x lo hi, vs = [x, .int lo, .int hi] ∧ Kt K H x ∧ Q (.bl (betw x lo hi)) H
abbrev sIsList : Stmt := topS 14
theorem scIsList : FnScope ["thing"] ["thing"] (defScope sIsList) := ⟨rfl, rfl, rfl, by decide +kernel, rfl, by decide +kernel, by decide +kernel⟩
def spIsList (K : PySem.W.Frag) : Sp := fun vs H Q _ => ∃ x T, vs = [x] ∧ TyB K H x T ∧ tyOk T = true ∧ ∀ H', Same H H' → Q (.bl (decide ("list" = T) || decide ("tuple" = T))) H'
section
variable {P : Program} {w : World} {K : PySem.W.Frag} {mg : Str → Option Value} {base : Heap}
theorem ok_isNum {f : Addr} {fd : FuncData} {k : Nat} (F : Fun K "is_number" "is_number" sIsNum f fd) (T : Tp mg) (X : Tx mg) : FnOk P w K mg base CX0 (k + 1) f fd ["thing"] (spIsNum K) := by
  refine F.ok scIsNum (fun vs H Q E h => ?_) (fun cdv A outer s H vs Q E hr h => ?_)
  · obtain ⟨x, rfl, _⟩ := h
    rfl
  · obtain ⟨x, rfl, ⟨Ty, ht, ok⟩, q⟩ := h
    refine ⟨_, pss_one (ps_ret (pe_cmpR op_eq_ty (pe_callTy call_type1 (by rfl) T.typ (by decide +kernel) (pa_cons (pv 0) pa_nil)) (pe_bltn (v := .ty "int") (u := .type "int") (by rfl) X.int (by decide +kernel) rfl) (nomark _))), ?_⟩
    refine ⟨x, rfl, x, Ty, rfl, ht, Ty, "int", rfl, rfl, ok, rfl, ?_⟩
    have e : id (decide (Ty = "int")) = isInt x := isInt_ty ht
    rw [e]
    exact q
theorem ok_betw {f fN : Addr} {fd fdN : FuncData} {k : Nat} (F : Fun K "is_between" "is_between" sBetw f fd) (GN : FnOk P w K mg base CX0 (k + 1) fN fdN ["thing"] (spIsNum K)) (mN : mg "is_number" = some (.ref fN)) (kN : PySem.W.keepIn K (.ref fN) = true) (bN : Binds K fdN ["thing"] []) : FnOk P w K mg base CX0 (k + 2) f fd ["thing", "least", "most"] (spBetw K) := by
  refine F.ok scBetw (fun vs H Q E h => ?_) (fun cdv A outer s H vs Q E hr h => ?_)
  · obtain ⟨x, lo, hi, rfl, _⟩ := h
    rfl
  · obtain ⟨x, lo, hi, rfl, kt, q⟩ := h
    refine ⟨_, pss_one (ps_ret (pe_and (pe_call GN hr (by rfl) mN kN bN .nil pass0 (pa_cons (pv 0) pa_nil)) (pe_one (pe_chain op_le op_le (pv 1) (pv 0) (pv 2))))), ?_⟩
    refine ⟨x, rfl, x, rfl, kt, _, rfl, ?_⟩
    cases x with
    | int i =>
      refine iteT ⟨.int lo, rfl, .int i, rfl, lo, i, rfl, rfl, _, rfl, ite2 (fun e => ?_) (fun e => ?_)⟩
      · refine ⟨.int hi, rfl, i, hi, rfl, rfl, ?_⟩
        rw [betw_int, e, Bool.true_and] at q
        exact q
      · rw [betw_int, Bool.eq_false_iff.mpr e, Bool.false_and] at q
        exact q
    | _ => exact iteF q
theorem ok_isList {f : Addr} {fd : FuncData} {k : Nat} (F : Fun K "is_list" "is_list" sIsList f fd) (T : Tp mg) (X : Tx mg) : FnOk P w K mg base CX0 (k + 1) f fd ["thing"] (spIsList K) := by
  refine F.ok scIsList (fun vs H Q E h => ?_) (fun cdv A outer s H vs Q E hr h => ?_)
  · obtain ⟨x, Ty, rfl, _⟩ := h
    rfl
  · obtain ⟨x, Ty, rfl, ht, ok, q⟩ := h
    refine ⟨_, pss_one (ps_ret (pe_cmpR op_in_ty (pe_callTy call_type1 (by rfl) T.typ (by decide +kernel) (pa_cons (pv 0) pa_nil)) (pe_tup (pa_cons (pe_bltn (v := .ty "list") (u := .type "list") (by rfl) X.list (by decide +kernel) rfl) (pa_cons (pe_bltn (v := .ty "tuple") (u := .type "tuple") (by rfl) X.tuple (by decide +kernel) rfl) pa_nil))) (by with_unfolding_all rfl))), ?_⟩
    refine ⟨x, rfl, x, Ty, rfl, ht, by show 2 ≤ sizeLine; decide, fun p hp => ⟨Ty, p, ["list", "tuple"], rfl, rfl, SqT.of upd_same, ok, rfl, ?_⟩⟩
    have e : (["list", "tuple"].any fun t => decide (t = Ty)) = (decide ("list" = Ty) || decide ("tuple" = Ty)) := by simp
    rw [e]
    exact q _ (same_upd hp)
end
/-! ### is_tuple -/
abbrev sIsTup : Stmt := topS 15
theorem scIsTup : FnScope ["thing", "many"] ["thing", "many"] (defScope sIsTup) := ⟨rfl, rfl, rfl, by decide +kernel, rfl, by decide +kernel, by decide +kernel⟩
def spIsTup (K : PySem.W.Frag) : Sp := fun vs H Q _ => ∃ x n, vs = [x, .int n] ∧ ((∃ T, TyB K H x T ∧ tyOk T = true ∧ T ≠ "tuple" ∧ Q (.bl false) H) ∨ ∃ a xs, x = .ref a ∧ SqT K H a xs ∧ Q (.bl (decide ((xs.length : Int) = n))) H)
section
variable {P : Program} {w : World} {K : PySem.W.Frag} {mg : Str → Option Value} {base : Heap}
theorem ok_isTup {f : Addr} {fd : FuncData} {k : Nat} (F : Fun K "is_tuple" "is_tuple" sIsTup f fd) (T : Tp mg) (X : Tx mg) : FnOk P w K mg base CX0 (k + 1) f fd ["thing", "many"] (spIsTup K) := by
  refine F.ok scIsTup (fun vs H Q E h => ?_) (fun cdv A outer s H vs Q E hr h => ?_)
  · obtain ⟨x, n, rfl, _⟩ := h
    rfl
  · obtain ⟨x, n, rfl, h⟩ := h
    refine ⟨_, pss_one (ps_ret (pe_and (pe_cmpR op_eq_ty (pe_callTy call_type1 (by rfl) T.typ (by decide +kernel) (pa_cons (pv 0) pa_nil)) (pe_bltn (v := .ty "tuple") (u := .type "tuple") (by rfl) X.tuple (by decide +kernel) rfl) (nomark _)) (pe_one (pe_cmpR op_eq (pe_callB call_len_seq (by rfl) X.len PySem.boot_len (pa_cons (pv 0) pa_nil)) (pv 1) (nomark _))))), ?_⟩
    rcases h with ⟨Ty, ht, ok, ne, q⟩ | ⟨a, xs, rfl, hx, q⟩
    · refine ⟨x, rfl, x, Ty, rfl, ht, Ty, "tuple", rfl, rfl, ok, rfl, _, rfl, iteE (decide_eq_false ne) q⟩
    · refine ⟨.ref a, rfl, .ref a, "tuple", rfl, .tup hx, "tuple", "tuple", rfl, rfl, rfl, rfl, _, rfl, iteY (by decide) ?_⟩
      refine ⟨.ref a, rfl, a, xs, rfl, .inr hx, .int n, rfl, rfl, ?_⟩
      have e : decide (V.int (xs.length : Int) = V.int n) = decide ((xs.length : Int) = n) := Bool.eq_iff_iff.mpr ⟨fun h => decide_eq_true (V.int.inj (of_decide_eq_true h)), fun h => decide_eq_true (congrArg V.int (of_decide_eq_true h))⟩
      rw [e]
      exact q
end
end Dt
/-! zip of two and enumerate, over any of a list, a tuple, a text -/
namespace L2X
open PySem PySem.Spec PyProof.Rows L2
inductive Src
  | lst (a : Addr)
  | tup (a : Addr)
  | txt (z : Str)
def chars (z : Str) : List V := z.cps.toList.map fun c => V.str ⟨#[c]⟩
/-- what stands in it -/
def Src.has (K : PySem.W.Frag) (H : Hp) : Src → List V → Prop
  | .lst a, xs => SqL K H a xs
  | .tup a, xs => SqT K H a xs
  | .txt z, xs => xs = chars z
def Src.val : Src → V
  | .lst a => .ref a
  | .tup a => .ref a
  | .txt z => .str z
/-- its iterator at its i-th item -/
def Src.it (it : Addr) (i : Nat) (h : Heap) : Src → Prop
  | .lst a => h.IsListIter it a i
  | .tup a => h.IsTupleIter it a i
  | .txt z => ∃ t, h.IsStrIter it (strIterType z) z t i
def Src.off (c : Addr) : Src → Prop
  | .lst a => a ≠ c
  | .tup a => a ≠ c
  | .txt _ => True
theorem Src.it_obj {S : Src} {it : Addr} {i : Nat} {h : Heap} (e : S.it it i h) : ∃ o, h.get? it = some o ∧ ∀ v, o.data ≠ .cell v := by
  cases S with
  | lst a =>
    obtain ⟨o, e1, _, d⟩ := e
    exact ⟨o, e1, fun v q => by rw [d] at q; cases q⟩
  | tup a =>
    obtain ⟨o, e1, _, d⟩ := e
    exact ⟨o, e1, fun v q => by rw [d] at q; cases q⟩
  | txt z =>
    obtain ⟨t, o, e1, _, d⟩ := e
    exact ⟨o, e1, fun v q => by rw [d] at q; cases q⟩
theorem Src.it_at {S : Src} {it : Addr} {i : Nat} {h h' : Heap} (e : S.it it i h) (k : ∀ o, h.get? it = some o → h'.get? it = some o) : S.it it i h' := by
  cases S with
  | lst a => exact Heap.IsListIter.at e k
  | tup a => exact Heap.IsTupleIter.at e k
  | txt z =>
    obtain ⟨t, o, e1, e2, d⟩ := e
    exact ⟨t, o, k _ e1, e2, d⟩
section
variable {X : Cx} {pins : List (Addr × Obj)} {σ : L2.St} {H : Hp} {s : Shared}
theorem Src.inj {S : Src} {xs ys : List V} (I : Inv X pins σ H s) (h : S.has X.K H xs) (h' : S.has X.K H ys) : xs = ys := by
  cases S with
  | lst a => exact I.list_inj h h'
  | tup a => exact I.tuple_inj h h'
  | txt z => exact Eq.trans h (Eq.symm h')
/-- what its iterator draws, now -/
theorem Src.draws {S : Src} {xs : List V} {it : Addr} {i : Nat} {A : Around} (I : Inv X pins σ H s) (hh : A.handled = none) (h : S.has X.K H xs) (st : S.it it i s.heap) (off : S.off it) :
    ∃ (fp : List Addr) (P : Nat → Value → Prop) (St : Nat → Heap → Prop), Draws X.prog X.w A it fp xs.length P St ∧ St i s.heap ∧ it ∈ fp ∧ (∀ c, c ≠ it → S.off c → c ∉ fp) ∧ (∀ j v, P j v → ∃ x, xs[j]? = some x ∧ RelV x v) ∧ (∀ j h, St j h → S.it it j h) := by
  cases S with
  | lst a =>
    obtain ⟨its, rv, p, _⟩ := I.list h
    have el : its.toArray.size = xs.length := by rw [rv.length]; simp
    rw [← el]
    refine ⟨[it, a], _, _, Draws.list hh it a off its.toArray, ⟨st, p.isList⟩, by simp, fun c hc ho hm => ?_, fun j v hv => ?_, fun j h e => e.1⟩
    · have e' : c = it ∨ c = a := by simpa using hm
      rcases e' with e' | e'
      · exact hc e'
      · exact ho e'.symm
    · have hv' : its[j]? = some v := by simpa using hv
      have hj : j < xs.length := by
        rw [← el]
        have := (List.getElem?_eq_some_iff.mp hv').1
        simpa using this
      obtain ⟨u, hu, ru⟩ := rv.get (List.getElem?_eq_getElem hj)
      rw [hv'] at hu
      cases hu
      exact ⟨_, List.getElem?_eq_getElem hj, ru⟩
  | tup a =>
    obtain ⟨its, rv, p, _⟩ := I.tuple h
    have el : its.toArray.size = xs.length := by rw [rv.length]; simp
    rw [← el]
    refine ⟨[it, a], _, _, Draws.tuple hh it a off its.toArray, ⟨st, p⟩, by simp, fun c hc ho hm => ?_, fun j v hv => ?_, fun j h e => e.1⟩
    · have e' : c = it ∨ c = a := by simpa using hm
      rcases e' with e' | e'
      · exact hc e'
      · exact ho e'.symm
    · have hv' : its[j]? = some v := by simpa using hv
      have hj : j < xs.length := by
        rw [← el]
        have := (List.getElem?_eq_some_iff.mp hv').1
        simpa using this
      obtain ⟨u, hu, ru⟩ := rv.get (List.getElem?_eq_getElem hj)
      rw [hv'] at hu
      cases hu
      exact ⟨_, List.getElem?_eq_getElem hj, ru⟩
  | txt z =>
    obtain ⟨t, st⟩ := st
    have hx : xs = chars z := h
    have el : z.cps.size = xs.length := by rw [hx]; simp [chars]
    rw [← el]
    refine ⟨[it], _, _, Draws.text hh it z t, st, by simp, fun c hc _ hm => hc (by simpa using hm), fun j v hv => ?_, fun j h e => ⟨t, e⟩⟩
    obtain ⟨c, u, e1, rfl⟩ := hv
    refine ⟨.str ⟨#[c]⟩, ?_, _, rfl⟩
    rw [hx]
    unfold chars
    rw [List.getElem?_map, Array.getElem?_toList, e1]
    rfl
/-- two things at each turn, in new pairs -/
def ItzG (K : PySem.W.Frag) (A B : Src) : It :=
  ⟨fun i H => ∃ (xs ys : List V) (x y : V), A.has K H xs ∧ B.has K H ys ∧ xs[i]? = some x ∧ ys[i]? = some y,
    fun i H v H' => ∃ T x y, v = .ref T ∧ H T = none ∧ H' = upd H T (.tup [x, y]) ∧ (∀ xs, A.has K H xs → xs[i]? = some x) ∧ ∀ ys, B.has K H ys → ys[i]? = some y,
    fun i H => ∃ xs ys : List V, A.has K H xs ∧ B.has K H ys ∧ (xs.length = i ∧ i ≤ ys.length ∨ ys.length = i ∧ i ≤ xs.length)⟩
structure Apart5 (A B : Src) (z TI TO i1 i2 : Addr) : Prop where
  TIz : TI ≠ z
  TOz : TO ≠ z
  i1z : i1 ≠ z
  i2z : i2 ≠ z
  TITO : TI ≠ TO
  TIi1 : TI ≠ i1
  TIi2 : TI ≠ i2
  TOi1 : TO ≠ i1
  TOi2 : TO ≠ i2
  i12 : i1 ≠ i2
  az : A.off z
  aT : A.off TO
  a1 : A.off i1
  a2 : A.off i2
  bz : B.off z
  bT : B.off TO
  b1 : B.off i1
  b2 : B.off i2
theorem turn_zipG {P : Program} {w : World} {K : PySem.W.Frag} {elts : List Expr} {kk : Nat} {tpos : Pos} {A B : Src} {z TI TO i1 i2 : Addr} (D : Apart5 A B z TI TO i1 i2) :
    Turn P w K (.Tuple elts kk tpos) (ItzG K A B) [z, TI, TO, i1, i2] z (fun i h => IsZip h z TI TO .none ∧ IsTupOf2 h TI (.ref i1) (.ref i2) ∧ (∃ x y, IsTupOf2 h TO x y) ∧ A.it i1 i h ∧ B.it i2 i h) where
  mem := by simp
  obj := fun i h st c hc => by
    obtain ⟨hz, hTI, ⟨x, y, hTO⟩, h1, h2⟩ := st
    have e' : c = z ∨ c = TI ∨ c = TO ∨ c = i1 ∨ c = i2 := by simpa using hc
    rcases e' with q | q | q | q | q
    · rw [q]; exact ⟨_, hz, fun v q => nomatch q⟩
    · rw [q]; exact ⟨_, hTI, fun v q => nomatch q⟩
    · rw [q]; exact ⟨_, hTO, fun v q => nomatch q⟩
    · rw [q]; exact Src.it_obj h1
    · rw [q]; exact Src.it_obj h2
  keep := fun i h h' st k => by
    obtain ⟨hz, hTI, ⟨x, y, hTO⟩, h1, h2⟩ := st
    exact ⟨k z (by simp) _ hz, k TI (by simp) _ hTI, ⟨x, y, k TO (by simp) _ hTO⟩, Src.it_at h1 fun o q => k i1 (by simp) o q, Src.it_at h2 fun o q => k i2 (by simp) o q⟩
  item := by
    intro X hP hw hK hc i pins s σ H E I hf st hg
    subst hP hw hK
    obtain ⟨hz, hTI, ⟨x0, y0, hTO⟩, h1, h2⟩ := st
    obtain ⟨xs, ys, x, y, hqx, hqy, hx, hy⟩ := hg
    obtain ⟨f1, P1, S1, D1, s1, m1, o1, p1, t1⟩ := Src.draws (A := X.A.in1) I (I.ok.hd hc) hqx h1 D.a1
    obtain ⟨f2, P2, S2, D2, s2, m2, o2, p2, t2⟩ := Src.draws (A := X.A.in1) I (I.ok.hd hc) hqy h2 D.b2
    have sep : ZipSep2 z TI TO i1 i2 f1 f2 := ⟨D.TIz, D.TOz, D.TITO, D.TIi1, m1, o1 _ D.i1z.symm D.az, o1 _ D.TOi1 D.aT, D.TIi2, m2, o2 _ D.i2z.symm D.bz, o2 _ D.TOi2 D.bT, o2 _ D.i12 D.b1, o1 _ D.i12.symm D.a2⟩
    have hzl : z < s.heap.objs.size := Heap.lt_size hz
    refine wpAny_pyNext_zipD2_item sep D1 D2 hz hTI hTO s1 s2 (List.getElem?_eq_some_iff.mp hx).1 (List.getElem?_eq_some_iff.mp hy).1 fun u u2 h' tk q1 q2 z' TO' h1' h2' hT hsz hk => ?_
    obtain ⟨x', ex, ru⟩ := p1 _ _ q1
    rw [hx] at ex
    cases ex
    obtain ⟨y', ey, ru2⟩ := p2 _ _ q2
    rw [hy] at ey
    cases ey
    refine ⟨_, rfl, wpAny_letOwnedTupleGo_zip (s := { s with heap := h', toks := tk }) z' fun h'' z'' sb => ?_⟩
    have hT2 : h''.get? s.heap.objs.size = some { cls := .type "tuple", data := .seq #[u, u2] } := (sb.2 _ (Nat.ne_of_gt hzl)).trans hT
    have new : ObjOk X.prog X.w (upd H s.heap.objs.size (.tup [x, y])) h'' s.heap.objs.size (.tup [x, y]) :=
      ⟨by show 2 ≤ sizeLine; decide, [u, u2], .cons ru (.cons ru2 .nil), ⟨_, hT2, rfl, _, rfl⟩⟩
    have I1 : Inv X pins σ (upd H s.heap.objs.size (.tup [x, y])) { s with heap := h'', toks := tk } :=
      I.turnedNew (t' := tk) (ch := [z, TI, TO, i1, i2]) (fun c o hb q => (sb.2 c (fun q' => hb (by simp [q']))).trans (hk c o (fun q' => hb (by simp [q'])) (fun q' => hb (by simp [q'])) (fun q' => hb (by simp [q'])) (fun q' => hb (by simp [q'])) q)) hf (Nat.le_refl _) new
    refine ⟨.ref s.heap.objs.size, _, I1, rfl, ⟨_, x, y, rfl, I.hok.fresh (Nat.le_refl _), rfl, fun l hl => by rw [Src.inj I hl hqx]; exact hx, fun l hl => by rw [Src.inj I hl hqy]; exact hy⟩, ⟨z'', ?_, ⟨u, u2, ?_⟩, ?_, ?_⟩, fun c hcm => ?_⟩
    · exact (sb.2 _ D.TIz).trans (hk _ _ D.TIz D.TITO D.TIi1 D.TIi2 hTI)
    · exact (sb.2 _ D.TOz).trans TO'
    · exact Src.it_at (t1 _ _ h1') fun o q => (sb.2 _ D.i1z).trans q
    · exact Src.it_at (t2 _ _ h2') fun o q => (sb.2 _ D.i2z).trans q
    · have hlt : c < s.heap.objs.size := by
        have e' : c = z ∨ c = TI ∨ c = TO ∨ c = i1 ∨ c = i2 := by simpa using hcm
        rcases e' with q | q | q | q | q
        · rw [q]; exact hzl
        · rw [q]; exact Heap.lt_size hTI
        · rw [q]; exact Heap.lt_size hTO
        · rw [q]; obtain ⟨_, e1, _⟩ := Src.it_obj h1; exact Heap.lt_size e1
        · rw [q]; obtain ⟨_, e2, _⟩ := Src.it_obj h2; exact Heap.lt_size e2
      rw [upd_ne (Nat.ne_of_lt hlt)]
      exact (hf c hcm).1
  done := by
    intro X hP hw hK hc i pins s σ H E I hf st hg
    subst hP hw hK
    obtain ⟨hz, hTI, ⟨x0, y0, hTO⟩, h1, h2⟩ := st
    obtain ⟨xs, ys, hqx, hqy, hend⟩ := hg
    obtain ⟨f1, P1, S1, D1, s1, m1, o1, p1, t1⟩ := Src.draws (A := X.A.in1) I (I.ok.hd hc) hqx h1 D.a1
    obtain ⟨f2, P2, S2, D2, s2, m2, o2, p2, t2⟩ := Src.draws (A := X.A.in1) I (I.ok.hd hc) hqy h2 D.b2
    have sep : ZipSep2 z TI TO i1 i2 f1 f2 := ⟨D.TIz, D.TOz, D.TITO, D.TIi1, m1, o1 _ D.i1z.symm D.az, o1 _ D.TOi1 D.aT, D.TIi2, m2, o2 _ D.i2z.symm D.bz, o2 _ D.TOi2 D.bT, o2 _ D.i12 D.b1, o1 _ D.i12.symm D.a2⟩
    exact wpAny_pyNext_zipD2_end sep D1 D2 hz hTI hTO s1 s2 (by omega) (by omega) (by omega) fun h' tk hk => ⟨rfl, I.turnedL (t' := tk) (ch := [z, TI, TO, i1, i2]) (fun c o hb q =>
      hk c o (fun q' => hb (by simp [q'])) (fun q' => hb (by simp [q'])) (fun q' => hb (by simp [q'])) (fun q' => hb (by simp [q'])) q) hf⟩
  self := fun A i s Q E st h => wpAny_pyIter_zip st.1 h
/-- how a source begins -/
theorem Src.begins {S : Src} {xs : List V} {u : Value} (I : Inv X pins σ H s) (h : S.has X.K H xs) (r : RelV S.val u) : ∃ (o : Obj) (Hh : Heap → Prop), Begins u o Hh ∧ Hh s.heap ∧ (∀ (h' : Heap) (it : Addr), h'.get? it = some o → S.it it 0 h') ∧ ∀ c, s.heap.objs.size ≤ c → S.off c := by
  cases S with
  | lst a =>
    cases r
    obtain ⟨its, rv, p, _⟩ := I.list h
    exact ⟨_, _, begins_list a its.toArray, p.isList, fun h' it e => ⟨_, e, rfl, rfl⟩, fun c hc => Nat.ne_of_lt (Nat.lt_of_lt_of_le p.lt hc)⟩
  | tup a =>
    cases r
    obtain ⟨its, rv, p, _⟩ := I.tuple h
    obtain ⟨o, e, _⟩ := id p
    exact ⟨_, _, begins_tuple a its.toArray, p, fun h' it e => ⟨_, e, rfl, rfl⟩, fun c hc => Nat.ne_of_lt (Nat.lt_of_lt_of_le (Heap.lt_size e) hc)⟩
  | txt z =>
    obtain ⟨t, rfl⟩ := r
    exact ⟨_, _, begins_text z t, trivial, fun h' it e => ⟨t, _, e, rfl, rfl⟩, fun _ _ => trivial⟩
theorem ap_ne (N a b : Nat) (h : a ≠ b) : N + a ≠ N + b := by omega
theorem apart5_new {A B : Src} {N : Nat} (f1 : ∀ c, N ≤ c → A.off c) (f2 : ∀ c, N ≤ c → B.off c) : Apart5 A B (N + 4) (N + 2) (N + 3) N (N + 1) :=
  ⟨ap_ne N 2 4 (by decide), ap_ne N 3 4 (by decide), ap_ne N 0 4 (by decide), ap_ne N 1 4 (by decide), ap_ne N 2 3 (by decide), ap_ne N 2 0 (by decide), ap_ne N 2 1 (by decide), ap_ne N 3 0 (by decide), ap_ne N 3 1 (by decide), ap_ne N 0 1 (by decide),
    f1 _ (Nat.le_add_right _ _), f1 _ (Nat.le_add_right _ _), f1 _ (Nat.le_refl _), f1 _ (Nat.le_add_right _ _), f2 _ (Nat.le_add_right _ _), f2 _ (Nat.le_add_right _ _), f2 _ (Nat.le_refl _), f2 _ (Nat.le_add_right _ _)⟩
def iZipG (K : PySem.W.Frag) (ta : TA) : TI := fun σ H R => ta σ H fun vs H1 => ∃ (A B : Src) (xs ys : List V), vs = [A.val, B.val] ∧ A.has K H1 xs ∧ B.has K H1 ys ∧ R (ItzG K A B) H1
theorem pi_zipG {X : Cx} {e e2 : Expr} {ta : TA} {p pos tpos : Pos} {elts : List Expr} {kk : Nat} (hg : Gl X "zip") (hm : X.mg "zip" = none) (ha : PA X [e, e2] ta)
    (hs : starEach [e, e2] X.env = (false, eval e X.env) :: starEach [e2] X.env := by rfl) (hpl : (backTo pos (starEach [e2] X.env)).any (·.1) = false := by rfl) :
    PI X (.Tuple elts kk tpos) (.Call (.Name "zip" p) [e, e2] [] pos) (iZipG X.K ta) := by
  refine ⟨fun pins s σ H R I h => ?_⟩
  refine Call_ (ld_blt I hg hm PyProof.Rows.boot_zip (PyProof.Rows.callWith_type1 (thn (ha.run pos pins s σ H _ I h) fun us s1 ⟨vs, H1, I1, r1, q1⟩ => ?_) hs hpl))
  obtain ⟨A, B, xs, ys, ex, ha1, hb1, q⟩ := q1
  subst ex
  cases r1 with
  | cons r rr =>
    cases rr with
    | cons r' rr =>
      cases rr
      obtain ⟨o1, G1, B1, g1, n1, f1⟩ := Src.begins I1 ha1 r
      obtain ⟨o2, G2, B2, g2, n2, f2⟩ := Src.begins I1 hb1 r'
      refine zip_begins2 B1 B2 g1 g2 fun h' hz hTI hTO e1 e2 hsz hk => wpAny_pyIter_zip hz ?_
      have I2 : Inv X pins σ H1 { s1 with heap := h' } := I1.kept (t' := s1.toks) hk
      have ap : Apart5 A B (s1.heap.objs.size + 4) (s1.heap.objs.size + 2) (s1.heap.objs.size + 3) s1.heap.objs.size (s1.heap.objs.size + 1) :=
        apart5_new f1 f2
      refine ⟨s1.heap.objs.size + 4, [s1.heap.objs.size + 4, s1.heap.objs.size + 2, s1.heap.objs.size + 3, s1.heap.objs.size, s1.heap.objs.size + 1], _, _, H1, rfl, I2, turn_zipG ap, ⟨hz, hTI, ⟨_, _, hTO⟩, n1 _ _ e1, n2 _ _ e2⟩, fun c hcm => ?_, q⟩
      have e' : c = s1.heap.objs.size + 4 ∨ c = s1.heap.objs.size + 2 ∨ c = s1.heap.objs.size + 3 ∨ c = s1.heap.objs.size ∨ c = s1.heap.objs.size + 1 := by simpa using hcm
      have hle : s1.heap.objs.size ≤ c := by
        rcases e' with z | z | z | z | z
        · rw [z]; exact Nat.le_add_right _ _
        · rw [z]; exact Nat.le_add_right _ _
        · rw [z]; exact Nat.le_add_right _ _
        · rw [z]; exact Nat.le_refl _
        · rw [z]; exact Nat.le_add_right _ _
      exact I1.fpOk hle (I1.hok.fresh hle)
/-! ### enumerate -/
def IteG (K : PySem.W.Frag) (A : Src) : It :=
  ⟨fun i H => ∃ (xs : List V) (x : V), A.has K H xs ∧ xs[i]? = some x, fun i H v H' => ∃ T x, v = .ref T ∧ H T = none ∧ H' = upd H T (.tup [.int (i : Nat), x]) ∧ ∀ xs, A.has K H xs → xs[i]? = some x, fun i H => ∃ xs : List V, A.has K H xs ∧ xs.length = i⟩
theorem turn_enumG {P : Program} {w : World} {K : PySem.W.Frag} {elts : List Expr} {kk : Nat} {tpos : Pos} {A : Src} {e it : Addr} (hne : e ≠ it) (oe : A.off e) (oi : A.off it) :
    Turn P w K (.Tuple elts kk tpos) (IteG K A) [e, it] e (fun i h => (∃ old, IsEnum h e it ((i : Nat) : Int) old) ∧ A.it it i h) where
  mem := by simp
  obj := fun i h st b hb => by
    obtain ⟨⟨old, he⟩, hi⟩ := st
    have e' : b = e ∨ b = it := by simpa using hb
    rcases e' with z | z
    · rw [z]; exact ⟨_, he, fun v q => nomatch q⟩
    · rw [z]; exact Src.it_obj hi
  keep := fun i h h' st k => let ⟨⟨old, he⟩, hi⟩ := st; ⟨⟨old, k e (by simp) _ he⟩, Src.it_at hi fun o q => k it (by simp) o q⟩
  item := by
    intro X hP hw hK hc i pins s σ H E I hf st hg
    subst hP hw hK
    obtain ⟨⟨old, he⟩, hit⟩ := st
    obtain ⟨xs, x, hq, hx⟩ := hg
    obtain ⟨f1, P1, S1, D1, s1, m1, o1, p1, t1⟩ := Src.draws (A := X.A.in1) I (I.ok.hd hc) hq hit oi
    have hel : e < s.heap.objs.size := Heap.lt_size he
    have hil : it < s.heap.objs.size := by obtain ⟨_, q, _⟩ := Src.it_obj hit; exact Heap.lt_size q
    refine wpAny_pyNext_enum_itemD D1 he s1 (List.getElem?_eq_some_iff.mp hx).1 hne (o1 _ hne oe) fun u h' tk q1 ho hit' hT hsz hk => ?_
    obtain ⟨x', ex, ru⟩ := p1 _ _ q1
    rw [hx] at ex
    cases ex
    refine ⟨_, rfl, wpAny_letOwnedTupleGo_enum (s := { s with heap := h', toks := tk + 1 }) ho fun h'' he' sb => ?_⟩
    have hT2 : h''.get? s.heap.objs.size = some { cls := .type "tuple", data := .seq #[.int i tk, u] } := (sb.2 _ (Nat.ne_of_gt hel)).trans hT
    have new : ObjOk X.prog X.w (upd H s.heap.objs.size (.tup [.int (i : Nat), x])) h'' s.heap.objs.size (.tup [.int (i : Nat), x]) :=
      ⟨by show 2 ≤ sizeLine; decide, [.int i tk, u], .cons ⟨_, rfl⟩ (.cons ru .nil), ⟨_, hT2, rfl, _, rfl⟩⟩
    have I1 : Inv X pins σ (upd H s.heap.objs.size (.tup [.int (i : Nat), x])) { s with heap := h'', toks := tk + 1 } :=
      I.turnedNew (t' := tk + 1) (ch := [e, it]) (fun b ob hb q => (sb.2 b (fun z => hb (by simp [z]))).trans (hk b ob (fun z => hb (by simp [z])) (fun z => hb (by simp [z])) q)) hf (Nat.le_refl _) new
    refine ⟨.ref s.heap.objs.size, _, I1, rfl, ⟨_, x, rfl, I.hok.fresh (Nat.le_refl _), rfl, fun ys hy => by rw [Src.inj I hy hq]; exact hx⟩, ⟨⟨u, ?_⟩, Src.it_at (t1 _ _ hit') fun o q => (sb.2 it (Ne.symm hne)).trans q⟩, fun b hb => ?_⟩
    · have e1 : ((i + 1 : Nat) : Int) = (i : Int) + 1 := by omega
      rw [e1]; exact he'
    · have hb' : b < s.heap.objs.size := by
        have e' : b = e ∨ b = it := by simpa using hb
        rcases e' with z | z
        · rw [z]; exact hel
        · rw [z]; exact hil
      rw [upd_ne (Nat.ne_of_lt hb')]
      exact (hf b hb).1
  done := by
    intro X hP hw hK hc i pins s σ H E I hf st hg
    subst hP hw hK
    obtain ⟨⟨old, he⟩, hit⟩ := st
    obtain ⟨xs, hq, hx⟩ := hg
    subst hx
    obtain ⟨f1, P1, S1, D1, s1, m1, o1, p1, t1⟩ := Src.draws (A := X.A.in1) I (I.ok.hd hc) hq hit oi
    obtain ⟨f0, f1', f2, f3, f4, f5⟩ := hf it (by simp)
    exact wpAny_pyNext_enum_endD D1 he s1 fun h' eb => ⟨rfl, I.turned (t' := s.toks) (fun b o hb q => eb b o hb q) f0 f1' f3 f4 f5⟩
  self := fun A i s Q E st h => let ⟨⟨_, he⟩, _⟩ := st; wpAny_pyIter_enum he h
theorem meets_enumerate_new1B {v : Value} {o : Obj} {H : Heap → Prop} (B : Begins v o H) :
    Meets (Builtin.«enumerate.__new__» ⟨[.type "enumerate", v], []⟩) (fun _ R s => H s.heap ∧
      R (.ok (.ret (.ref (s.heap.push o).objs.size))) { s with heap := (s.heap.push o).push { cls := .type "enumerate", data := .fields #[.none, .bool false, .ref s.heap.objs.size, rawInt 0, .none, .none] } }) :=
  .of_wp fun prog w A R s h => by
    obtain ⟨hp, g, d, tk, os⟩ := s; obtain ⟨h1, h⟩ := h
    have hsub := sub_enumerate
    have q1 : ∀ {A' : Around} {E : Value → Shared → Prop} {Q : Value → Shared → Prop}, Q (.ref hp.objs.size) ⟨hp.push o, g, d, tk, os⟩ → wpAny (model prog w) A' (pyIter v) Q E ⟨hp, g, d, tk, os⟩ :=
      fun q => B.iter prog w _ _ ⟨hp, g, d, tk, os⟩ _ h1 q
    wp_walk
    refine wpAny_stack_any fun st => wpAny_pure ?_
    split
    · rename_i c _ _ _ _ _
      cases (c == Value.type "enumerate")
      · wp_walk using q1
        exact ⟨_, rfl, h⟩
      · wp_walk using q1
        exact ⟨_, rfl, h⟩
    · wp_walk using q1
      exact ⟨_, rfl, h⟩
theorem enum_begins1 {prog : Program} {w : World} {A : Around} {E : Value → Shared → Prop} {s : Shared} {v : Value} {o : Obj} {H : Heap → Prop} {Q : Value → Shared → Prop} (B : Begins v o H) (h1 : H s.heap)
    (h : ∀ h', IsEnum h' (s.heap.objs.size + 1) s.heap.objs.size 0 .none → h'.get? s.heap.objs.size = some o → h'.objs.size = s.heap.objs.size + 2 →
      (∀ b o, s.heap.get? b = some o → h'.get? b = some o) → Q (.ref (s.heap.objs.size + 1)) { s with heap := h' }) :
    wpAny (model prog w) A (call (.type "enumerate") [v]) Q E s := by
  refine callType_new F.called_enumerate (by decide) (F.typeCall_enumerate_1 _) (F.newCall_enumerate_1 _) (fun obj => F.args_object_init_2 obj _) F.entry_enumerate_new
    (meets_enumerate_new1B B) ⟨h1, ?_⟩
  have hz : (s.heap.push o).objs.size = s.heap.objs.size + 1 := Heap.size_push ..
  show _ ∧ _
  rw [hz]
  have he : IsEnum ((s.heap.push o).push { cls := .type "enumerate", data := .fields #[.none, .bool false, .ref s.heap.objs.size, rawInt 0, .none, .none] }) (s.heap.objs.size + 1) s.heap.objs.size 0 .none := by
    have := Heap.get?_push_size (s.heap.push o) (o := { cls := .type "enumerate", data := .fields #[.none, .bool false, .ref s.heap.objs.size, rawInt 0, .none, .none] }) rfl
    rw [hz] at this
    exact this
  exact ⟨⟨_, he, rfl⟩, h _ he (Heap.get?_push_of_some _ (Heap.get?_push_size _ B.free)) (by rw [Heap.size_push, hz]) fun b o x => Heap.get?_push_of_some _ (Heap.get?_push_of_some _ x)⟩
def iEnumG (K : PySem.W.Frag) (ta : TA) : TI := fun σ H R => ta σ H fun vs H1 => ∃ (A : Src) (xs : List V), vs = [A.val] ∧ A.has K H1 xs ∧ R (IteG K A) H1
theorem pi_enumG {X : Cx} {e : Expr} {ta : TA} {p pos tpos : Pos} {elts : List Expr} {kk : Nat} (hg : Gl X "enumerate") (hm : X.mg "enumerate" = none) (ha : PA X [e] ta) (hs : starEach [e] X.env = [(false, eval e X.env)] := by rfl) :
    PI X (.Tuple elts kk tpos) (.Call (.Name "enumerate" p) [e] [] pos) (iEnumG X.K ta) := by
  refine ⟨fun pins s σ H R I h => ?_⟩
  refine Call_ (ld_blt I hg hm boot_enumerate (PyProof.Rows.callWith_type1 (thn (ha.run pos pins s σ H _ I h) fun us s1 ⟨vs, H1, I1, r1, q1⟩ => ?_) hs rfl))
  obtain ⟨A, xs, ex, hq, q⟩ := q1
  subst ex
  cases r1 with
  | cons r rr =>
    cases rr
    obtain ⟨o1, G1, B1, g1, n1, f1⟩ := Src.begins I1 hq r
    refine enum_begins1 B1 g1 fun h' he hit hsz hk => wpAny_pyIter_enum he ?_
    have I2 : Inv X pins σ H1 { s1 with heap := h' } := I1.kept (t' := s1.toks) hk
    refine ⟨s1.heap.objs.size + 1, [s1.heap.objs.size + 1, s1.heap.objs.size], _, _, H1, rfl, I2, turn_enumG (Nat.succ_ne_self _) (f1 _ (Nat.le_add_right _ _)) (f1 _ (Nat.le_refl _)), ⟨⟨.none, he⟩, n1 _ _ hit⟩, fun b hb => ?_, q⟩
    have e' : b = s1.heap.objs.size + 1 ∨ b = s1.heap.objs.size := by simpa using hb
    have hle : s1.heap.objs.size ≤ b := by
      rcases e' with z | z
      · rw [z]; exact Nat.le_add_right _ _
      · rw [z]; exact Nat.le_refl _
    exact I1.fpOk hle (I1.hok.fresh hle)
end
end L2X
/-! comprehensions and loops over zip and enumerate of anything -/
namespace L2X
open PySem PySem.Spec PyProof.Rows L2
theorem lc_zipG {K : PySem.W.Frag} {A B : Src} {xs ys : List V} {g : TG} {tt : TT} {te : TE} {vs : List Nat} {σ : L2.St} {H1 : Hp} {D : Addr} {Qd : Hp → Prop} (hn : xs.length = ys.length) (Pv : Nat → Hp → Prop) (h0 : Pv 0 (upd H1 D (.lst []))) (hl : ∀ i H, i ≤ xs.length → Pv i H → A.has K H xs ∧ B.has K H ys)
    (hs : ∀ i x y H T, xs[i]? = some x → ys[i]? = some y → Pv i H → H T = none → g (.ref T) (wipe σ vs) (upd H T (.tup [x, y])) fun σ2 H2 => wipe σ2 vs = wipe σ vs ∧ tt σ2 H2 fun b H3 =>
      if b = true then te σ2 H3 fun z H4 => ∃ acc, H4 D = some (.lst acc) ∧ acc.length < sizeLine ∧ Pv (i + 1) (upd H4 D (.lst (acc ++ [z]))) else Pv (i + 1) H3) (hd : ∀ H, Pv xs.length H → Qd H) :
    ∃ W : Nat → Nat → Hp → Prop, (∃ m, W 0 m (upd H1 D (.lst []))) ∧ ∀ i m H, W i m H →
      ((ItzG K A B).stop i H ∧ Qd H) ∨ ((ItzG K A B).go i H ∧ ∃ Nx : Hp → Prop, (∀ H', Nx H' → ∃ m', m' < m ∧ W (i + 1) m' H') ∧ ∀ x H', (ItzG K A B).yld i H x H' → g x (wipe σ vs) H' fun σ2 H2 => wipe σ2 vs = wipe σ vs ∧ tt σ2 H2 fun b H3 =>
        if b = true then te σ2 H3 fun y H4 => ∃ acc, H4 D = some (.lst acc) ∧ acc.length < sizeLine ∧ Nx (upd H4 D (.lst (acc ++ [y]))) else Nx H3) := by
  refine ⟨fun i m H => m = xs.length - i ∧ i ≤ xs.length ∧ Pv i H, ⟨xs.length, by simp, Nat.zero_le _, h0⟩, ?_⟩
  rintro i m H ⟨rfl, hi, p⟩
  obtain ⟨qx, qy⟩ := hl i H hi p
  by_cases hlt : i < xs.length
  · have hlt2 : i < ys.length := by omega
    have ex : xs[i]? = some xs[i] := List.getElem?_eq_getElem hlt
    have ey : ys[i]? = some ys[i] := List.getElem?_eq_getElem hlt2
    refine .inr ⟨⟨xs, ys, _, _, qx, qy, ex, ey⟩, Pv (i + 1), fun H' p' => ⟨xs.length - (i + 1), by omega, rfl, hlt, p'⟩, fun x H' y => ?_⟩
    obtain ⟨T, u, v, rfl, nT, rfl, z1, z2⟩ := y
    exact hs i u v H T (z1 xs qx) (z2 ys qy) p nT
  · have e : i = xs.length := by omega
    subst e
    exact .inl ⟨⟨xs, ys, qx, qy, .inl ⟨rfl, by omega⟩⟩, hd H p⟩
theorem lc_enumG {K : PySem.W.Frag} {A : Src} {xs : List V} {g : TG} {tt : TT} {te : TE} {vs : List Nat} {σ : L2.St} {H1 : Hp} {D : Addr} {Qd : Hp → Prop} (Pv : Nat → Hp → Prop) (h0 : Pv 0 (upd H1 D (.lst []))) (hl : ∀ i H, i ≤ xs.length → Pv i H → A.has K H xs)
    (hs : ∀ i x H T, xs[i]? = some x → Pv i H → H T = none → g (.ref T) (wipe σ vs) (upd H T (.tup [.int (i : Nat), x])) fun σ2 H2 => wipe σ2 vs = wipe σ vs ∧ tt σ2 H2 fun b H3 =>
      if b = true then te σ2 H3 fun z H4 => ∃ acc, H4 D = some (.lst acc) ∧ acc.length < sizeLine ∧ Pv (i + 1) (upd H4 D (.lst (acc ++ [z]))) else Pv (i + 1) H3) (hd : ∀ H, Pv xs.length H → Qd H) :
    ∃ W : Nat → Nat → Hp → Prop, (∃ m, W 0 m (upd H1 D (.lst []))) ∧ ∀ i m H, W i m H →
      ((IteG K A).stop i H ∧ Qd H) ∨ ((IteG K A).go i H ∧ ∃ Nx : Hp → Prop, (∀ H', Nx H' → ∃ m', m' < m ∧ W (i + 1) m' H') ∧ ∀ x H', (IteG K A).yld i H x H' → g x (wipe σ vs) H' fun σ2 H2 => wipe σ2 vs = wipe σ vs ∧ tt σ2 H2 fun b H3 =>
        if b = true then te σ2 H3 fun y H4 => ∃ acc, H4 D = some (.lst acc) ∧ acc.length < sizeLine ∧ Nx (upd H4 D (.lst (acc ++ [y]))) else Nx H3) := by
  refine ⟨fun i m H => m = xs.length - i ∧ i ≤ xs.length ∧ Pv i H, ⟨xs.length, by simp, Nat.zero_le _, h0⟩, ?_⟩
  rintro i m H ⟨rfl, hi, p⟩
  have qx := hl i H hi p
  by_cases hlt : i < xs.length
  · have ex : xs[i]? = some xs[i] := List.getElem?_eq_getElem hlt
    refine .inr ⟨⟨xs, _, qx, ex⟩, Pv (i + 1), fun H' p' => ⟨xs.length - (i + 1), by omega, rfl, hlt, p'⟩, fun x H' y => ?_⟩
    obtain ⟨T, u, rfl, nT, rfl, z1⟩ := y
    exact hs i u H T (z1 xs qx) p nT
  · have e : i = xs.length := by omega
    subst e
    exact .inl ⟨⟨xs, qx, rfl⟩, hd H p⟩
end L2X
/-! what many laws share -/
namespace L2X
open PySem PySem.Spec PyProof.Rows L2
theorem PI.or {X : Cx} {tg it : Expr} {w1 w2 : TI} (a : PI X tg it w1) (b : PI X tg it w2) : PI X tg it (fun σ H R => w1 σ H R ∨ w2 σ H R) :=
  ⟨fun pins s σ H R I h => h.elim (a.run pins s σ H R I) (b.run pins s σ H R I)⟩
def rJoinK (K : PySem.W.Frag) : V → List V → Hp → VK → Prop := fun x xs H Q => ∃ a p, ∃ ys : List Str, x = .str a ∧ xs = [.ref p] ∧ (SqL K H p (ys.map V.str) ∨ SqT K H p (ys.map V.str)) ∧ (ys.map (·.length)).sum + ys.length * a.length ≤ 16777216 ∧ Q (.str (Txt.join a ys)) H
theorem pe_joinK {X : Cx} {o e : Expr} {to te : TE} {pos apos : Pos} {K : PySem.W.Frag} (hK : X.K = K) (ho : PE X o to) (he : PE X e te) (hs : starEach [e] X.env = [(false, eval e X.env)] := by rfl) (hbase : attributeBase o "join" X.env (eval o X.env) = eval o X.env := by rfl) (hline : (apos.endLine == pos.line) = true := by rfl) :
    PE X (.Call (.Attribute o "join" apos) [e] [] pos) (tM1 (rJoinK K) to te) := by
  subst hK
  exact pe_join ho he hs hbase hline
end L2X
namespace Dt
open PySem PySem.Spec PyProof.Rows L2 L2X
open SX (S)
def ch (c : Nat) : V := .str ⟨#[c]⟩
structure RowsR (high wide : Nat) (rs : List (List Nat)) : Prop where
  len : rs.length = high
  row : ∀ l ∈ rs, RowR wide l
theorem PicR.rows {high wide : Nat} {rs : List (List Nat)} (h : PicR high wide rs) : RowsR high wide rs := ⟨h.len, h.row⟩
theorem set_getD {ls : List (List Nat)} {r : Nat} {l : List Nat} (h : ls[r]? = some l) : ls.getD r [] = l := by
  rw [List.getD_eq_getElem?_getD, h]
  rfl
theorem getD_at {l : List Nat} {c x : Nat} (h : l[c]? = some x) : l.getD c 0 = x := by
  rw [List.getD_eq_getElem?_getD, h]
  rfl
structure Plc (K : PySem.W.Frag) (H : Hp) (xs : List V) (ps : List (Nat × Nat)) : Prop where
  len : xs.length = ps.length
  at_ : ∀ (i : Nat) (x : V) (p : Nat × Nat), xs[i]? = some x → ps[i]? = some p → ∃ t, x = .ref t ∧ SqT K H t [.int p.1, .int p.2]
theorem Plc.same {K : PySem.W.Frag} {H H' : Hp} {xs : List V} {ps : List (Nat × Nat)} (h : Plc K H xs ps) (s : Same H H') : Plc K H' xs ps :=
  ⟨h.len, fun i x p a b => let ⟨t, e, z⟩ := h.at_ i x p a b; ⟨t, e, sameT s z⟩⟩
theorem chars_row (l : List Nat) : (S l).cps.toList.map (fun c => V.str ⟨#[c]⟩) = l.map ch := by
  unfold S
  rfl
theorem same_over {H0 H : Hp} {a : Addr} {o : HO} (s : Same H0 H) (n : H0 a = none) : Same H0 (upd H a o) := fun b u e => by
  rw [upd_ne (ne_of_none e n)]
  exact s _ _ e
theorem lens_rows (cs : List Nat) : ((cs.map fun c => (⟨#[c]⟩ : Str)).map (·.length)).sum = cs.length := lens_ones cs
theorem join_row (cs : List Nat) : Txt.join "" (cs.map fun c => (⟨#[c]⟩ : Str)) = S cs := join_ones cs
theorem ixN_at {n j : Nat} (hj : j < n) : ixN n (j : Int) = some j := by
  unfold ixN
  rw [if_pos (by omega), if_pos (by omega)]
  simp
theorem chars_S (l : List Nat) : chars (S l) = l.map fun c => V.str ⟨#[c]⟩ := by
  unfold chars S
  simp
theorem sum_ones : ∀ n : Nat, (List.replicate n (1 : Int)).sum = n
  | 0 => rfl
  | n + 1 => by
    rw [List.replicate_succ, List.sum_cons, sum_ones n]
    omega
theorem ch_dec (a b : Nat) : decide (V.str ⟨#[a]⟩ = V.str ⟨#[b]⟩) = decide (a = b) := by
  apply Bool.eq_iff_iff.mpr
  rw [decide_eq_true_iff, decide_eq_true_iff]
  constructor
  · intro h
    have e1 : (⟨#[a]⟩ : Str) = ⟨#[b]⟩ := V.str.inj h
    have e2 : (#[a] : Array Nat) = #[b] := congrArg Str.cps e1
    have e3 : [a] = [b] := congrArg Array.toList e2
    exact (List.cons.inj e3).1
  · intro h
    rw [h]
structure ExN (K : PySem.W.Frag) (mg : Str → Option Value) (nm : Str) (C : Addr) : Prop where
  g : mg nm = some (.ref C)
  x : PySem.W.excIn K C [.type "ValueError", .type "Exception", .type "BaseException", .type "object"] "ValueError.__new__" = true
  k : PySem.W.keepIn K (.ref C) = true
  b : PySem.W.subIn K (.ref C) (.type "BaseException") = some true
  t : PySem.W.typeIn K (.ref C) = some (.type "type")
structure Tz (mg : Str → Option Value) : Prop where
  sum : mg "sum" = none
  zip : mg "zip" = none
theorem tyB_same2 {K : PySem.W.Frag} {H H' : Hp} {x : V} {T : String} (t : TyB K H x T) (s : Same H H') : TyB K H' x T := by
  cases t with
  | non => exact .non
  | bl b => exact .bl b
  | int i => exact .int i
  | str x => exact .str x
  | byt b => exact .byt b
  | lst h => exact .lst (s.seq h)
  | tup h => exact .tup (sameT s h)
  | dK h => exact .dK (s _ _ h)
theorem Kt.same {K : PySem.W.Frag} {H H' : Hp} {x : V} (h : Kt K H x) (s : Same H H') : Kt K H' x := let ⟨T, t, ok⟩ := h; ⟨T, tyB_same2 t s, ok⟩
theorem all_true : ∀ n : Nat, (List.replicate n true).all id = true
  | 0 => rfl
  | n + 1 => by
    rw [List.replicate_succ, List.all_cons, all_true n]
    rfl
theorem kt_int {K : PySem.W.Frag} {H : Hp} (i : Int) : Kt K H (.int i) := ⟨"int", .int i, rfl⟩
theorem kt_bl {K : PySem.W.Frag} {H : Hp} (b : Bool) : Kt K H (.bl b) := ⟨"bool", .bl b, rfl⟩
def rD (l : List Nat) : PyData := .str (S l)
def pD (p : Nat × Nat) : PyData := .tuple [.int p.1, .int p.2]
theorem strOk_row {l : List Nat} (h : ∀ c ∈ l, c = 35 ∨ c = 46) : PyData.strOk (S l) = true := by
  unfold PyData.strOk S
  simp
  intro c hc
  rcases h c hc with z | z <;> (subst z; decide)
theorem lay_rows : ∀ ls : List (List Nat), (∀ l ∈ ls, ∀ c ∈ l, c = 35 ∨ c = 46) → PyData.canLayAll0 (ls.map rD) = true ∧ PyData.depthAll (ls.map rD) ≤ 1
  | [], _ => ⟨by simp [PyData.canLayAll0], by simp [PyData.depthAll]⟩
  | l :: r, h => by
    obtain ⟨h1, h2⟩ := lay_rows r fun m hm => h m (List.mem_cons_of_mem _ hm)
    refine ⟨?_, ?_⟩
    · rw [List.map_cons]
      simp [PyData.canLayAll0, PyData.canLay0, rD, h1, strOk_row (h l List.mem_cons_self)]
    · rw [List.map_cons]
      simp only [PyData.depthAll, PyData.depth, rD]
      omega
theorem lay_places : ∀ ps : List (Nat × Nat), PyData.canLayAll0 (ps.map pD) = true ∧ PyData.depthAll (ps.map pD) ≤ 3
  | [] => ⟨by simp [PyData.canLayAll0], by simp [PyData.depthAll]⟩
  | p :: r => by
    obtain ⟨h1, h2⟩ := lay_places r
    refine ⟨?_, ?_⟩
    · rw [List.map_cons]
      simp [PyData.canLayAll0, PyData.canLay0, pD, h1]
    · rw [List.map_cons]
      simp only [PyData.depthAll, PyData.depth, pD]
      omega
theorem shaped_rows {high wide : Nat} {ls : List (List Nat)} (R : RowsR high wide ls) : SeqAt.shaped (.tuple (ls.map rD)) = true := by
  obtain ⟨h1, h2⟩ := lay_rows ls fun l hl => (R.row l hl).sg
  unfold SeqAt.shaped
  rw [Bool.and_eq_true, decide_eq_true_iff]
  refine ⟨by simp [PyData.canLay0, h1], ?_⟩
  simp only [PyData.depth]
  omega
theorem shaped_places (ps : List (Nat × Nat)) : SeqAt.shaped (.list (ps.map pD)) = true := by
  obtain ⟨h1, h2⟩ := lay_places ps
  unfold SeqAt.shaped
  rw [Bool.and_eq_true, decide_eq_true_iff]
  refine ⟨by simp [PyData.canLay0, h1], ?_⟩
  simp only [PyData.depth]
  omega
theorem shaped_place (p : Nat × Nat) : SeqAt.shaped (pD p) = true := rfl
theorem eqv_rows : ∀ ls : List (List Nat), PyData.eqvAll (ls.map rD) (ls.map rD) = true
  | [] => by simp [PyData.eqvAll]
  | l :: r => by
    rw [List.map_cons, PyData.eqvAll, eqv_rows r]
    simp [PyData.eqv, rD]
theorem eqv_pD (p q : Nat × Nat) : PyData.eqv (pD p) (pD q) = decide (p = q) := by
  apply Bool.eq_iff_iff.mpr
  rw [decide_eq_true_iff]
  simp [PyData.eqv, PyData.eqvAll, pD, Prod.ext_iff]
  omega
theorem eqv_places : ∀ ps : List (Nat × Nat), PyData.eqvAll (ps.map pD) (ps.map pD) = true
  | [] => by simp [PyData.eqvAll]
  | p :: r => by
    rw [List.map_cons, PyData.eqvAll, eqv_places r, eqv_pD, decide_eq_true rfl]
    rfl
section
variable {K : PySem.W.Frag} {H : Hp}
theorem dp_rows : ∀ ls : List (List Nat), DpAll K H (ls.map rv) (ls.map rD)
  | [] => .nil
  | l :: r => .cons (.str _) (dp_rows r)
theorem dp_place {t : Addr} {p : Nat × Nat} (h : SqT K H t [.int p.1, .int p.2]) : Dp K H (.ref t) (pD p) := .tup h (.cons (.int _) (.cons (.int _) .nil))
theorem dp_places : ∀ {xs : List V} {ps : List (Nat × Nat)}, Plc K H xs ps → DpAll K H xs (ps.map pD)
  | [], [], _ => .nil
  | [], _ :: _, h => nomatch h.len
  | _ :: _, [], h => nomatch h.len
  | x :: xs, p :: ps, h => by
    obtain ⟨t, e, ht⟩ := h.at_ 0 x p rfl rfl
    subst e
    exact .cons (dp_place ht) (dp_places ⟨Nat.succ.inj h.len, fun i y q a b => h.at_ (i + 1) y q a b⟩)
theorem Plc.app {xs ys : List V} {ps qs : List (Nat × Nat)} (a : Plc K H xs ps) (b : Plc K H ys qs) : Plc K H (xs ++ ys) (ps ++ qs) := by
  refine ⟨by rw [List.length_append, List.length_append, a.len, b.len], fun i x p hx hp => ?_⟩
  by_cases hi : i < xs.length
  · rw [List.getElem?_append_left hi] at hx
    rw [List.getElem?_append_left (by rw [← a.len]; exact hi)] at hp
    exact a.at_ i x p hx hp
  · rw [List.getElem?_append_right (by omega)] at hx
    rw [List.getElem?_append_right (by rw [← a.len]; omega), ← a.len] at hp
    exact b.at_ _ x p hx hp
theorem plc_upd {xs ys zs : List V} {ps : List (Nat × Nat)} {l : Addr} (h : Plc K H xs ps) (hl : H l = some (.lst ys)) : Plc K (upd H l (.lst zs)) xs ps := by
  refine ⟨h.len, fun i x p a b => ?_⟩
  obtain ⟨t, e, ht⟩ := h.at_ i x p a b
  refine ⟨t, e, ?_⟩
  rcases ht with (ht | ⟨o, ht⟩) | ht
  · exact SqT.of (by rw [upd_ne (ne_of ht hl (by intro z; cases z))]; exact ht)
  · exact .inl (.inr ⟨o, by rw [upd_ne (ne_of ht hl (by intro z; cases z))]; exact ht⟩)
  · exact .inr ht
theorem Plc.take {xs : List V} {ps : List (Nat × Nat)} (a : Plc K H xs ps) (n : Nat) : Plc K H (xs.take n) (ps.take n) := by
  refine ⟨by rw [List.length_take, List.length_take, a.len], fun i x p hx hp => ?_⟩
  rw [List.getElem?_take] at hx hp
  split at hx
  · rename_i h
    rw [if_pos h] at hp
    exact a.at_ i x p hx hp
  · cases hx
end
theorem cutV_whole {xs : List V} {lo hi : Option Int} (h : HT.sIx xs.length 0 lo = 0 ∧ HT.sIx xs.length xs.length hi = xs.length) : cutV xs lo hi = xs := by
  unfold cutV
  rw [h.1, h.2, List.drop_zero, Nat.sub_zero, List.take_length]
theorem sl_any {K : PySem.W.Frag} {H : Hp} {a : Addr} {xs : List V} {lo hi : Option Int} {Q : VK} (h : H a = some (.tup xs)) (q : ∀ z H2, Same H H2 → H2 z = some (.tup (cutV xs lo hi)) → Q (.ref z) H2) : rSlA K (.ref a) lo hi H Q :=
  ⟨a, xs, rfl, SqT.of h, fun w => q a H (Same.refl H) (by rw [cutV_whole w]; exact h), fun _ p hp => q p _ (same_upd hp) upd_same⟩
theorem cat_any {K : PySem.W.Frag} {H : Hp} {a b : Addr} {xs ys : List V} {Q : VK} (h : H a = some (.tup xs)) (g : H b = some (.tup ys)) (hz : xs.length + ys.length ≤ sizeLine) (q : ∀ z H2, Same H H2 → H2 z = some (.tup (xs ++ ys)) → Q (.ref z) H2) :
    rCatA K (.ref a) (.ref b) H Q :=
  ⟨a, b, xs, ys, rfl, rfl, SqT.of h, SqT.of g, hz, fun e => q b H (Same.refl H) (by rw [e]; exact g), fun _ e => q a H (Same.refl H) (by rw [e, List.append_nil]; exact h), fun _ _ p hp => q p _ (same_upd hp) upd_same⟩
theorem rep_any {K : PySem.W.Frag} {H : Hp} {a : Addr} {x : V} {k : Nat} {Q : VK} (h : H a = some (.tup [x])) (h1 : 1 ≤ k) (h2 : k ≤ 1000) (q : ∀ z H2, Same H H2 → H2 z = some (.tup (List.replicate k x)) → Q (.ref z) H2) :
    rRepA K (.ref a) (.int k) H Q := by
  have flat : ∀ n : Nat, (List.replicate n [x]).flatten = List.replicate n x := by
    intro n
    induction n with
    | zero => rfl
    | succ n ih => rw [List.replicate_succ, List.flatten_cons, ih, List.replicate_succ]; rfl
  refine ⟨a, k, [x], rfl, rfl, SqT.of h, (by simp), by omega, by omega, by show 1 ≤ 1000; decide, fun e => q a H (Same.refl H) ?_, fun _ p hp => q p _ (same_upd hp) ?_⟩
  · have : k = 1 := by omega
    subst this
    exact h
  · rw [upd_same, Int.toNat_natCast, flat]
end Dt
namespace L2X
open PySem PySem.Spec PyProof.Rows L2
/-- i ** 3 of an int of any decent size -/
def CPow3 (i j : Int) : Prop := j = 3 ∧ i.natAbs < 2 ^ 1000
theorem op_pow3 {X : Cx} : OpR X (binaryOp .Pow) (rI CPow3 fun i j => .int (i ^ j.toNat)) := opI fun i j _ _ _ _ _ hc q => by
  obtain ⟨rfl, h⟩ := hc
  refine pow_int (by decide) ?_ q
  have z := PyProof.Rows.intBits_le h
  omega
end L2X
namespace Dt
open PySem PySem.Spec PyProof.Rows L2 L2X
open SX (S)
/-! ### the drawing list -/
def Du (H : Hp) (d : Addr) (n : Nat) : Prop := ∃ a b t : Int, H d = some (.lst [.int a, .int b, .int t]) ∧ 0 ≤ t ∧ t ≤ (n : Int)
/-- all but d stays -/
def Do (d : Addr) (H H' : Hp) : Prop := ∀ b o, H b = some o → b ≠ d → H' b = some o
theorem Do.refl {d : Addr} {H : Hp} : Do d H H := fun _ _ e _ => e
theorem Do.trans {d : Addr} {H H1 H2 : Hp} (a : Do d H H1) (b : Do d H1 H2) : Do d H H2 := fun x o e h1 => b x o (a x o e h1) h1
theorem Do.same {d : Addr} {H H' : Hp} (a : Same H H') : Do d H H' := fun b o e _ => a b o e
theorem Du.same {H H' : Hp} {d : Addr} {n : Nat} (D : Du H d n) (s : Same H H') : Du H' d n := by
  obtain ⟨a, b, t, h, h0, h1⟩ := D
  exact ⟨a, b, t, s _ _ h, h0, h1⟩
theorem Du.le {H : Hp} {d : Addr} {n m : Nat} (D : Du H d n) (l : n ≤ m) : Du H d m := by
  obtain ⟨a, b, t, h, h0, h1⟩ := D
  exact ⟨a, b, t, h, h0, by omega⟩
theorem Du.new {H : Hp} {d p : Addr} {n : Nat} (D : Du H d n) (h : H p = none) : p ≠ d := by
  obtain ⟨a, b, t, e, _⟩ := D
  exact fun z => by (rw [z, e] at h; cases h)
theorem Du.upd {H : Hp} {d p : Addr} {n : Nat} {o : HO} (D : Du H d n) (h : p ≠ d) : Du (upd H p o) d n := by
  obtain ⟨a, b, t, e, h0⟩ := D
  exact ⟨a, b, t, by rw [upd_ne h.symm]; exact e, h0⟩
theorem Do.nn {d p : Addr} {n : Nat} {H H' : Hp} (a : Do d H H') (D : Du H' d n) (h : H' p = none) : H p = none := by
  cases e : H p with
  | none => rfl
  | some o =>
    rw [a _ _ e (D.new h)] at h
    cases h
/-- what was under no watch ahead may change -/
theorem Do.upd {d p : Addr} {H H' : Hp} {o : HO} (a : Do d H H') (h : H p = none) : Do d H (upd H' p o) := fun b u e n => by
  rw [upd_ne (ne_of_none e h)]
  exact a _ _ e n
def fuel : Nat := 1000000000000
/-- of a list, or of a text -/
theorem small_bits {a b : Nat} {i : Int} (h0 : 0 ≤ i) (h1 : i < (b : Int)) (hb : b ≤ 2 ^ a) : i.natAbs < 2 ^ a := by omega
section
variable {P : Program} {w : World} {K : PySem.W.Frag} {mg : Str → Option Value} {base : Heap}
end
end Dt
namespace L2X
open PySem PySem.Spec PyProof.Rows L2
/-! ### comprehensions of two clauses, and of one, over anything -/
theorem lc2_by {J : It} {g : TG} {tt : TT} {wi1 : TI} {g1 : TG} {tt1 : TT} {te : TE} {vs vs1 : List Nat} {σ : L2.St} {H1 : Hp} {D : Addr} {Qd : Hp → Prop} (n : Nat) (Pv : Nat → Hp → Prop) (h0 : Pv 0 (upd H1 D (.lst [])))
    (hstop : ∀ H, Pv n H → J.stop n H) (hgo : ∀ i H, i < n → Pv i H → J.go i H)
    (hs : ∀ i x H H', i < n → Pv i H → J.yld i H x H' → g x (wipe σ vs) H' fun σ2 H2 => wipe σ2 vs = wipe σ vs ∧ tt σ2 H2 fun b H3 =>
      if b = true then wi1 σ2 H3 fun J1 H4 => ∃ W1 : Nat → Nat → Hp → Prop, (∃ m, W1 0 m H4) ∧ ∀ j k H, W1 j k H →
        (J1.stop j H ∧ Pv (i + 1) H) ∨ (J1.go j H ∧ ∃ Nx1 : Hp → Prop, (∀ H', Nx1 H' → ∃ k', k' < k ∧ W1 (j + 1) k' H') ∧ ∀ x H', J1.yld j H x H' → g1 x (wipe σ2 vs1) H' fun σ3 H5 => wipe σ3 vs1 = wipe σ2 vs1 ∧ tt1 σ3 H5 fun b H6 =>
          if b = true then te σ3 H6 fun y H7 => ∃ acc, H7 D = some (.lst acc) ∧ acc.length < sizeLine ∧ Nx1 (upd H7 D (.lst (acc ++ [y]))) else Nx1 H6)
      else Pv (i + 1) H3) (hd : ∀ H, Pv n H → Qd H) :
    ∃ W : Nat → Nat → Hp → Prop, (∃ m, W 0 m (upd H1 D (.lst []))) ∧ ∀ i m H, W i m H →
      (J.stop i H ∧ Qd H) ∨ (J.go i H ∧ ∃ Nx : Hp → Prop, (∀ H', Nx H' → ∃ m', m' < m ∧ W (i + 1) m' H') ∧ ∀ x H', J.yld i H x H' → g x (wipe σ vs) H' fun σ2 H2 => wipe σ2 vs = wipe σ vs ∧ tt σ2 H2 fun b H3 =>
        if b = true then wi1 σ2 H3 fun J1 H4 => ∃ W1 : Nat → Nat → Hp → Prop, (∃ m, W1 0 m H4) ∧ ∀ j k H, W1 j k H →
          (J1.stop j H ∧ Nx H) ∨ (J1.go j H ∧ ∃ Nx1 : Hp → Prop, (∀ H', Nx1 H' → ∃ k', k' < k ∧ W1 (j + 1) k' H') ∧ ∀ x H', J1.yld j H x H' → g1 x (wipe σ2 vs1) H' fun σ3 H5 => wipe σ3 vs1 = wipe σ2 vs1 ∧ tt1 σ3 H5 fun b H6 =>
            if b = true then te σ3 H6 fun y H7 => ∃ acc, H7 D = some (.lst acc) ∧ acc.length < sizeLine ∧ Nx1 (upd H7 D (.lst (acc ++ [y]))) else Nx1 H6)
        else Nx H3) := by
  refine ⟨fun i m H => m = n - i ∧ i ≤ n ∧ Pv i H, ⟨n, by simp, Nat.zero_le _, h0⟩, ?_⟩
  rintro i m H ⟨rfl, hi, p⟩
  by_cases hlt : i < n
  · exact .inr ⟨hgo i H hlt p, Pv (i + 1), fun H' p' => ⟨n - (i + 1), by omega, rfl, hlt, p'⟩, fun x H' y => hs i x H H' hlt p y⟩
  · have e : i = n := by omega
    subst e
    exact .inl ⟨hstop H p, hd H p⟩
theorem lc2_in {J1 : It} {g1 : TG} {tt1 : TT} {te : TE} {vs1 : List Nat} {σ2 : L2.St} {H4 : Hp} {D : Addr} {Nx : Hp → Prop} (n : Nat) (Pv : Nat → Hp → Prop) (h0 : Pv 0 H4) (hstop : ∀ H, Pv n H → J1.stop n H) (hgo : ∀ i H, i < n → Pv i H → J1.go i H)
    (hs : ∀ i x H H', i < n → Pv i H → J1.yld i H x H' → g1 x (wipe σ2 vs1) H' fun σ3 H5 => wipe σ3 vs1 = wipe σ2 vs1 ∧ tt1 σ3 H5 fun b H6 =>
      if b = true then te σ3 H6 fun y H7 => ∃ acc, H7 D = some (.lst acc) ∧ acc.length < sizeLine ∧ Pv (i + 1) (upd H7 D (.lst (acc ++ [y]))) else Pv (i + 1) H6) (hd : ∀ H, Pv n H → Nx H) :
    ∃ W1 : Nat → Nat → Hp → Prop, (∃ m, W1 0 m H4) ∧ ∀ j k H, W1 j k H →
      (J1.stop j H ∧ Nx H) ∨ (J1.go j H ∧ ∃ Nx1 : Hp → Prop, (∀ H', Nx1 H' → ∃ k', k' < k ∧ W1 (j + 1) k' H') ∧ ∀ x H', J1.yld j H x H' → g1 x (wipe σ2 vs1) H' fun σ3 H5 => wipe σ3 vs1 = wipe σ2 vs1 ∧ tt1 σ3 H5 fun b H6 =>
        if b = true then te σ3 H6 fun y H7 => ∃ acc, H7 D = some (.lst acc) ∧ acc.length < sizeLine ∧ Nx1 (upd H7 D (.lst (acc ++ [y]))) else Nx1 H6) := by
  refine ⟨fun i m H => m = n - i ∧ i ≤ n ∧ Pv i H, ⟨n, by simp, Nat.zero_le _, h0⟩, ?_⟩
  rintro i m H ⟨rfl, hi, p⟩
  by_cases hlt : i < n
  · exact .inr ⟨hgo i H hlt p, Pv (i + 1), fun H' p' => ⟨n - (i + 1), by omega, rfl, hlt, p'⟩, fun x H' y => hs i x H H' hlt p y⟩
  · have e : i = n := by omega
    subst e
    exact .inl ⟨hstop H p, hd H p⟩
end L2X
namespace Dt
open PySem PySem.Spec PyProof.Rows L2 L2X
open SX (S)
/-! ### dots -/
theorem smallT {n : Nat} (h : n < 100000) : n < sizeLine := Nat.lt_of_lt_of_le h (by decide)
def rowDots (r : Nat) (l : List Nat) : List (Nat × Nat) := (l.zipIdx.filter fun p => decide (p.1 = 35)).map fun p => (r, p.2)
def dotsP (rs : List (List Nat)) : List (Nat × Nat) := (rs.zipIdx.map fun p => rowDots p.2 p.1).flatten
theorem map_at {α β : Type} {f : α → β} {l : List α} {i : Nat} {y : β} (h : (l.map f)[i]? = some y) : ∃ x, l[i]? = some x ∧ y = f x := by
  rw [List.getElem?_map] at h
  cases e : l[i]? with
  | none =>
    rw [e] at h
    cases h
  | some z =>
    rw [e] at h
    exact ⟨z, rfl, (Option.some.inj h).symm⟩
theorem dotsP_snoc {rs : List (List Nat)} {i : Nat} {l : List Nat} (h : rs[i]? = some l) : dotsP (rs.take (i + 1)) = dotsP (rs.take i) ++ rowDots i l := by
  have hi : i < rs.length := (List.getElem?_eq_some_iff.mp h).1
  unfold dotsP
  rw [take_snoc h, List.zipIdx_append, List.map_append, List.flatten_append]
  have : (rs.take i).length = i := by
    rw [List.length_take]
    omega
  simp [this]
theorem rowDots_snoc {r : Nat} {l : List Nat} {j c : Nat} (h : l[j]? = some c) : rowDots r (l.take (j + 1)) = rowDots r (l.take j) ++ if c = 35 then [(r, j)] else [] := by
  have hj : j < l.length := (List.getElem?_eq_some_iff.mp h).1
  unfold rowDots
  rw [take_snoc h, List.zipIdx_append, List.filter_append, List.map_append]
  have : (l.take j).length = j := by
    rw [List.length_take]
    omega
  by_cases e : c = 35
  · simp [this, e]
  · simp [this, e]
theorem plc_one {K : PySem.W.Frag} {H : Hp} {xs : List V} {ps : List (Nat × Nat)} {D t : Addr} {r c : Nat} (h : Plc K H xs ps) (hD : H D = some (.lst xs)) (ht : H t = none) :
    Plc K (upd (upd H t (.tup [.int r, .int c])) D (.lst (xs ++ [.ref t]))) (xs ++ [.ref t]) (ps ++ [(r, c)]) := by
  have s := same_upd (o := .tup [V.int r, V.int c]) ht
  have one : Plc K (upd H t (.tup [V.int r, V.int c])) [V.ref t] [(r, c)] := ⟨rfl, fun i x pp hx hpp => by
    cases i with
    | zero =>
      cases hx
      cases hpp
      exact ⟨t, rfl, SqT.of upd_same⟩
    | succ i => exact nomatch hx⟩
  exact plc_upd ((h.same s).app one) (s _ _ hD)
abbrev sDots : Stmt := topS 23
theorem scDots : FnScope ["picture", "at", "row", "column", "sign"] ["picture"] (defScope sDots) := ⟨rfl, rfl, rfl, by decide +kernel, rfl, by decide +kernel, by decide +kernel⟩
def spDots (K : PySem.W.Frag) : Sp := fun vs H Q _ => ∃ (a : Addr) (high wide : Nat) (rs : List (List Nat)), vs = [.ref a] ∧ H a = some (.tup (rs.map rv)) ∧ PicR high wide rs ∧
  ∀ D xs H', Same H H' → H D = none → H' D = some (.lst xs) → Plc K H' xs (dotsP rs) → xs.length ≤ 7200 → Q (.ref D) H'
section
variable {P : Program} {w : World} {K : PySem.W.Frag} {mg : Str → Option Value} {base : Heap} {C CP : Addr}
theorem ok_dots {f : Addr} {fd : FuncData} {k : Nat} (F : Fun K "dots" "dots" sDots f fd) (en : mg "enumerate" = none) (G : GW P w K mg base C (k + 1)) : FnOk P w K mg base (L2.CX P w) (k + 2) f fd ["picture"] (spDots K) := by
  obtain ⟨fW, fdW, GW, mW, kW, bW⟩ := G.ex
  refine F.okX scDots (fun vs H Q E h => ?_) (fun cdv A outer s H vs Q E hr h => ?_)
  · obtain ⟨a, _, _, _, rfl, _⟩ := h
    rfl
  · obtain ⟨a, high, wide, rs, rfl, ha, pr, q⟩ := h
    have nd := scDots.nd
    refine ⟨_, pss_cons (ps_expr (pe_callS GW hr (by rfl) mW kW bW (fun σ => passAt (takes_of rfl rfl rfl rfl) σ) (pa_cons (pv 0) pa_nil)))
      (pss_one (ps_ret (pe_lc2 (own := [("at", 1), ("row", 2), ("column", 3), ("sign", 4)]) (vs1 := [3, 4]) (g := gTup K 2 (gCons (gName 1) (gCons (gName 2) gNil))) (tt := tYes) (wi1 := iEnumG K (tCons (tVar 2) tNil)) (g1 := gTup K 2 (gCons (gName 3) (gCons (gName 4) gNil))) rfl nd
        (pi_enumG (by rfl) en (pa_cons (pv 0) pa_nil)) (blkOk_by (N := ["picture", "at", "row", "column", "sign"]) (sc := defScope sDots) (by decide +kernel)) (by decide)
        (fun _ _ _ _ _ => pg_tup rfl (pgs_cons (pg_name (i := 1) nd rfl (Or.inl rfl)) (pgs_cons (pg_name (i := 2) nd rfl (Or.inl rfl)) pgs_nil))) (fun _ _ _ _ _ => pts_nil)
        (fun _ _ _ _ _ => pi_enumG (by rfl) en (pa_cons (pv 2) pa_nil))
        (fun _ _ _ _ _ => pg_tup rfl (pgs_cons (pg_name (i := 3) nd rfl (Or.inl rfl)) (pgs_cons (pg_name (i := 4) nd rfl (Or.inl rfl)) pgs_nil)))
        (fun _ _ _ _ _ => pts_one (pt_cmpR op_eq (pv 4) pe_str (nomark _))) (fun _ _ _ _ _ => pe_tup (pa_cons (pv 1) (pa_cons (pv 3) pa_nil)))))), ?_⟩
    refine ⟨.ref a, rfl, .ref a, true, rfl, askPic pr ha, fun _ H1 s1 => ?_, fun e => nomatch e⟩
    have ha1 := s1 _ _ ha
    have w1 := pr.w1
    have h1' := pr.h1
    have hlen := pr.len
    refine ⟨.ref a, rfl, .tup a, rs.map rv, rfl, SqT.of ha1, fun D hD => lc2_by rs.length (fun i H2 => Same H1 H2 ∧ ∃ xs, H2 D = some (.lst xs) ∧ Plc K H2 xs (dotsP (rs.take i)) ∧ xs.length ≤ i * 120) ?_ ?_ ?_ ?_ ?_⟩
    · exact ⟨same_upd hD, [], upd_same, ⟨rfl, fun i x p h => nomatch h⟩, Nat.zero_le _⟩
    · rintro H2 ⟨sm, _⟩
      exact ⟨_, SqT.of (sm _ _ ha1), List.length_map _⟩
    · rintro i H2 hi ⟨sm, _⟩
      exact ⟨_, _, SqT.of (sm _ _ ha1), List.getElem?_eq_getElem (by rw [List.length_map]; exact hi)⟩
    · rintro i x H2 H3 hi ⟨sm, xs, hx, pl, lx⟩ ⟨T, y, rfl, nT, rfl, hy⟩
      obtain ⟨l, hl, rfl⟩ := map_at (hy _ (SqT.of (sm _ _ ha1)))
      have l1 := (pr.row l (List.mem_of_getElem? hl)).len
      have sT := same_upd (o := .tup [V.int (i : Nat), rv l]) nT
      refine ⟨T, _, rfl, SqT.of upd_same, rfl, _, _, rfl, _, _, rfl, rfl, rfl, ?_⟩
      refine ⟨rv l, rfl, .txt (S l), chars (S l), rfl, rfl, lc2_in wide (fun j H4 => Same H1 H4 ∧ ∃ xs, H4 D = some (.lst xs) ∧ Plc K H4 xs (dotsP (rs.take i) ++ rowDots i (l.take j)) ∧ xs.length ≤ i * 120 + j) ?_ ?_ ?_ ?_ ?_⟩
      · exact ⟨sm.trans sT, xs, sT _ _ hx, by rw [List.take_zero]; show Plc K _ xs (dotsP (rs.take i) ++ []); rw [List.append_nil]; exact pl.same sT, lx⟩
      · rintro H4 _
        exact ⟨_, rfl, by rw [chars_S, List.length_map, l1]⟩
      · rintro j H4 hj _
        exact ⟨_, _, rfl, List.getElem?_eq_getElem (by rw [chars_S, List.length_map, l1]; exact hj)⟩
      · rintro j x H4 H5 hj ⟨sm4, ys, hys, pl4, ly⟩ ⟨T2, z, rfl, nT2, rfl, hz⟩
        have hz' := hz _ rfl
        rw [chars_S] at hz'
        obtain ⟨c, hc, rfl⟩ := map_at hz'
        have sT2 := same_upd (o := .tup [V.int (j : Nat), V.str ⟨#[c]⟩]) nT2
        refine ⟨T2, _, rfl, SqT.of upd_same, rfl, _, _, rfl, _, _, rfl, rfl, rfl, .str ⟨#[c]⟩, rfl, rfl, _, rfl, ?_⟩
        have e1 : decide (V.str ⟨#[c]⟩ = V.str "#") = decide (c = 35) := by
          rw [s_hash]
          exact ch_dec c 35
        rw [e1, rowDots_snoc hc]
        have hys5 := sT2 _ _ hys
        have nD : D ≠ T2 := fun e => by
          rw [e, nT2] at hys
          cases hys
        by_cases ec : c = 35
        · rw [decide_eq_true ec, if_pos ec]
          refine iteT ⟨.int i, rfl, .int j, rfl, by show 2 ≤ sizeLine; decide, fun t ht => ⟨ys, ?_, smallT (by omega), ?_, ys ++ [.ref t], upd_same, ?_, ?_⟩⟩
          · rw [upd_ne (ne_of_none hys5 ht)]
            exact hys5
          · exact same_over ((sm4.trans sT2).trans (same_upd ht)) hD
          · rw [← List.append_assoc]
            exact plc_one (pl4.same sT2) hys5 ht
          · rw [List.length_append, List.length_singleton]
            omega
        · rw [decide_eq_false ec, if_neg ec, List.append_nil]
          exact iteF ⟨sm4.trans sT2, ys, hys5, pl4.same sT2, by omega⟩
      · rintro H4 ⟨sm4, ys, hys, pl4, ly⟩
        have e : l.take wide = l := List.take_of_length_le (by omega)
        rw [e, ← dotsP_snoc hl] at pl4
        exact ⟨sm4, ys, hys, pl4, by omega⟩
    · rintro H2 ⟨sm, xs, hx, pl, lx⟩
      rw [List.take_length] at pl
      exact q D xs H2 (s1.trans sm) (s1.free hD) hx pl (by omega)
end
end Dt
/-! a list or a tuple walked, one rule for both -/
namespace L2X
open PySem PySem.Spec PyProof.Rows L2
/-- at a stands a list (true) or a tuple (false) of xs -/
def Sq (K : PySem.W.Frag) (H : Hp) (b : Bool) (a : Addr) (xs : List V) : Prop := match b with
  | true => SqL K H a xs
  | false => SqT K H a xs
theorem sameT0 {K : PySem.W.Frag} {H H' : Hp} {a : Addr} {xs : List V} (e : Same H H') (h : SqT K H a xs) : SqT K H' a xs := by
  rcases h with (h | ⟨o, h⟩) | h
  · exact .inl (.inl (e _ _ h))
  · exact .inl (.inr ⟨o, e _ _ h⟩)
  · exact .inr h
theorem Sq.same {K : PySem.W.Frag} {H H' : Hp} {b : Bool} {a : Addr} {xs : List V} (h : Sq K H b a xs) (s : Same H H') : Sq K H' b a xs := by
  cases b with
  | true => exact s.seq h
  | false => exact sameT0 s h
def Its (K : PySem.W.Frag) (b : Bool) (a : Addr) : It := match b with
  | true => Itl K a
  | false => Itt K a
def iSq (K : PySem.W.Frag) (tl : TE) : TI := fun σ H R => tl σ H fun x H1 => ∃ b a xs, x = .ref a ∧ Sq K H1 b a xs ∧ R (Its K b a) H1
theorem pi_sq {X : Cx} {tg l : Expr} {tl : TE} (hl : PE X l tl) : PI X tg l (iSq X.K tl) := by
  refine ⟨fun pins s σ H R I h => ?_⟩
  refine thn (hl.run pins s σ H _ I h) fun v s1 ⟨x, H1, I1, r1, q1⟩ => ?_
  obtain ⟨b, a, xs, e, hq, q⟩ := q1
  subst e
  cases r1
  cases b with
  | true =>
    obtain ⟨its, rv, p, hz⟩ := I1.list hq
    refine wpAny_pyIter_list p.isList ?_
    refine ⟨s1.heap.objs.size, [s1.heap.objs.size], _, _, H1, rfl, I1.kept (t' := s1.toks) fun b o e => Heap.get?_push_of_some _ e, turn_list a _, ⟨_, Heap.get?_push_size _ rfl, rfl, rfl⟩, fun b hb => ?_, q⟩
    have e : b = s1.heap.objs.size := by simpa using hb
    subst e
    exact I1.fpOk (Nat.le_refl _) (I1.hok.fresh (Nat.le_refl _))
  | false =>
    obtain ⟨its, rv, p, hz⟩ := I1.tuple hq
    refine wpAny_pyIter_tuple (show s1.heap.IsTuple a its.toArray from p) ?_
    refine ⟨s1.heap.objs.size, [s1.heap.objs.size], _, _, H1, rfl, I1.kept (t' := s1.toks) fun b o e => Heap.get?_push_of_some _ e, turn_tuple a _, ⟨_, Heap.get?_push_size _ rfl, rfl, rfl⟩, fun b hb => ?_, q⟩
    have e : b = s1.heap.objs.size := by simpa using hb
    subst e
    exact I1.fpOk (Nat.le_refl _) (I1.hok.fresh (Nat.le_refl _))
theorem lc_sq {K : PySem.W.Frag} {b : Bool} {a : Addr} {xs : List V} {g : TG} {tt : TT} {te : TE} {vs : List Nat} {σ : L2.St} {H1 : Hp} {D : Addr} {Qd : Hp → Prop} (Pv : Nat → Hp → Prop) (h0 : Pv 0 (upd H1 D (.lst []))) (hl : ∀ i H, i ≤ xs.length → Pv i H → Sq K H b a xs)
    (hs : ∀ i x H, xs[i]? = some x → Pv i H → g x (wipe σ vs) H fun σ2 H2 => wipe σ2 vs = wipe σ vs ∧ tt σ2 H2 fun b H3 =>
      if b = true then te σ2 H3 fun y H4 => ∃ acc, H4 D = some (.lst acc) ∧ acc.length < sizeLine ∧ Pv (i + 1) (upd H4 D (.lst (acc ++ [y]))) else Pv (i + 1) H3) (hd : ∀ H, Pv xs.length H → Qd H) :
    ∃ W : Nat → Nat → Hp → Prop, (∃ m, W 0 m (upd H1 D (.lst []))) ∧ ∀ i m H, W i m H →
      ((Its K b a).stop i H ∧ Qd H) ∨ ((Its K b a).go i H ∧ ∃ Nx : Hp → Prop, (∀ H', Nx H' → ∃ m', m' < m ∧ W (i + 1) m' H') ∧ ∀ x H', (Its K b a).yld i H x H' → g x (wipe σ vs) H' fun σ2 H2 => wipe σ2 vs = wipe σ vs ∧ tt σ2 H2 fun b H3 =>
        if b = true then te σ2 H3 fun y H4 => ∃ acc, H4 D = some (.lst acc) ∧ acc.length < sizeLine ∧ Nx (upd H4 D (.lst (acc ++ [y]))) else Nx H3) := by
  cases b with
  | true => exact lc_list Pv h0 hl hs hd
  | false => exact lc_tup Pv h0 hl hs hd
end L2X
namespace Dt
open PySem PySem.Spec PyProof.Rows L2 L2X
open SX (S)
/-! ### what a def promises, in one -/
/-- a def of the text as it stands behind the top -/
structure Df (K : PySem.W.Frag) (mg : Str → Option Value) (nm : Str) (st : Stmt) (ps : List Str) : Prop where
  ex : ∃ f fd, Fun K nm nm st f fd ∧ mg nm = some (.ref f) ∧ Binds K fd ps []
/-- .. with its promise -/
structure Pm (P : Program) (w : World) (K : PySem.W.Frag) (mg : Str → Option Value) (base : Heap) (CX : CXT) (k : Nat) (nm : Str) (ps : List Str) (sp : Sp) : Prop where
  ex : ∃ f fd, FnOk P w K mg base CX k f fd ps sp ∧ mg nm = some (.ref f) ∧ PySem.W.keepIn K (.ref f) = true ∧ Binds K fd ps []
theorem Pm.of {P : Program} {w : World} {K : PySem.W.Frag} {mg : Str → Option Value} {base : Heap} {CX : CXT} {k : Nat} {nm : Str} {st : Stmt} {ps : List Str} {sp : Sp} (d : Df K mg nm st ps) (h : ∀ f fd, Fun K nm nm st f fd → FnOk P w K mg base CX k f fd ps sp) : Pm P w K mg base CX k nm ps sp := by
  obtain ⟨f, fd, F, m, b⟩ := d.ex
  exact ⟨f, fd, h f fd F, m, F.kp, b⟩
/-! ### parts -/
def strB (x y : V) (n : Int) : Bool := match y with
  | .int m => decide (1 ≤ m) && betw x 0 (n - m)
  | _ => false
theorem strB_no {x y : V} {n : Int} (h : isInt y = false) : strB x y n = false := by
  cases y with
  | int i => cases h
  | _ => rfl
theorem strB_true {x y : V} {n : Nat} (h : strB x y (n : Int) = true) : ∃ t m : Nat, x = .int t ∧ y = .int m ∧ 1 ≤ m ∧ t + m ≤ n := by
  cases y with
  | int m =>
    unfold strB at h
    rw [Bool.and_eq_true, decide_eq_true_iff] at h
    obtain ⟨h1, h2⟩ := h
    cases x with
    | int t =>
      rw [betw_int, Bool.and_eq_true, decide_eq_true_iff, decide_eq_true_iff] at h2
      refine ⟨t.toNat, m.toNat, ?_, ?_, by omega, by omega⟩
      · rw [Int.toNat_of_nonneg h2.1]
      · rw [Int.toNat_of_nonneg (by omega)]
    | _ => cases h2
  | _ => cases h
def cutR (rs : List (List Nat)) (t l h w : Nat) : List (List Nat) := ((rs.drop t).take h).map fun r => (r.drop l).take w
theorem cutV_mid (xs : List V) (t h : Nat) (b : t + h ≤ xs.length) : cutV xs (some (t : Int)) (some ((t : Int) + (h : Int))) = (xs.drop t).take h := by
  have e : ((t : Int) + (h : Int)) = ((t + h : Nat) : Int) := by omega
  unfold cutV
  rw [e, HT.sIx_nat, HT.sIx_nat, Nat.min_eq_left b, Nat.min_eq_left (by omega), Nat.add_sub_cancel_left]
theorem cutS_mid (l : List Nat) (t h : Nat) (b : t + h ≤ l.length) : cutS (S l) (some (t : Int)) (some ((t : Int) + (h : Int))) = S ((l.drop t).take h) := by
  have e : ((t : Int) + (h : Int)) = ((t + h : Nat) : Int) := by omega
  unfold cutS
  rw [e, SX.S_len, HT.sIx_nat, HT.sIx_nat, Nat.min_eq_left b, Nat.min_eq_left (by omega), Nat.add_sub_cancel_left]
section
variable {P : Program} {w : World} {K : PySem.W.Frag} {mg : Str → Option Value} {base : Heap} {C CP : Addr}
end
end Dt
namespace Dt
open PySem PySem.Spec PyProof.Rows L2 L2X
open SX (S)
/-! ### dots turned over -/
def flipC (c : Nat) : Nat := if c = 35 then 46 else 35
def flipAt (ls : List (List Nat)) (r c : Nat) : List (List Nat) := ls.set r ((ls.getD r []).set c (flipC ((ls.getD r []).getD c 0)))
def flipAll (ls : List (List Nat)) (ps : List (Nat × Nat)) : List (List Nat) := ps.foldl (fun a p => flipAt a p.1 p.2) ls
theorem flip_ok {c : Nat} : flipC c = 35 ∨ flipC c = 46 := by
  unfold flipC
  split
  · exact .inr rfl
  · exact .inl rfl
theorem flipAt_eq {ls : List (List Nat)} {r c x : Nat} {l : List Nat} (h : ls[r]? = some l) (hx : l[c]? = some x) : flipAt ls r c = ls.set r (l.set c (flipC x)) := by
  unfold flipAt
  rw [set_getD h, getD_at hx]
theorem RowsR.flip {high wide r c : Nat} {rs : List (List Nat)} (h : RowsR high wide rs) (hr : r < high) (hc : c < wide) : RowsR high wide (flipAt rs r c) := by
  have hr' : r < rs.length := by rw [h.len]; exact hr
  have e1 : rs[r]? = some rs[r] := List.getElem?_eq_getElem hr'
  have rw1 := h.row rs[r] (List.getElem_mem hr')
  have hc' : c < rs[r].length := by rw [rw1.len]; exact hc
  have e2 : rs[r][c]? = some rs[r][c] := List.getElem?_eq_getElem hc'
  rw [flipAt_eq e1 e2]
  refine ⟨by rw [List.length_set, h.len], fun l hl => ?_⟩
  rcases List.mem_or_eq_of_mem_set hl with q | q
  · exact h.row l q
  · rw [q]
    refine ⟨by rw [List.length_set, rw1.len], fun x hx => ?_⟩
    rcases List.mem_or_eq_of_mem_set hx with q2 | q2
    · exact rw1.sg x q2
    · rw [q2]
      exact flip_ok
theorem RowsR.flips {high wide : Nat} : ∀ {ps : List (Nat × Nat)} {rs : List (List Nat)}, RowsR high wide rs → (∀ p ∈ ps, p.1 < high ∧ p.2 < wide) → RowsR high wide (flipAll rs ps)
  | [], _, h, _ => h
  | p :: ps, rs, h, hp => by
    have h1 := hp p List.mem_cons_self
    exact RowsR.flips (ps := ps) (h.flip h1.1 h1.2) fun q hq => hp q (List.mem_cons_of_mem _ hq)
structure Grid (H : Hp) (g : Addr) (as : List Addr) (ls : List (List Nat)) : Prop where
  top : H g = some (.lst (as.map V.ref))
  len : as.length = ls.length
  row : ∀ (i : Nat) (a : Addr) (l : List Nat), as[i]? = some a → ls[i]? = some l → H a = some (.lst (l.map ch))
  nd : as.Nodup
  off : g ∉ as
theorem Grid.same {H H' : Hp} {g : Addr} {as : List Addr} {ls : List (List Nat)} (G : Grid H g as ls) (s : Same H H') : Grid H' g as ls := ⟨s _ _ G.top, G.len, fun i a l h1 h2 => s _ _ (G.row i a l h1 h2), G.nd, G.off⟩
theorem Grid.put {H : Hp} {g a : Addr} {as : List Addr} {ls : List (List Nat)} {r c x : Nat} {l : List Nat} (G : Grid H g as ls) (ha : as[r]? = some a) (hl : ls[r]? = some l) : Grid (upd H a (.lst ((l.map ch).set c (ch x)))) g as (ls.set r (l.set c x)) := by
  have na : g ≠ a := fun e => G.off (e ▸ List.mem_of_getElem? ha)
  refine ⟨by rw [upd_ne na]; exact G.top, by rw [List.length_set, G.len], fun i b m hb hm => ?_, G.nd, G.off⟩
  by_cases e : i = r
  · subst e
    rw [ha] at hb
    cases hb
    have hlt := (List.getElem?_eq_some_iff.mp hl).1
    rw [List.getElem?_set_self hlt] at hm
    cases hm
    rw [upd_same, List.map_set]
  · rw [List.getElem?_set_ne (Ne.symm e)] at hm
    have nb : b ≠ a := fun q => by
      subst q
      obtain ⟨h1, e1⟩ := List.getElem?_eq_some_iff.mp hb
      obtain ⟨h2, e2⟩ := List.getElem?_eq_some_iff.mp ha
      exact e ((List.getElem_inj G.nd).mp (e1.trans e2.symm))
    rw [upd_ne nb]
    exact G.row i b m hb hm
/-- one more row -/
theorem Grid.add {H : Hp} {g a : Addr} {as : List Addr} {ls : List (List Nat)} {l : List Nat} (G : Grid H g as ls) (hn : H a = none) : Grid (upd (upd H a (.lst (l.map ch))) g (.lst (as.map V.ref ++ [V.ref a]))) g (as ++ [a]) (ls ++ [l]) := by
  have na : g ≠ a := ne_of_none G.top hn
  have old : ∀ b ∈ as, H b ≠ none := fun b hb e => by
    obtain ⟨i, hi⟩ := List.mem_iff_getElem?.mp hb
    have hlt : i < ls.length := by
      rw [← G.len]
      exact (List.getElem?_eq_some_iff.mp hi).1
    have := G.row i b _ hi (List.getElem?_eq_getElem hlt)
    rw [e] at this
    cases this
  have am : a ∉ as := fun h => old a h hn
  refine ⟨?_, by rw [List.length_append, List.length_append, G.len]; rfl, fun i b m hb hm => ?_, ?_, ?_⟩
  · rw [upd_same, List.map_append]
    rfl
  · have nbg : b ≠ g := fun q => by
      subst q
      rcases List.mem_append.mp (List.mem_of_getElem? hb) with z | z
      · exact G.off z
      · exact na (List.mem_singleton.mp z)
    rw [upd_ne nbg]
    by_cases hi : i < as.length
    · rw [List.getElem?_append_left hi] at hb
      rw [List.getElem?_append_left (by rw [← G.len]; exact hi)] at hm
      have nba : b ≠ a := fun q => am (q ▸ List.mem_of_getElem? hb)
      rw [upd_ne nba]
      exact G.row i b m hb hm
    · have hi2 : i = as.length := by
        have := (List.getElem?_eq_some_iff.mp hb).1
        rw [List.length_append, List.length_singleton] at this
        omega
      rw [hi2, List.getElem?_concat_length] at hb
      rw [hi2, G.len, List.getElem?_concat_length] at hm
      cases hb
      cases hm
      rw [upd_same]
  · rw [List.nodup_append]
    exact ⟨G.nd, (by simp), fun x hx y hy e => am (by rw [← List.mem_singleton.mp hy, ← e]; exact hx)⟩
  · intro h
    rcases List.mem_append.mp h with z | z
    · exact G.off z
    · exact na (List.mem_singleton.mp z)
/-- .. and its rows are new -/
structure GridN (H0 H : Hp) (g : Addr) (as : List Addr) (ls : List (List Nat)) : Prop where
  gr : Grid H g as ls
  sm : Same H0 H
  ng : H0 g = none
  nr : ∀ a ∈ as, H0 a = none
theorem GridN.put {H0 H : Hp} {g a : Addr} {as : List Addr} {ls : List (List Nat)} {r c x : Nat} {l : List Nat} (G : GridN H0 H g as ls) (ha : as[r]? = some a) (hl : ls[r]? = some l) : GridN H0 (upd H a (.lst ((l.map ch).set c (ch x)))) g as (ls.set r (l.set c x)) :=
  ⟨G.gr.put ha hl, same_over G.sm (G.nr a (List.mem_of_getElem? ha)), G.ng, G.nr⟩
theorem GridN.add {H0 H : Hp} {g a : Addr} {as : List Addr} {ls : List (List Nat)} {l : List Nat} (G : GridN H0 H g as ls) (hn : H a = none) : GridN H0 (upd (upd H a (.lst (l.map ch))) g (.lst (as.map V.ref ++ [V.ref a]))) g (as ++ [a]) (ls ++ [l]) := by
  have na := G.sm.free hn
  refine ⟨G.gr.add hn, same_over (same_over G.sm na) G.ng, G.ng, fun b hb => ?_⟩
  rcases List.mem_append.mp hb with z | z
  · exact G.nr b z
  · rw [List.mem_singleton.mp z]
    exact na
theorem GridN.same {H0 H H' : Hp} {g : Addr} {as : List Addr} {ls : List (List Nat)} (G : GridN H0 H g as ls) (s : Same H H') : GridN H0 H' g as ls := ⟨G.gr.same s, G.sm.trans s, G.ng, G.nr⟩
theorem GridN.same' {H0 H : Hp} {g E : Addr} {as : List Addr} {ls : List (List Nat)} {xs ys : List V} (G : GridN H0 H g as ls) (_ : H E = some (.lst xs)) (n1 : g ≠ E) (n2 : ∀ a ∈ as, a ≠ E) (n3 : H0 E = none) : GridN H0 (upd H E (.lst ys)) g as ls :=
  ⟨⟨by rw [upd_ne n1]; exact G.gr.top, G.gr.len, fun i a l h1 h2 => by rw [upd_ne (n2 a (List.mem_of_getElem? h1))]; exact G.gr.row i a l h1 h2, G.gr.nd, G.gr.off⟩, same_over G.sm n3, G.ng, G.nr⟩
end Dt
namespace Dt
open PySem PySem.Spec PyProof.Rows L2 L2X
open SX (S)
theorem map_at2 {α : Type} {f : α → V} {l : List α} {i : Nat} {x : V} (h : (l.map f)[i]? = some x) : ∃ a, l[i]? = some a ∧ x = f a := by
  rw [List.getElem?_map] at h
  cases e : l[i]? with
  | none =>
    rw [e] at h
    cases h
  | some z =>
    rw [e] at h
    exact ⟨z, rfl, (Option.some.inj h).symm⟩
theorem Grid.dn {H H' : Hp} {d g : Addr} {as : List Addr} {ls : List (List Nat)} (G : Grid H g as ls) (s : Do d H H') (ng : g ≠ d) (na : ∀ a ∈ as, a ≠ d) : Grid H' g as ls :=
  ⟨s _ _ G.top ng, G.len, fun i a l h1 h2 => s _ _ (G.row i a l h1 h2) (na a (List.mem_of_getElem? h1)), G.nd, G.off⟩
/-- rows under work, new since H0, the drawing list at d -/
structure GridD (d : Addr) (H0 H : Hp) (g : Addr) (as : List Addr) (ls : List (List Nat)) : Prop where
  gr : Grid H g as ls
  sm : Do d H0 H
  ng : H0 g = none
  nr : ∀ a ∈ as, H0 a = none
  gd : g ≠ d
  ad : ∀ a ∈ as, a ≠ d
theorem GridD.dn {d : Addr} {H0 H H' : Hp} {g : Addr} {as : List Addr} {ls : List (List Nat)} (G : GridD d H0 H g as ls) (s : Do d H H') : GridD d H0 H' g as ls := ⟨G.gr.dn s G.gd G.ad, G.sm.trans s, G.ng, G.nr, G.gd, G.ad⟩
theorem GridD.put {d : Addr} {H0 H : Hp} {g a : Addr} {as : List Addr} {ls : List (List Nat)} {r c x : Nat} {l : List Nat} (G : GridD d H0 H g as ls) (ha : as[r]? = some a) (hl : ls[r]? = some l) : GridD d H0 (upd H a (.lst ((l.map ch).set c (ch x)))) g as (ls.set r (l.set c x)) :=
  ⟨G.gr.put ha hl, G.sm.upd (G.nr a (List.mem_of_getElem? ha)), G.ng, G.nr, G.gd, G.ad⟩
theorem GridD.same' {d : Addr} {H0 H : Hp} {g E : Addr} {as : List Addr} {ls : List (List Nat)} {ys : List V} (G : GridD d H0 H g as ls) (n1 : g ≠ E) (n2 : ∀ a ∈ as, a ≠ E) (n3 : H0 E = none) : GridD d H0 (upd H E (.lst ys)) g as ls :=
  ⟨⟨by rw [upd_ne n1]; exact G.gr.top, G.gr.len, fun i a l h1 h2 => by rw [upd_ne (n2 a (List.mem_of_getElem? h1))]; exact G.gr.row i a l h1 h2, G.gr.nd, G.gr.off⟩, G.sm.upd n3, G.ng, G.nr, G.gd, G.ad⟩
theorem Grid.none {H : Hp} {g E : Addr} {as : List Addr} {ls : List (List Nat)} (G : Grid H g as ls) (hE : H E = none) : g ≠ E ∧ ∀ a ∈ as, a ≠ E := by
  refine ⟨fun e => ?_, fun a ha e => ?_⟩
  · have n1 := G.top
    rw [e, hE] at n1
    cases n1
  · subst e
    obtain ⟨j, hj⟩ := List.mem_iff_getElem?.mp ha
    have hlt : j < ls.length := by
      rw [← G.len]
      exact (List.getElem?_eq_some_iff.mp hj).1
    have n1 := G.row j _ _ hj (List.getElem?_eq_getElem hlt)
    rw [hE] at n1
    cases n1
theorem RowsR.put {high wide r c x : Nat} {ls : List (List Nat)} {l : List Nat} (R : RowsR high wide ls) (hl : ls[r]? = some l) (hx : x = 35 ∨ x = 46) : RowsR high wide (ls.set r (l.set c x)) := by
  refine ⟨by rw [List.length_set, R.len], fun m hm => ?_⟩
  rcases List.mem_or_eq_of_mem_set hm with q | q
  · exact R.row m q
  · subst q
    have rl := R.row l (List.mem_of_getElem? hl)
    refine ⟨by rw [List.length_set, rl.len], fun y hy => ?_⟩
    rcases List.mem_or_eq_of_mem_set hy with q2 | q2
    · exact rl.sg y q2
    · rw [q2]
      exact hx
theorem dot_hash (b : Bool) : ∃ c : Nat, (c = 35 ∨ c = 46) ∧ atI (".#" : Str).cps.toList (if b = true then 1 else 0) = some c := by
  cases b with
  | true => exact ⟨35, .inl rfl, by decide +kernel⟩
  | false => exact ⟨46, .inr rfl, by decide +kernel⟩
section
variable {P : Program} {w : World} {K : PySem.W.Frag} {mg : Str → Option Value} {base : Heap}
end
end Dt
namespace Dt
open PySem PySem.Spec PyProof.Rows L2 L2X
open SX (S)
/-! ### shapes as data -/
structure Sh where
  sg : Nat
  w : Nat
  rs : List (List Nat)
def ShAt (H : Hp) (x : V) (s : Sh) : Prop := ∃ t p, x = .ref t ∧ H t = some (.tup [ch s.sg, .ref p]) ∧ H p = some (.tup (s.rs.map rv))
structure Good (high wide : Nat) (s : Sh) : Prop where
  pic : PicR high s.w s.rs
  w8 : s.w ≤ wide
  s0 : 33 ≤ s.sg
  s1 : s.sg ≤ 126
  dot : ∃ l ∈ s.rs, 35 ∈ l
structure Shs (H : Hp) (xs : List V) (ss : List Sh) : Prop where
  len : xs.length = ss.length
  at_ : ∀ (i : Nat) (x : V) (s : Sh), xs[i]? = some x → ss[i]? = some s → ShAt H x s
structure Goods (high wide : Nat) (ss : List Sh) : Prop where
  all : ∀ s ∈ ss, Good high wide s
  nd : (ss.map (·.rs)).Nodup
theorem ShAt.same {H H' : Hp} {x : V} {s : Sh} (h : ShAt H x s) (sm : Same H H') : ShAt H' x s :=
  let ⟨t, p, e, h1, h2⟩ := h; ⟨t, p, e, sm _ _ h1, sm _ _ h2⟩
theorem ShAt.dn {H H' : Hp} {d : Addr} {n : Nat} {x : V} {s : Sh} (h : ShAt H x s) (D : Du H d n) (sm : Do d H H') : ShAt H' x s := by
  obtain ⟨t, p, e, h1, h2⟩ := h
  obtain ⟨a, b, c, hd, _⟩ := D
  exact ⟨t, p, e, sm _ _ h1 (ne_of h1 hd (by intro z; cases z)), sm _ _ h2 (ne_of h2 hd (by intro z; cases z))⟩
theorem ShAt.updl {H : Hp} {l : Addr} {ys zs : List V} {x : V} {s : Sh} (h : ShAt H x s) (hl : H l = some (.lst ys)) : ShAt (upd H l (.lst zs)) x s := by
  obtain ⟨t, p, e, h1, h2⟩ := h
  exact ⟨t, p, e, by rw [upd_ne (ne_of h1 hl (by intro z; cases z))]; exact h1, by rw [upd_ne (ne_of h2 hl (by intro z; cases z))]; exact h2⟩
section
variable {H H' : Hp} {xs : List V} {ss : List Sh}
theorem Shs.same (h : Shs H xs ss) (sm : Same H H') : Shs H' xs ss := ⟨h.len, fun i x s a b => (h.at_ i x s a b).same sm⟩
theorem Shs.dn {d : Addr} {n : Nat} (h : Shs H xs ss) (D : Du H d n) (sm : Do d H H') : Shs H' xs ss := ⟨h.len, fun i x s a b => (h.at_ i x s a b).dn D sm⟩
theorem Shs.updl {l : Addr} {ys zs : List V} (h : Shs H xs ss) (hl : H l = some (.lst ys)) : Shs (upd H l (.lst zs)) xs ss := ⟨h.len, fun i x s a b => (h.at_ i x s a b).updl hl⟩
theorem Shs.nil : Shs H [] [] := ⟨rfl, fun i x s h => nomatch h⟩
theorem Shs.add {x : V} {s : Sh} (h : Shs H xs ss) (a : ShAt H x s) : Shs H (xs ++ [x]) (ss ++ [s]) := by
  refine ⟨by rw [List.length_append, List.length_append, h.len]; rfl, fun i y s' hy hs => ?_⟩
  by_cases hi : i < xs.length
  · rw [List.getElem?_append_left hi] at hy
    rw [List.getElem?_append_left (by rw [← h.len]; exact hi)] at hs
    exact h.at_ i y s' hy hs
  · rw [List.getElem?_append_right (by omega)] at hy
    rw [List.getElem?_append_right (by rw [← h.len]; omega), ← h.len] at hs
    rcases hk : i - xs.length with _ | k
    · rw [hk] at hy hs
      cases hy
      cases hs
      exact a
    · rw [hk] at hy
      cases hy
end
theorem Goods.nil {high wide : Nat} : Goods high wide [] := ⟨(fun s h => nomatch h), List.nodup_nil⟩
theorem Goods.add {high wide : Nat} {ss : List Sh} {s : Sh} (h : Goods high wide ss) (g : Good high wide s) (nw : s.rs ∉ ss.map (·.rs)) : Goods high wide (ss ++ [s]) := by
  refine ⟨fun y hy => ?_, ?_⟩
  · rcases List.mem_append.mp hy with z | z
    · exact h.all y z
    · rw [List.mem_singleton.mp z]
      exact g
  · rw [List.map_append, List.nodup_append]
    refine ⟨h.nd, by simp, fun x hx y hy e => ?_⟩
    have : y = s.rs := by simpa using hy
    rw [← this, ← e] at nw
    exact nw hx
def sD (s : Sh) : PyData := .tuple [.str ⟨#[s.sg]⟩, .tuple (s.rs.map rD)]
def pDs (s : Sh) : PyData := .tuple (s.rs.map rD)
theorem dp_sh {K : PySem.W.Frag} {H : Hp} {x : V} {s : Sh} (h : ShAt H x s) : Dp K H x (sD s) := by
  obtain ⟨t, p, rfl, h1, h2⟩ := h
  exact .tup (SqT.of h1) (.cons (.str _) (.cons (.tup (SqT.of h2) (dp_rows _)) .nil))
theorem dp_shs {K : PySem.W.Frag} {H : Hp} : ∀ {xs : List V} {ss : List Sh}, Shs H xs ss → DpAll K H xs (ss.map sD)
  | [], [], _ => .nil
  | [], _ :: _, h => nomatch h.len
  | _ :: _, [], h => nomatch h.len
  | x :: xs, s :: ss, h => .cons (dp_sh (h.at_ 0 x s rfl rfl)) (dp_shs ⟨Nat.succ.inj h.len, fun i y q a b => h.at_ (i + 1) y q a b⟩)
theorem lay_sh {high wide : Nat} : ∀ ss : List Sh, (∀ s ∈ ss, Good high wide s) → PyData.canLayAll0 (ss.map sD) = true ∧ PyData.depthAll (ss.map sD) ≤ 3 ∧ PyData.canLayAll0 (ss.map pDs) = true ∧ PyData.depthAll (ss.map pDs) ≤ 3
  | [], _ => ⟨by simp [PyData.canLayAll0], by simp [PyData.depthAll], by simp [PyData.canLayAll0], by simp [PyData.depthAll]⟩
  | s :: r, h => by
    obtain ⟨h1, h2, h3, h4⟩ := lay_sh r fun m hm => h m (List.mem_cons_of_mem _ hm)
    have g := h s List.mem_cons_self
    obtain ⟨r1, r2⟩ := lay_rows s.rs fun l hl => (g.pic.row l hl).sg
    have so : PyData.strOk ⟨#[s.sg]⟩ = true := by
      unfold PyData.strOk
      have := g.s1
      simp
      omega
    refine ⟨?_, ?_, ?_, ?_⟩
    · rw [List.map_cons]
      simp [PyData.canLayAll0, PyData.canLay0, sD, h1, r1, so]
    · rw [List.map_cons]
      simp only [PyData.depthAll, PyData.depth, sD]
      omega
    · rw [List.map_cons]
      simp [PyData.canLayAll0, PyData.canLay0, pDs, h3, r1]
    · rw [List.map_cons]
      simp only [PyData.depthAll, PyData.depth, pDs]
      omega
theorem shaped_shs {high wide : Nat} {ss : List Sh} (h : ∀ s ∈ ss, Good high wide s) : SeqAt.shaped (.list (ss.map sD)) = true := by
  obtain ⟨h1, h2, _⟩ := lay_sh ss h
  unfold SeqAt.shaped
  rw [Bool.and_eq_true, decide_eq_true_iff]
  refine ⟨by simp [PyData.canLay0, h1], ?_⟩
  simp only [PyData.depth]
  omega
theorem shaped_pics {high wide : Nat} {ss : List Sh} (h : ∀ s ∈ ss, Good high wide s) : SeqAt.shaped (.list (ss.map pDs)) = true := by
  obtain ⟨_, _, h1, h2⟩ := lay_sh ss h
  unfold SeqAt.shaped
  rw [Bool.and_eq_true, decide_eq_true_iff]
  refine ⟨by simp [PyData.canLay0, h1], ?_⟩
  simp only [PyData.depth]
  omega
theorem eqv_rowsD : ∀ ls ms : List (List Nat), PyData.eqvAll (ls.map rD) (ms.map rD) = decide (ls = ms)
  | [], [] => by simp [PyData.eqvAll]
  | [], _ :: _ => by simp [PyData.eqvAll]
  | _ :: _, [] => by simp [PyData.eqvAll]
  | l :: r, m :: t => by
    rw [List.map_cons, List.map_cons, PyData.eqvAll, eqv_rowsD r t]
    have e : PyData.eqv (rD l) (rD m) = decide (l = m) := by
      show (S l == S m) = _
      exact SX.S_beq_eq
    rw [e]
    apply Bool.eq_iff_iff.mpr
    simp
theorem eqv_pics (ls ms : List (List Nat)) : PyData.eqv (.tuple (ls.map rD)) (.tuple (ms.map rD)) = decide (ls = ms) := by
  rw [← eqv_rowsD ls ms]
  simp [PyData.eqv]
theorem any_pics (ss : List Sh) (ls : List (List Nat)) : ((ss.map pDs).any fun z => PyData.eqv z (.tuple (ls.map rD))) = decide (ls ∈ ss.map (·.rs)) := by
  apply Bool.eq_iff_iff.mpr
  rw [List.any_eq_true, decide_eq_true_iff]
  constructor
  · rintro ⟨z, hz, e⟩
    obtain ⟨s, hs, rfl⟩ := List.mem_map.mp hz
    have e2 : PyData.eqv (.tuple (s.rs.map rD)) (.tuple (ls.map rD)) = true := e
    rw [eqv_pics, decide_eq_true_iff] at e2
    rw [← e2]
    exact List.mem_map.mpr ⟨s, hs, rfl⟩
  · intro h
    obtain ⟨s, hs, e⟩ := List.mem_map.mp h
    refine ⟨pDs s, List.mem_map.mpr ⟨s, hs, rfl⟩, ?_⟩
    show PyData.eqv (.tuple (s.rs.map rD)) (.tuple (ls.map rD)) = true
    rw [eqv_pics, e, decide_eq_true rfl]
/-! ### texts -/
theorem joinL_nil : ∀ ls : List (List Nat), TL.joinL [] ls = ls.flatten
  | [] => rfl
  | [c] => by
    show c = c ++ []
    rw [List.append_nil]
  | c :: d :: r => by
    show c ++ ([] ++ TL.joinL [] (d :: r)) = _
    rw [joinL_nil (d :: r)]
    rfl
theorem join_flat (ls : List (List Nat)) : Txt.join "" (ls.map S) = S ls.flatten := by
  rw [s_empty, SX.join_S, joinL_nil]
theorem lens_flat : ∀ {ls : List (List Nat)} {w : Nat}, (∀ l ∈ ls, l.length = w) → ((ls.map S).map (·.length)).sum = ls.length * w
  | [], w, _ => by simp
  | l :: r, w, h => by
    rw [List.map_cons, List.map_cons, List.sum_cons, lens_flat fun m hm => h m (List.mem_cons_of_mem _ hm), SX.S_len, h l List.mem_cons_self, List.length_cons, Nat.add_mul, Nat.one_mul, Nat.add_comm]
theorem cutS_to (l : List Nat) (n : Nat) : cutS (S l) none (some (n : Int)) = S (l.take n) := by
  unfold cutS
  rw [SX.S_len, HT.sIx_nat]
  have e0 : HT.sIx l.length 0 none = 0 := rfl
  rw [e0, Nat.sub_zero]
  show S (((S l).cps.toList.drop 0).take (min n l.length)) = _
  have e1 : (S l).cps.toList = l := by simp [S]
  rw [e1, List.drop_zero]
  congr 1
  by_cases h : n ≤ l.length
  · rw [Nat.min_eq_left h]
  · rw [Nat.min_eq_right (by omega), List.take_length, List.take_of_length_le (by omega)]
theorem gap_ok {g : Nat} (h : g ≤ 120) : MulOk "." (g : Int) ∧ Txt.mul "." (g : Int) = S (List.replicate g 46) := by
  rw [s_dot]
  rcases Nat.eq_zero_or_pos g with e | e
  · subst e
    refine ⟨⟨by decide, fun n => absurd (by decide) n, fun n => absurd (by decide) n⟩, ?_⟩
    unfold Txt.mul
    rw [if_pos (by decide)]
    rfl
  · exact ⟨mul_ok 46 g e h, mul_sign 46 g e⟩
theorem has_dot {rs : List (List Nat)} (h : 35 ∈ rs.flatten) : ∃ l ∈ rs, 35 ∈ l := by
  obtain ⟨l, hl, hm⟩ := List.mem_flatten.mp h
  exact ⟨l, hl, hm⟩
end Dt
namespace Dt
open PySem PySem.Spec PyProof.Rows L2 L2X
open SX (S)
/-! ### unlike -/
def misZ (l m : List Nat) : Nat := ((l.zip m).filter fun p => decide (p.1 ≠ p.2)).length
def misP (rs ss : List (List Nat)) : Int := ((rs.zip ss).map fun p => (misZ p.1 p.2 : Int)).sum
abbrev sUS : Stmt := topS 26
theorem scUS : FnScope ["row", "other", "sign", "beside"] ["row", "other"] (defScope sUS) := ⟨rfl, rfl, rfl, by decide +kernel, rfl, by decide +kernel, by decide +kernel⟩
def spUS : Sp := fun vs H Q _ => ∃ l m, vs = [rv l, rv m] ∧ l.length = m.length ∧ l.length ≤ 120 ∧ ∀ H', Same H H' → Q (.int (misZ l m)) H'
abbrev sUnlP : Stmt := topS 25
theorem scUnlP : FnScope ["one", "other", "row", "beside"] ["one", "other"] (defScope sUnlP) := ⟨rfl, rfl, rfl, by decide +kernel, rfl, by decide +kernel, by decide +kernel⟩
/-- of two pictures -/
def spUnlP (CP : Addr) : Sp := fun vs H Q E => ∃ (a b : Addr) (high wide high2 wide2 : Nat) (rs ss : List (List Nat)), vs = [.ref a, .ref b] ∧ H a = some (.tup (rs.map rv)) ∧ H b = some (.tup (ss.map rv)) ∧ PicR high wide rs ∧ PicR high2 wide2 ss ∧
  ((high = high2 ∧ wide = wide2) → ∀ H', Same H H' → Q (.int (misP rs ss)) H') ∧ (¬ (high = high2 ∧ wide = wide2) → ∀ H', Same H H' → E (.ref CP) none H')
section
variable {P : Program} {w : World} {K : PySem.W.Frag} {mg : Str → Option Value} {base : Heap} {C CP : Addr}
theorem ok_US {f : Addr} {fd : FuncData} {k : Nat} (F : Fun K "_unlike_signs" "_unlike_signs" sUS f fd) (Z : Tz mg) : FnOk P w K mg base CX0 (k + 1) f fd ["row", "other"] spUS := by
  refine F.ok scUS (fun vs H Q E h => ?_) (fun cdv A outer s H vs Q E hr h => ?_)
  · obtain ⟨l, m, rfl, _⟩ := h
    rfl
  · obtain ⟨l, m, rfl, hlm, hl, q⟩ := h
    have nd := scUS.nd
    refine ⟨_, pss_one (ps_ret (pe_callB (cr_sum rfl) (by rfl) Z.sum (by decide +kernel) (pa_cons (pe_lc (own := [("sign", 2), ("beside", 3)]) (g := gTup K 2 (gCons (gName 2) (gCons (gName 3) gNil))) rfl nd (pi_zipG (by rfl) Z.zip (pa_cons (pv 0) (pa_cons (pv 1) pa_nil))) (blkOk_by (N := ["row", "other", "sign", "beside"]) (sc := defScope sUS) (by decide +kernel))
      (fun _ _ _ _ _ => pg_tup rfl (pgs_cons (pg_name (i := 2) nd rfl (Or.inl rfl)) (pgs_cons (pg_name (i := 3) nd rfl (Or.inl rfl)) pgs_nil)))
      (fun _ _ _ _ _ => pts_one (pt_cmpR op_ne (pv 2) (pv 3) (nomark _))) (fun _ _ _ _ _ => pe_int)) pa_nil))), ?_⟩
    refine ⟨rv l, rfl, rv m, rfl, .txt (S l), .txt (S m), chars (S l), chars (S m), rfl, rfl, rfl, fun D hD => lc_zipG (K := K) (A := .txt (S l)) (B := .txt (S m)) (xs := chars (S l)) (ys := chars (S m)) ?_
      (fun i H2 => Same H H2 ∧ H2 D = some (.lst ((List.replicate (((l.zip m).take i).filter fun p => decide (p.1 ≠ p.2)).length (1 : Int)).map V.int))) ⟨same_upd hD, upd_same⟩ (fun _ _ _ _ => ⟨rfl, rfl⟩) ?_ ?_⟩
    · rw [chars_S, chars_S, List.length_map, List.length_map, hlm]
    · rintro i x y H2 T hx hy ⟨sm, h2⟩ hT
      rw [chars_S, List.getElem?_map] at hx hy
      obtain ⟨a, ha, rfl⟩ : ∃ a, l[i]? = some a ∧ x = V.str ⟨#[a]⟩ := by
        cases e : l[i]? with
        | none =>
          rw [e] at hx
          cases hx
        | some z =>
          rw [e] at hx
          exact ⟨z, rfl, (Option.some.inj hx).symm⟩
      obtain ⟨b, hb, rfl⟩ : ∃ b, m[i]? = some b ∧ y = V.str ⟨#[b]⟩ := by
        cases e : m[i]? with
        | none =>
          rw [e] at hy
          cases hy
        | some z =>
          rw [e] at hy
          exact ⟨z, rfl, (Option.some.inj hy).symm⟩
      have hz : (l.zip m)[i]? = some (a, b) := List.getElem?_zip_eq_some.mpr ⟨ha, hb⟩
      have sT := same_upd (o := .tup [V.str ⟨#[a]⟩, V.str ⟨#[b]⟩]) hT
      have hlen : (((l.zip m).take i).filter fun p => decide (p.1 ≠ p.2)).length ≤ 120 := by
        refine Nat.le_trans (List.length_filter_le _ _) ?_
        rw [List.length_take, List.length_zip]
        omega
      refine ⟨T, _, rfl, SqT.of upd_same, rfl, _, _, rfl, _, _, rfl, rfl, rfl, .str ⟨#[a]⟩, rfl, .str ⟨#[b]⟩, rfl, rfl, _, rfl, ?_⟩
      rw [ch_dec]
      cases e : decide (a = b) with
      | true =>
        refine iteF ⟨sm.trans sT, ?_⟩
        rw [sT _ _ h2, take_snoc hz, List.filter_append]
        have : (List.filter (fun p : Nat × Nat => decide (p.1 ≠ p.2)) [(a, b)]) = [] := by
          have := of_decide_eq_true e
          simp [this]
        rw [this, List.append_nil]
      | false =>
        refine iteT ⟨_, sT _ _ h2, ?_, ?_, ?_⟩
        · rw [List.length_map, List.length_replicate]
          exact small1000 (by omega)
        · exact fun b o e => by
            rw [upd_ne (ne_of_none e hD)]
            exact sT _ _ (sm _ _ e)
        · rw [upd_same, take_snoc hz, List.filter_append]
          have : (List.filter (fun p : Nat × Nat => decide (p.1 ≠ p.2)) [(a, b)]) = [(a, b)] := by
            have := of_decide_eq_false e
            simp [this]
          rw [this, List.length_append, List.length_singleton, List.replicate_succ', List.map_append]
          rfl
    · rintro H2 ⟨sm, h2⟩
      have e : (l.zip m).take (chars (S l)).length = l.zip m := by
        apply List.take_of_length_le
        rw [chars_S, List.length_map, List.length_zip]
        omega
      rw [e] at h2
      refine ⟨D, _, rfl, SqL.of h2, ?_⟩
      rw [sum_ones]
      exact q H2 sm
theorem ok_unlP {f fS fW fU : Addr} {fd fdS fdW fdU : FuncData} {k : Nat} (F : Fun K "unlike" "unlike" sUnlP f fd) (Z : Tz mg) (NP : ExN K mg "NoPlace" CP) (G : GW P w K mg base C (k + 1)) (GZ : GS P w K mg base C (k + 1))
    (GU : FnOk P w K mg base CX0 (k + 1) fU fdU ["row", "other"] spUS) (mU : mg "_unlike_signs" = some (.ref fU)) (kU : PySem.W.keepIn K (.ref fU) = true) (bU : Binds K fdU ["row", "other"] []) : FnOk P w K mg base (L2.CX P w) (k + 2) f fd ["one", "other"] (spUnlP CP) := by
  obtain ⟨fW, fdW, GW, mW, kW, bW⟩ := G.ex
  obtain ⟨fS, fdS, GS, mS, kS, bS⟩ := GZ.ex
  refine F.okX scUnlP (fun vs H Q E h => ?_) (fun cdv A outer s H vs Q E hr h => ?_)
  · obtain ⟨a, b, _, _, _, _, _, _, rfl, _⟩ := h
    rfl
  · obtain ⟨a, b, high, wide, high2, wide2, rs, ss, rfl, ha, hb, pr, ps, q1, q2⟩ := h
    have nd := scUnlP.nd
    refine ⟨_, pss_cons (ps_expr (pe_callS GW hr (by rfl) mW kW bW (fun σ => passAt (takes_of rfl rfl rfl rfl) σ) (pa_cons (pv 0) pa_nil)))
      (pss_cons (ps_expr (pe_callS GW hr (by rfl) mW kW bW (fun σ => passAt (takes_of rfl rfl rfl rfl) σ) (pa_cons (pv 1) pa_nil)))
      (pss_cons (ps_if (pt_cmpR (op_neD hr.units) (pe_callS GS hr (by rfl) mS kS bS (fun σ => passAt (takes_of rfl rfl rfl rfl) σ) (pa_cons (pv 0) pa_nil)) (pe_callS GS hr (by rfl) mS kS bS (fun σ => passAt (takes_of rfl rfl rfl rfl) σ) (pa_cons (pv 1) pa_nil)) (nomark _))
        (pss_one (ps_raise rfl (takes_of rfl rfl rfl rfl) (pmk_own PySem.F.excBase_ValueError NP.x NP.g NP.k (raises_own NP.b NP.t) rfl))) pss_nil)
      (pss_one (ps_ret (pe_callB (cr_sum rfl) (by rfl) Z.sum (by decide +kernel) (pa_cons (pe_lc (own := [("row", 2), ("beside", 3)]) (g := gTup K 2 (gCons (gName 2) (gCons (gName 3) gNil))) (tt := tYes) rfl nd (pi_zipG (by rfl) Z.zip (pa_cons (pv 0) (pa_cons (pv 1) pa_nil))) (blkOk_by (N := ["one", "other", "row", "beside"]) (sc := defScope sUnlP) (by decide +kernel))
        (fun _ _ _ _ _ => pg_tup rfl (pgs_cons (pg_name (i := 2) nd rfl (Or.inl rfl)) (pgs_cons (pg_name (i := 3) nd rfl (Or.inl rfl)) pgs_nil)))
        (fun _ _ _ _ _ => pts_nil) (fun _ _ _ _ _ => pe_call GU hr (by rfl) mU kU bU .nil pass0 (pa_cons (pv 2) (pa_cons (pv 3) pa_nil)))) pa_nil)))))), ?_⟩
    refine ⟨.ref a, rfl, .ref a, true, rfl, askPic pr ha, fun _ H1 s1 => ?_, fun e => nomatch e⟩
    refine ⟨.ref b, rfl, .ref b, true, rfl, askPic ps (s1 _ _ hb), fun _ H2 s2 => ?_, fun e => nomatch e⟩
    have s12 := s1.trans s2
    refine ⟨.ref a, rfl, .ref a, rfl, .inr ⟨a, _, rfl, SqT.of (s12 _ _ ha), kn_rows pr, picOk_pic pr, fun p3 H3 s3 n3 h3 => ?_⟩⟩
    refine ⟨.ref b, rfl, .ref b, rfl, .inr ⟨b, _, rfl, SqT.of (s3 _ _ (s12 _ _ hb)), kn_rows ps, picOk_pic ps, fun p4 H4 s4 n4 h4 => ?_⟩⟩
    have sA := (s12.trans s3).trans s4
    have e1 := picSize pr
    have e2 := picSize ps
    refine ⟨.tuple [.int (((rs.map rv).length : Nat) : Int), .int (lenV ((rs.map rv).headD .non))], .tuple [.int (((ss.map rv).length : Nat) : Int), .int (lenV ((ss.map rv).headD .non))], .tup (SqT.of (s4 _ _ h3)) (.cons (.int _) (.cons (.int _) .nil)), .tup (SqT.of h4) (.cons (.int _) (.cons (.int _) .nil)), rfl, rfl, _, rfl, ?_⟩
    rw [e1.1, e1.2, e2.1, e2.2]
    have ee : PyData.eqv (.tuple [.int (high : Int), .int (wide : Int)]) (.tuple [.int (high2 : Int), .int (wide2 : Int)]) = decide (high = high2 ∧ wide = wide2) := by
      apply Bool.eq_iff_iff.mpr
      rw [decide_eq_true_iff]
      simp [PyData.eqv, PyData.eqvAll]
      omega
    rw [ee]
    by_cases hs : high = high2 ∧ wide = wide2
    · rw [decide_eq_true hs]
      refine iteF ?_
      refine ⟨.ref a, rfl, .ref b, rfl, .tup a, .tup b, rs.map rv, ss.map rv, rfl, SqT.of (sA _ _ ha), SqT.of (sA _ _ hb), fun D hD => lc_zipG (K := K) (A := .tup a) (B := .tup b) (xs := rs.map rv) (ys := ss.map rv) ?_
        (fun i H5 => Same H H5 ∧ H5 D = some (.lst ((((rs.zip ss).take i).map fun p => (misZ p.1 p.2 : Int)).map V.int))) ⟨sA.trans (same_upd hD), upd_same⟩ (fun i H5 _ z => ⟨SqT.of (z.1 _ _ ha), SqT.of (z.1 _ _ hb)⟩) ?_ ?_⟩
      · rw [List.length_map, List.length_map, pr.len, ps.len, hs.1]
      · rintro i x y H5 T hx hy ⟨sm, h5⟩ hT
        rw [List.getElem?_map] at hx hy
        obtain ⟨l, hl, rfl⟩ : ∃ l, rs[i]? = some l ∧ x = rv l := by
          cases e : rs[i]? with
          | none =>
            rw [e] at hx
            cases hx
          | some z =>
            rw [e] at hx
            exact ⟨z, rfl, (Option.some.inj hx).symm⟩
        obtain ⟨m, hm, rfl⟩ : ∃ m, ss[i]? = some m ∧ y = rv m := by
          cases e : ss[i]? with
          | none =>
            rw [e] at hy
            cases hy
          | some z =>
            rw [e] at hy
            exact ⟨z, rfl, (Option.some.inj hy).symm⟩
        have hz : (rs.zip ss)[i]? = some (l, m) := List.getElem?_zip_eq_some.mpr ⟨hl, hm⟩
        have sT := same_upd (o := .tup [rv l, rv m]) hT
        have l1 := (pr.row l (List.mem_of_getElem? hl)).len
        have l2 := (ps.row m (List.mem_of_getElem? hm)).len
        have w1 := pr.w1
        have h1' := pr.h1
        have hi : i < rs.length := (List.getElem?_eq_some_iff.mp hl).1
        rw [pr.len] at hi
        refine ⟨T, _, rfl, SqT.of upd_same, rfl, _, _, rfl, _, _, rfl, rfl, rfl, rv l, rfl, rv m, rfl, l, m, rfl, by omega, by omega, fun H6 s6 => ?_⟩
        refine ⟨_, s6 _ _ (sT _ _ h5), ?_, ?_, ?_⟩
        · rw [List.length_map, List.length_map, List.length_take]
          exact small1000 (by omega)
        · exact fun b o e => by
            rw [upd_ne (ne_of_none (sA _ _ e) hD)]
            exact s6 _ _ (sT _ _ (sm _ _ e))
        · rw [upd_same, take_snoc hz, List.map_append, List.map_append]
          rfl
      · rintro H5 ⟨sm, h5⟩
        have e : (rs.zip ss).take (rs.map rv).length = rs.zip ss := by
          apply List.take_of_length_le
          rw [List.length_map, List.length_zip]
          omega
        rw [e] at h5
        exact ⟨D, _, rfl, SqL.of h5, q1 hs H5 sm⟩
    · rw [decide_eq_false hs]
      exact iteT (q2 hs _ sA)
end
end Dt
namespace L2X
open PySem PySem.Spec PyProof.Rows L2
theorem op_eqDK {X : Cx} {K : PySem.W.Frag} (hK : X.K = K) (hu : X.A.units + 64 < cLine) : OpR X (compareOp .Eq) (rEqD K) := by
  subst hK
  exact op_eqD hu
end L2X
namespace Dt
open PySem PySem.Spec PyProof.Rows L2 L2X
open SX (S)
theorem passX0 {X : Cx} : Passes (L2.CX X.prog X.w) X E0 := fun _ _ _ _ _ _ _ h => by
  obtain ⟨_, _, _, _, _, _, _, _, _, _, _, _, z⟩ := h
  exact z.elim
/-! ### an alphabet as it stands, made of what is right -/
theorem ahs : ¬ (("_high" : Str) = "_shapes") := by decide +kernel
def aF (h : Int) (t : Addr) : List (Str × V) := putF "_shapes" (.ref t) (putF "_high" (.int h) [])
theorem aF_eq (h : Int) (t : Addr) : aF h t = ([("_high", V.int h), ("_shapes", V.ref t)] : List (Str × V)) := by
  show (if ("_high" : Str) = "_shapes" then [(("_high" : Str), V.ref t)] else (("_high" : Str), V.int h) :: putF "_shapes" (V.ref t) []) = ([("_high", V.int h), ("_shapes", V.ref t)] : List (Str × V))
  rw [if_neg ahs]
  all_goals rfl
theorem aF_high (h : Int) (t : Addr) : (aF h t).lookup ("_high" : Str) = some (.int h) := by
  unfold aF
  rw [lookup_putF, if_neg ahs, lookup_putF, if_pos rfl]
theorem aF_shapes (h : Int) (t : Addr) : (aF h t).lookup ("_shapes" : Str) = some (.ref t) := by
  unfold aF
  rw [lookup_putF, if_pos rfl]
theorem aF_no (h : Int) (t : Addr) {m : Str} (h1 : ¬ m = "_shapes") (h2 : ¬ m = "_high") : (aF h t).lookup m = none := by
  unfold aF
  rw [lookup_putF, if_neg h1, lookup_putF, if_neg h2]
  rfl
def AlpAt (C : Addr) (H : Hp) (o : Addr) (high : Nat) (ss : List Sh) : Prop := ∃ dx t xs, H o = some (.ins C dx (aF high t)) ∧ H t = some (.tup xs) ∧ Shs H xs ss
theorem AlpAt.same {C : Addr} {H H' : Hp} {o : Addr} {high : Nat} {ss : List Sh} (h : AlpAt C H o high ss) (s : Same H H') : AlpAt C H' o high ss :=
  let ⟨dx, t, xs, h1, h2, h3⟩ := h; ⟨dx, t, xs, s _ _ h1, s _ _ h2, h3.same s⟩
/-- what is asked of the class -/
structure Tal (K : PySem.W.Frag) (mg : Str → Option Value) (C : Addr) : Prop where
  cl : Cls K C
  nH : NoAttr K C "_high"
  nS : NoAttr K C "_shapes"
  mC : mg "Alphabet" = some (.ref C)
/-- a method with its promise -/
structure Mm (P : Program) (w : World) (K : PySem.W.Frag) (mg : Str → Option Value) (base : Heap) (k : Nat) (C : Addr) (m : Str) (ps : List Str) (sp : Sp) : Prop where
  ex : ∃ f fd, FnOk P w K mg base CX0 k f fd ps sp ∧ Meth K C m f ∧ Binds K fd ps []
abbrev cAl : Stmt := topS 65
abbrev sSg : Stmt := topS 66
theorem scSg : FnScope ["thing"] ["thing"] (defScope sSg) := ⟨rfl, rfl, rfl, by decide +kernel, rfl, by decide +kernel, by decide +kernel⟩
def spSg : Sp := fun vs H Q _ => ∃ c, vs = [ch c] ∧ 33 ≤ c ∧ c ≤ 126 ∧ Q (.bl true) H
abbrev sIS : Stmt := topS 67
theorem scIS : FnScope ["thing", "high", "rows", "columns"] ["thing", "high"] (defScope sIS) := ⟨rfl, rfl, rfl, by decide +kernel, rfl, by decide +kernel, by decide +kernel⟩
def spIS : Sp := fun vs H Q _ => ∃ (x : V) (high : Nat) (s : Sh), vs = [x, .int high] ∧ ShAt H x s ∧ Good high 8 s ∧ ∀ H', Same H H' → Q (.bl true) H'
abbrev sIPO : Stmt := topS 68
theorem scIPO : FnScope ["picture", "shapes", "shape"] ["picture", "shapes"] (defScope sIPO) := ⟨rfl, rfl, rfl, by decide +kernel, rfl, by decide +kernel, by decide +kernel⟩
def spIPO : Sp := fun vs H Q _ => ∃ (a l : Addr) (high wide w2 : Nat) (rs : List (List Nat)) (xs : List V) (ss : List Sh), vs = [.ref a, .ref l] ∧ H a = some (.tup (rs.map rv)) ∧ RowsR high wide rs ∧ H l = some (.lst xs) ∧ Shs H xs ss ∧ (∀ s ∈ ss, Good high w2 s) ∧ ss.length ≤ 100 ∧ ∀ H', Same H H' → Q (.bl (decide (rs ∈ ss.map (·.rs)))) H'
theorem lt1 (a b : Nat) : decide ([a] < [b]) = decide (a < b) := by
  apply Bool.eq_iff_iff.mpr
  rw [decide_eq_true_iff, decide_eq_true_iff]
  exact List.cons_lt_cons_iff.trans (by simp)
theorem rowDots_ne {r : Nat} {l : List Nat} (h : 35 ∈ l) : rowDots r l ≠ [] := by
  obtain ⟨j, hj⟩ := List.mem_iff_getElem?.mp h
  intro e
  have hm : (35, j) ∈ l.zipIdx := List.mk_mem_zipIdx_iff_getElem?.mpr hj
  have : (r, j) ∈ rowDots r l := List.mem_map.mpr ⟨(35, j), List.mem_filter.mpr ⟨hm, by simp⟩, rfl⟩
  rw [e] at this
  cases this
theorem dotsP_pos {rs : List (List Nat)} (h : ∃ l ∈ rs, 35 ∈ l) : 0 < (dotsP rs).length := by
  obtain ⟨l, hl, hd⟩ := h
  obtain ⟨i, hi⟩ := List.mem_iff_getElem?.mp hl
  refine List.length_pos_iff.mpr fun e => ?_
  have hm : (l, i) ∈ rs.zipIdx := List.mk_mem_zipIdx_iff_getElem?.mpr hi
  unfold dotsP at e
  have := List.flatten_eq_nil_iff.mp e (rowDots i l) (List.mem_map.mpr ⟨(l, i), hm, rfl⟩)
  exact rowDots_ne hd this
section
variable {P : Program} {w : World} {K : PySem.W.Frag} {mg : Str → Option Value} {base : Heap} {C CA : Addr}
theorem ok_sg {f : Addr} {fd : FuncData} {k : Nat} (F : Fun K "is_sign" "is_sign" sSg f fd) (T : Tx mg) (GT : Pm P w K mg base CX0 (k + 1) "is_text" ["thing"] (spIsText K)) : FnOk P w K mg base CX0 (k + 2) f fd ["thing"] spSg := by
  obtain ⟨fT, fdT, GT, mT, kT, bT⟩ := GT.ex
  refine F.ok scSg (fun vs H Q E h => ?_) (fun cdv A outer s H vs Q E hr h => ?_)
  · obtain ⟨c, rfl, _⟩ := h
    rfl
  · obtain ⟨c, rfl, c0, c1, q⟩ := h
    refine ⟨_, pss_one (ps_ret (pe_and (pe_call GT hr (by rfl) mT kT bT .nil pass0 (pa_cons (pv 0) pa_nil)) (pe_and (pe_cmpR op_eq (pe_callB call_len_str (by rfl) T.len PySem.boot_len (pa_cons (pv 0) pa_nil)) pe_int (nomark _)) (pe_one (pe_chain op_le_str op_le_str pe_str (pv 0) pe_str))))), ?_⟩
    refine ⟨ch c, rfl, ch c, rfl, kn_str2 (by show 1 ≤ sizeLine; decide), _, rfl, iteT ⟨ch c, rfl, ⟨#[c]⟩, rfl, (by show 1 ≤ sizeLine; decide), rfl, _, rfl, iteT ?_⟩⟩
    have e1 : ("!" : Str) = S [33] := by decide +kernel
    have e2 : ("~" : Str) = S [126] := by decide +kernel
    refine ⟨ch c, rfl, "!", ⟨#[c]⟩, rfl, rfl, _, rfl, ?_⟩
    have t1 : (!decide ((⟨#[c]⟩ : Str).cps.toList < ("!" : Str).cps.toList)) = true := by
      rw [e1]
      show (!decide ([c] < [33])) = true
      rw [lt1, decide_eq_false (by omega)]
      rfl
    have t2 : (!decide (("~" : Str).cps.toList < (⟨#[c]⟩ : Str).cps.toList)) = true := by
      rw [e2]
      show (!decide ([126] < [c])) = true
      rw [lt1, decide_eq_false (by omega)]
      rfl
    refine iteY t1 ⟨⟨#[c]⟩, "~", rfl, rfl, ?_⟩
    rw [t2]
    exact q
theorem ok_is {f : Addr} {fd : FuncData} {k : Nat} (F : Fun K "_is_shape" "_is_shape" sIS f fd) (T : Tx mg) (mw : ∃ t, mg "MOST_WIDE" = some (.int 8 t)) (GU : Pm P w K mg base CX0 (k + 1) "is_tuple" ["thing", "many"] (spIsTup K)) (GG : Pm P w K mg base CX0 (k + 1) "is_sign" ["thing"] spSg)
    (GI : Pm P w K mg base CX0 (k + 1) "is_picture" ["thing"] (spIsPic K)) (GZ : GS P w K mg base C (k + 1)) (GD : Pm P w K mg base (L2.CX P w) (k + 1) "dots" ["picture"] (spDots K)) : FnOk P w K mg base CX0 (k + 2) f fd ["thing", "high"] spIS := by
  obtain ⟨fU, fdU, GU, mU, kU, bU⟩ := GU.ex
  obtain ⟨fG, fdG, GG, mG, kG, bG⟩ := GG.ex
  obtain ⟨fI, fdI, GI, mI, kI, bI⟩ := GI.ex
  obtain ⟨fZ, fdZ, GZ, mZ, kZ, bZ⟩ := GZ.ex
  obtain ⟨fD, fdD, GD, mD, kD, bD⟩ := GD.ex
  obtain ⟨tw, hmw⟩ := mw
  refine F.ok scIS (fun vs H Q E h => ?_) (fun cdv A outer s H vs Q E hr h => ?_)
  · obtain ⟨x, high, s, rfl, _⟩ := h
    rfl
  · obtain ⟨x, high, sh, rfl, ha, g, q⟩ := h
    have nd := scIS.nd
    refine ⟨_, pss_cons (ps_if (PW.pt (pw_or (pt_not (pt_val (pe_call GU hr (by rfl) mU kU bU .nil pass0 (pa_cons (pv 0) (pa_cons pe_int pa_nil))))) (pw_or (pt_not (pt_val (pe_call GG hr (by rfl) mG kG bG .nil pass0 (pa_cons (pe_ix (r := rIxT K) ix_tup (pv 0) pe_int (fun _ _ => rfl)) pa_nil)))) (pw_or1 (pt_not (pt_val (pe_call GI hr (by rfl) mI kI bI .nil pass0 (pa_cons (pe_ix (r := rIxT K) ix_tup (pv 0) pe_int (fun _ _ => rfl)) pa_nil))))))))
        (pss_one (ps_ret pe_bl)) pss_nil)
      (pss_cons (ps_asg (pe_call GZ hr (by rfl) mZ kZ bZ .nil passX0 (pa_cons (pe_ix (r := rIxT K) ix_tup (pv 0) pe_int (fun _ _ => rfl)) pa_nil)) (pg_tup rfl (pgs_cons (pg_name (i := 2) nd rfl (Or.inl rfl)) (pgs_cons (pg_name (i := 3) nd rfl (Or.inl rfl)) pgs_nil))))
      (pss_one (ps_ret (pe_and (pe_cmpR op_eq (pv 2) (pv 1) (nomark _)) (pe_and (pe_cmpR op_le (pv 3) (pe_glob (v := .int 8) (by rfl) hmw ⟨_, rfl⟩) (nomark _)) (pe_one (pe_cmpR op_gt (pe_callB call_len_seq (by rfl) T.len PySem.boot_len (pa_cons (pe_call GD hr (by rfl) mD kD bD .nil passX0 (pa_cons (pe_ix (r := rIxT K) ix_tup (pv 0) pe_int (fun _ _ => rfl)) pa_nil)) pa_nil)) pe_int (nomark _)))))))), ?_⟩
    obtain ⟨t, p, rfl, ht, hp⟩ := id ha
    refine ⟨.ref t, rfl, .ref t, 2, rfl, .inr ⟨t, _, rfl, SqT.of ht, _, rfl, iteF ?_⟩⟩
    refine ⟨.ref t, rfl, t, _, 0, ch sh.sg, rfl, rfl, SqT.of ht, rfl, sh.sg, rfl, g.s0, g.s1, _, rfl, iteF ?_⟩
    refine ⟨.ref t, rfl, t, _, 1, .ref p, rfl, rfl, SqT.of ht, rfl, .ref p, true, rfl, askPic g.pic hp, fun H1 s1 => ⟨_, rfl, iteF ?_⟩⟩
    have pz := picSize g.pic
    refine ⟨.ref t, rfl, t, _, 1, .ref p, rfl, rfl, SqT.of (s1 _ _ ht), rfl, .ref p, rfl, .inr ⟨p, _, rfl, SqT.of (s1 _ _ hp), kn_rows g.pic, picOk_pic g.pic, fun p3 H3 s3 n3 h3 => ?_⟩⟩
    rw [pz.1, pz.2] at h3
    have s13 := s1.trans s3
    refine ⟨p3, _, rfl, SqT.of h3, rfl, _, _, rfl, _, _, rfl, rfl, .int high, rfl, .int high, rfl, rfl, _, rfl, ?_⟩
    rw [decide_eq_true rfl]
    refine iteT ⟨.int sh.w, rfl, sh.w, 8, rfl, rfl, _, rfl, iteY (decide_eq_true (by have := g.w8; omega)) ?_⟩
    refine ⟨.ref t, rfl, t, _, 1, .ref p, rfl, rfl, SqT.of (s13 _ _ ht), rfl, p, high, sh.w, sh.rs, rfl, s13 _ _ hp, g.pic, fun D xs H4 s4 nD hD pl lx => ?_⟩
    have l0 : 0 < xs.length := by
      rw [pl.len]
      exact dotsP_pos g.dot
    refine ⟨D, xs, rfl, .inl (SqL.of hD), (xs.length : Int), 0, rfl, rfl, ?_⟩
    have e : (decide ((0 : Int) < (xs.length : Int))) = true := decide_eq_true (by omega)
    show Q (.bl (decide ((0 : Int) < (xs.length : Int)))) H4
    rw [e]
    exact q H4 (s13.trans s4)
theorem ok_ipo {f : Addr} {fd : FuncData} {k : Nat} (F : Fun K "_is_picture_of" "_is_picture_of" sIPO f fd) (an : mg "any" = none) : FnOk P w K mg base CX0 (k + 1) f fd ["picture", "shapes"] spIPO := by
  refine F.ok scIPO (fun vs H Q E h => ?_) (fun cdv A outer s H vs Q E hr h => ?_)
  · obtain ⟨a, l, _, _, _, _, _, _, rfl, _⟩ := h
    rfl
  · obtain ⟨a, l, high, wide, w2, rs, xs, ss, rfl, ha, R, hl, Ss, Gs, ls, q⟩ := h
    have nd := scIPO.nd
    refine ⟨_, pss_one (ps_ret (pe_callB (cr_any rfl) (by rfl) an (by decide +kernel) (pa_cons (pe_lc (own := [("shape", 2)]) (g := gName 2) (tt := tYes) rfl nd (pi_list (pv 1)) (blkOk_by (N := ["picture", "shapes", "shape"]) (sc := defScope sIPO) (by decide +kernel)) (fun _ _ _ _ _ => pg_name (i := 2) nd rfl (Or.inl rfl)) (fun _ _ _ _ _ => pts_nil)
        (fun _ _ _ _ _ => pe_cmpR (op_eqDK (K := K) rfl hr.units) (pv 0) (pe_ix (r := rIxT K) ix_tup (pv 2) pe_int (fun _ _ => rfl)) (nomark _))) pa_nil))), ?_⟩
    refine ⟨.ref l, rfl, l, rfl, ⟨_, SqL.of hl⟩, fun D hD => lc_list (K := K) (a := l) (xs := xs) (fun j H2 => Same H H2 ∧ H2 D = some (.lst (((ss.take j).map fun s => decide (rs = s.rs)).map V.bl))) ⟨same_upd hD, upd_same⟩ (fun j H2 _ z => SqL.of (z.1 _ _ hl)) ?_ ?_⟩
    · rintro j x H2 hj ⟨sm, h2⟩
      have hj' : j < ss.length := by
        rw [← Ss.len]
        exact (List.getElem?_eq_some_iff.mp hj).1
      have es : ss[j]? = some ss[j] := List.getElem?_eq_getElem hj'
      generalize ss[j] = s2 at es
      obtain ⟨t2, p2, rfl, ht2, hp2⟩ := Ss.at_ j x s2 hj es
      have g2 := Gs s2 (List.mem_of_getElem? es)
      refine ⟨rfl, .ref a, rfl, .ref t2, rfl, t2, _, 1, .ref p2, rfl, rfl, SqT.of (sm _ _ ht2), rfl, .tuple (rs.map rD), .tuple (s2.rs.map rD), .tup (SqT.of (sm _ _ ha)) (dp_rows _), .tup (SqT.of (sm _ _ hp2)) (dp_rows _), shaped_rows R, shaped_rows g2.pic.rows, ?_⟩
      rw [eqv_pics]
      refine ⟨_, h2, ?_, same_over sm hD, ?_⟩
      · rw [List.length_map, List.length_map, List.length_take]
        exact small1000 (by omega)
      · rw [upd_same, take_snoc es, List.map_append, List.map_append]
        rfl
    · rintro H2 ⟨sm, h2⟩
      rw [Ss.len, List.take_length] at h2
      refine ⟨D, _, rfl, SqL.of h2, ?_⟩
      have e : ((ss.map fun s => decide (rs = s.rs)).any id) = decide (rs ∈ ss.map (·.rs)) := by
        apply Bool.eq_iff_iff.mpr
        rw [decide_eq_true_iff, List.any_eq_true]
        constructor
        · rintro ⟨b, hb, e⟩
          obtain ⟨s, hs, rfl⟩ := List.mem_map.mp hb
          have : rs = s.rs := of_decide_eq_true e
          exact List.mem_map.mpr ⟨s, hs, this.symm⟩
        · intro h
          obtain ⟨s, hs, e⟩ := List.mem_map.mp h
          exact ⟨_, List.mem_map.mpr ⟨s, hs, rfl⟩, decide_eq_true e.symm⟩
      rw [e]
      exact q H2 sm
end
end Dt
namespace L2X
open PySem PySem.Spec PyProof.Rows L2
theorem for_enumG {K : PySem.W.Frag} {A : Src} {xs : List V} {g : TG} {tb : TS} {D : Ends} {σ : L2.St} {H : Hp} (Pv : Nat → L2.St → Hp → Prop) (h0 : Pv 0 σ H) (hl : ∀ i σ H, i ≤ xs.length → Pv i σ H → A.has K H xs)
    (hs : ∀ i x σ H T, xs[i]? = some x → Pv i σ H → H T = none → g (.ref T) σ (upd H T (.tup [.int (i : Nat), x])) fun σ2 H2 => tb { D with nx := Pv (i + 1), ct := Pv (i + 1), bk := D.nx } σ2 H2) (hd : ∀ σ H, Pv xs.length σ H → D.nx σ H) :
    ∃ W : Nat → Nat → L2.St → Hp → Prop, (∃ m, W 0 m σ H) ∧ ∀ i m σ H, W i m σ H →
      ((IteG K A).stop i H ∧ D.nx σ H) ∨ ((IteG K A).go i H ∧ ∃ N : L2.St → Hp → Prop, (∀ σ' H', N σ' H' → ∃ m', m' < m ∧ W (i + 1) m' σ' H') ∧ ∀ x H', (IteG K A).yld i H x H' → g x σ H' fun σ2 H2 => tb { D with nx := N, ct := N, bk := D.nx } σ2 H2) := by
  refine ⟨fun i m σ H => m = xs.length - i ∧ i ≤ xs.length ∧ Pv i σ H, ⟨xs.length, by simp, Nat.zero_le _, h0⟩, ?_⟩
  rintro i m σ H ⟨rfl, hi, p⟩
  have qx := hl i σ H hi p
  by_cases hlt : i < xs.length
  · have ex : xs[i]? = some xs[i] := List.getElem?_eq_getElem hlt
    refine .inr ⟨⟨xs, _, qx, ex⟩, Pv (i + 1), fun σ' H' p' => ⟨xs.length - (i + 1), by omega, rfl, hlt, p'⟩, fun x H' y => ?_⟩
    obtain ⟨T, u, rfl, nT, rfl, z1⟩ := y
    exact hs i u σ H T (z1 xs qx) p nT
  · have e : i = xs.length := by omega
    subst e
    exact .inl ⟨⟨xs, qx, rfl⟩, hd σ H p⟩
theorem for_zipG {K : PySem.W.Frag} {A B : Src} {xs ys : List V} {g : TG} {tb : TS} {D : Ends} {σ : L2.St} {H : Hp} (hn : xs.length = ys.length) (Pv : Nat → L2.St → Hp → Prop) (h0 : Pv 0 σ H) (hl : ∀ i σ H, i ≤ xs.length → Pv i σ H → A.has K H xs ∧ B.has K H ys)
    (hs : ∀ i x y σ H T, xs[i]? = some x → ys[i]? = some y → Pv i σ H → H T = none → g (.ref T) σ (upd H T (.tup [x, y])) fun σ2 H2 => tb { D with nx := Pv (i + 1), ct := Pv (i + 1), bk := D.nx } σ2 H2) (hd : ∀ σ H, Pv xs.length σ H → D.nx σ H) :
    ∃ W : Nat → Nat → L2.St → Hp → Prop, (∃ m, W 0 m σ H) ∧ ∀ i m σ H, W i m σ H →
      ((ItzG K A B).stop i H ∧ D.nx σ H) ∨ ((ItzG K A B).go i H ∧ ∃ N : L2.St → Hp → Prop, (∀ σ' H', N σ' H' → ∃ m', m' < m ∧ W (i + 1) m' σ' H') ∧ ∀ x H', (ItzG K A B).yld i H x H' → g x σ H' fun σ2 H2 => tb { D with nx := N, ct := N, bk := D.nx } σ2 H2) := by
  refine ⟨fun i m σ H => m = xs.length - i ∧ i ≤ xs.length ∧ Pv i σ H, ⟨xs.length, by simp, Nat.zero_le _, h0⟩, ?_⟩
  rintro i m σ H ⟨rfl, hi, p⟩
  obtain ⟨qx, qy⟩ := hl i σ H hi p
  by_cases hlt : i < xs.length
  · have hlt2 : i < ys.length := by omega
    have ex : xs[i]? = some xs[i] := List.getElem?_eq_getElem hlt
    have ey : ys[i]? = some ys[i] := List.getElem?_eq_getElem hlt2
    refine .inr ⟨⟨xs, ys, _, _, qx, qy, ex, ey⟩, Pv (i + 1), fun σ' H' p' => ⟨xs.length - (i + 1), by omega, rfl, hlt, p'⟩, fun x H' y => ?_⟩
    obtain ⟨T, u, v, rfl, nT, rfl, z1, z2⟩ := y
    exact hs i u v σ H T (z1 xs qx) (z2 ys qy) p nT
  · have e : i = xs.length := by omega
    subst e
    exact .inl ⟨⟨xs, ys, qx, qy, .inl ⟨rfl, by omega⟩⟩, hd σ H p⟩
end L2X
namespace Dt
open PySem PySem.Spec PyProof.Rows L2 L2X
open SX (S)
abbrev sAI : Stmt := inClass cAl 0
abbrev sAH : Stmt := inClass cAl 1
abbrev sAS : Stmt := inClass cAl 2
abbrev sAW : Stmt := inClass cAl 4
abbrev sAN : Stmt := inClass cAl 7
theorem scAI : FnScope ["self", "high", "shapes", "at", "shape"] ["self", "high", "shapes"] (defScope sAI) := ⟨rfl, rfl, rfl, by decide +kernel, rfl, by decide +kernel, by decide +kernel⟩
theorem scAH : FnScope ["self"] ["self"] (defScope sAH) := ⟨rfl, rfl, rfl, by decide +kernel, rfl, by decide +kernel, by decide +kernel⟩
theorem scAS : FnScope ["self"] ["self"] (defScope sAS) := ⟨rfl, rfl, rfl, by decide +kernel, rfl, by decide +kernel, by decide +kernel⟩
theorem scAW : FnScope ["self", "number"] ["self", "number"] (defScope sAW) := ⟨rfl, rfl, rfl, by decide +kernel, rfl, by decide +kernel, by decide +kernel⟩
theorem scAN : FnScope ["self", "number"] ["self", "number"] (defScope sAN) := ⟨rfl, rfl, rfl, by decide +kernel, rfl, by decide +kernel, by decide +kernel⟩
def spAI (C : Addr) : Sp := fun vs H Q _ => ∃ (p dx l : Addr) (high : Nat) (xs : List V) (ss : List Sh), vs = [.ref p, .int high, .ref l] ∧ H p = some (.ins C dx []) ∧ 1 ≤ high ∧ high ≤ 9 ∧ H l = some (.lst xs) ∧ Shs H xs ss ∧ Goods high 8 ss ∧ 0 < ss.length ∧ ss.length ≤ 16 ∧
  ∀ H', AlpAt C H' p high ss → (∀ b o, H b = some o → b ≠ p → H' b = some o) → Q .non H'
def spAH (C : Addr) : Sp := fun vs H Q _ => ∃ (o : Addr) (high : Nat) (ss : List Sh), vs = [.ref o] ∧ AlpAt C H o high ss ∧ Q (.int high) H
def spAS (C : Addr) : Sp := fun vs H Q _ => ∃ (o : Addr) (high : Nat) (ss : List Sh), vs = [.ref o] ∧ AlpAt C H o high ss ∧ ∀ (l : Addr) (xs : List V) (H' : Hp), Same H H' → H l = none → H' l = some (.lst xs) → Shs H' xs ss → Q (.ref l) H'
def spAN (C : Addr) : Sp := fun vs H Q _ => ∃ (o : Addr) (high i : Nat) (ss : List Sh), vs = [.ref o, .int i] ∧ AlpAt C H o high ss ∧ i < ss.length ∧ ∀ H', Same H H' → Q .non H'
def spAW (C : Addr) : Sp := fun vs H Q _ => ∃ (o : Addr) (high i : Nat) (ss : List Sh) (s : Sh), vs = [.ref o, .int i] ∧ AlpAt C H o high ss ∧ ss[i]? = some s ∧ PicR high s.w s.rs ∧ ∀ H', Same H H' → Q (.int s.w) H'
section
variable {P : Program} {w : World} {K : PySem.W.Frag} {mg : Str → Option Value} {base : Heap} {C CA : Addr}
theorem ok_ai {f : Addr} {fd : FuncData} {k : Nat} (F : Fun K "__init__" "Alphabet.__init__" sAI f fd) (T : Tx mg) (TA : Tal K mg CA) (en : mg "enumerate" = none) (mh : ∃ t, mg "MOST_HIGH" = some (.int 9 t)) (ms : ∃ t, mg "MOST_SHAPES" = some (.int 16 t))
    (GB : Pm P w K mg base CX0 (k + 1) "is_between" ["thing", "least", "most"] (spBetw K)) (GL : Pm P w K mg base CX0 (k + 1) "is_list" ["thing"] (spIsList K)) (GS : Pm P w K mg base CX0 (k + 1) "_is_shape" ["thing", "high"] spIS) (GO : Pm P w K mg base CX0 (k + 1) "_is_picture_of" ["picture", "shapes"] spIPO) :
    FnOk P w K mg base CX0 (k + 2) f fd ["self", "high", "shapes"] (spAI CA) := by
  obtain ⟨fB, fdB, GB, mB, kB, bB⟩ := GB.ex
  obtain ⟨fL, fdL, GL, mL, kL, bL⟩ := GL.ex
  obtain ⟨fS, fdS, GS, mS, kS, bS⟩ := GS.ex
  obtain ⟨fO, fdO, GO, mO, kO, bO⟩ := GO.ex
  obtain ⟨th, hmh⟩ := mh
  obtain ⟨ts, hms⟩ := ms
  refine F.ok scAI (fun vs H Q E h => ?_) (fun cdv A outer s H vs Q E hr h => ?_)
  · obtain ⟨p, dx, l, high, xs, ss, rfl, _⟩ := h
    rfl
  · obtain ⟨p, dx, l, high, xs, ss, rfl, hp, h0, h1, hl, Ss, Gs, l0, l1, q⟩ := h
    have nd := scAI.nd
    refine ⟨_, pss_cons (ps_if (pt_not (pt_val (pe_call GB hr (by rfl) mB kB bB .nil pass0 (pa_cons (pv 1) (pa_cons pe_int (pa_cons (pe_glob (v := .int 9) (by rfl) hmh ⟨_, rfl⟩) pa_nil)))))) pss_never pss_nil)
      (pss_cons (ps_if (PW.pt (pw_or (pt_not (pt_val (pe_call GL hr (by rfl) mL kL bL .nil pass0 (pa_cons (pv 2) pa_nil)))) (pw_or1 (pt_cmpR op_eq (pe_callB call_len_seq (by rfl) T.len PySem.boot_len (pa_cons (pv 2) pa_nil)) pe_int (nomark _))))) pss_never pss_nil)
      (pss_cons (ps_for PassesOwn.never rfl (pi_enumG (by rfl) en (pa_cons (pv 2) pa_nil)) (pg_tup rfl (pgs_cons (pg_name (i := 3) nd rfl (Or.inl rfl)) (pgs_cons (pg_name (i := 4) nd rfl (Or.inl rfl)) pgs_nil)))
        (pss_one (ps_if (PW.pt (pw_or (pt_cmpR op_eq (pv 3) (pe_glob (v := .int 16) (by rfl) hms ⟨_, rfl⟩) (nomark _)) (pw_or (pt_not (pt_val (pe_call GS hr (by rfl) mS kS bS .nil pass0 (pa_cons (pv 4) (pa_cons (pv 1) pa_nil))))) (pw_or1 (pt_val (pe_call GO hr (by rfl) mO kO bO .nil pass0 (pa_cons (pe_ix (r := rIxT K) ix_tup (pv 4) pe_int (fun _ _ => rfl)) (pa_cons (pe_slice sl_list (pv 2) po_none (po_some (pv 3))) pa_nil)))))))) pss_never pss_nil)))
      (pss_cons (ps_fld (pv 0) (pv 1) rfl)
      (pss_one (ps_fld (pv 0) (pe_callTy call_tuple_of (by rfl) T.tuple (by decide +kernel) (pa_cons (pv 2) pa_nil)) rfl))))), ?_⟩
    refine ⟨.int high, rfl, .int high, 1, 9, rfl, kt_int _, _, rfl, ?_⟩
    have eb : betw (.int high) 1 9 = true := by
      rw [betw_int, decide_eq_true (by omega), decide_eq_true (by omega)]
      rfl
    rw [eb]
    refine iteF ⟨.ref l, rfl, .ref l, "list", rfl, .lst (SqL.of hl), rfl, fun H1 s1 => ⟨_, rfl, iteF ?_⟩⟩
    have lx : xs.length = ss.length := Ss.len
    refine ⟨.ref l, rfl, l, xs, rfl, .inl (SqL.of (s1 _ _ hl)), rfl, _, rfl, ?_⟩
    have e0 : decide (V.int (xs.length : Int) = V.int 0) = false := decide_eq_false fun e => by
      have := V.int.inj e
      omega
    rw [e0]
    refine iteF ⟨.ref l, rfl, .lst l, xs, rfl, SqL.of (s1 _ _ hl), for_enumG (K := K) (A := .lst l) (xs := xs) (fun i σ H2 => ∃ y3 y4, σ = [some (.ref p), some (.int high), some (.ref l), y3, y4] ∧ Same H H2) ⟨none, none, rfl, s1⟩ (fun i σ H2 _ z => by
      obtain ⟨_, _, _, sm⟩ := z
      exact SqL.of (sm _ _ hl)) ?_ ?_⟩
    · rintro i x σ H2 T' hx ⟨y3, y4, rfl, sm⟩ hT
      have hi : i < ss.length := by
        rw [← lx]
        exact (List.getElem?_eq_some_iff.mp hx).1
      have es : ss[i]? = some ss[i] := List.getElem?_eq_getElem hi
      have gi := Gs.all ss[i] (List.getElem_mem hi)
      have sT := same_upd (o := .tup [V.int (i : Nat), x]) hT
      have s2 := sm.trans sT
      have shi := (Ss.same s2).at_ i x _ hx es
      refine ⟨T', _, rfl, SqT.of upd_same, rfl, _, _, rfl, _, _, rfl, rfl, ?_⟩
      refine ⟨.int i, rfl, rfl, _, rfl, ?_⟩
      have e16 : decide (V.int (i : Int) = V.int 16) = false := decide_eq_false fun e => by
        have := V.int.inj e
        omega
      rw [e16]
      refine iteF ⟨x, rfl, .int high, rfl, x, high, ss[i], rfl, shi, gi, fun H3 s3 => ⟨_, rfl, iteF ?_⟩⟩
      obtain ⟨t, p2, rfl, ht, hp2⟩ := shi
      have s23 := s2.trans s3
      refine ⟨.ref t, rfl, t, _, 1, .ref p2, rfl, rfl, SqT.of (s3 _ _ ht), rfl, .ref l, rfl, .int i, rfl, i, rfl, l, xs, rfl, SqL.of (s23 _ _ hl), fun l2 hl2 => ?_⟩
      have s4 := same_upd (o := .lst (cutV xs none (some (i : Int)))) hl2
      have ecut : cutV xs none (some (i : Int)) = xs.take i := by
        unfold cutV
        rw [HT.sIx_nat]
        show (xs.drop 0).take (min i xs.length - 0) = _
        rw [List.drop_zero, Nat.sub_zero, Nat.min_eq_left (by omega)]
      have s234 := s23.trans s4
      have hsub : Shs (upd H3 l2 (.lst (cutV xs none (some (i : Int))))) (xs.take i) (ss.take i) := by
        have S4 := Ss.same s234
        refine ⟨by rw [List.length_take, List.length_take, S4.len], fun j y s' hy hs => ?_⟩
        rw [List.getElem?_take] at hy hs
        split at hy
        · rename_i hlt
          rw [if_pos hlt] at hs
          exact S4.at_ j y s' hy hs
        · cases hy
      refine ⟨p2, l2, high, ss[i].w, 8, ss[i].rs, xs.take i, ss.take i, rfl, s4 _ _ (s3 _ _ hp2), gi.pic.rows, by rw [upd_same, ecut], hsub, fun s' hs => Gs.all s' (List.mem_of_mem_take hs), ?_, fun H5 s5 => ⟨_, rfl, ?_⟩⟩
      · rw [List.length_take]
        omega
      have e5 : decide (ss[i].rs ∈ (ss.take i).map (·.rs)) = false := by
        refine decide_eq_false fun hm => ?_
        have hnd := Gs.nd
        rw [List.map_take] at hm
        obtain ⟨j, hj⟩ := List.mem_iff_getElem?.mp hm
        rw [List.getElem?_take] at hj
        split at hj
        · rename_i hlt
          have hi2 : (ss.map (·.rs))[i]? = some ss[i].rs := by rw [List.getElem?_map, es]; rfl
          obtain ⟨q1, q2⟩ := List.getElem?_eq_some_iff.mp hj
          obtain ⟨q3, q4⟩ := List.getElem?_eq_some_iff.mp hi2
          have := (List.getElem_inj hnd).mp (q2.trans q4.symm)
          omega
        · cases hj
      rw [e5]
      exact iteF ⟨_, _, rfl, s234.trans s5⟩
    · rintro σ H2 ⟨y3, y4, rfl, sm⟩
      have hp2 := sm _ _ hp
      refine ⟨.int high, rfl, .ref p, rfl, p, CA, dx, [], rfl, hp2, TA.cl, TA.nH, (by show 0 < 1000; decide), ?_⟩
      have npl : l ≠ p := ne_of hl hp (by intro z; cases z)
      have hl2 : (upd H2 p (.ins CA dx (putF "_high" (.int high) []))) l = some (.lst xs) := by
        rw [upd_ne npl]
        exact sm _ _ hl
      refine ⟨.ref l, rfl, l, xs, rfl, .inl ⟨SqL.of hl2, fun z hz => ⟨.ref p, rfl, p, CA, dx, putF "_high" (.int high) [], rfl, ?_, TA.cl, TA.nS, (by show 1 < 1000; decide), ?_⟩⟩⟩
      · rw [upd_ne (ne_of_none upd_same hz)]
        exact upd_same
      have nzp : z ≠ p := (ne_of_none upd_same hz).symm
      refine q _ ⟨dx, z, xs, upd_same, by rw [upd_ne nzp]; exact upd_same, Ss.len, fun i x s' hx hs => ?_⟩ fun b o e hb => ?_
      · obtain ⟨t, p2, rfl, ht, hp2'⟩ := Ss.at_ i x s' hx hs
        have put : ∀ (b : Addr) (ys : List V), H b = some (.tup ys) → (upd (upd (upd H2 p (.ins CA dx (putF "_high" (.int high) []))) z (.tup xs)) p (.ins CA dx (aF high z))) b = some (.tup ys) := fun b ys hb => by
          have n1 : b ≠ p := ne_of hb hp (by intro z; cases z)
          have n2 : (upd H2 p (.ins CA dx (putF "_high" (.int high) []))) b = some (.tup ys) := by
            rw [upd_ne n1]
            exact sm _ _ hb
          rw [upd_ne n1, upd_ne (ne_of_none n2 hz)]
          exact n2
        exact ⟨t, p2, rfl, put _ _ ht, put _ _ hp2'⟩
      · have n2 : (upd H2 p (.ins CA dx (putF "_high" (.int high) []))) b = some o := by
          rw [upd_ne hb]
          exact sm _ _ e
        rw [upd_ne hb, upd_ne (ne_of_none n2 hz)]
        exact n2
theorem ok_ah {f : Addr} {fd : FuncData} {k : Nat} (F : Fun K "high" "Alphabet.high" sAH f fd) (TA : Tal K mg CA) : FnOk P w K mg base CX0 (k + 1) f fd ["self"] (spAH CA) := by
  refine F.ok scAH (fun vs H Q E h => ?_) (fun cdv A outer s H vs Q E hr h => ?_)
  · obtain ⟨o, high, ss, rfl, _⟩ := h
    rfl
  · obtain ⟨o, high, ss, rfl, ⟨dx, t, xs, ho, ht, Ss⟩, q⟩ := h
    refine ⟨_, pss_one (ps_ret (pe_fld (pv 0) rfl)), ?_⟩
    exact ⟨.ref o, rfl, o, CA, dx, _, .int high, rfl, ho, TA.cl, TA.nH, aF_high _ _, q⟩
theorem ok_as {f : Addr} {fd : FuncData} {k : Nat} (F : Fun K "shapes" "Alphabet.shapes" sAS f fd) (T : Tx mg) (TA : Tal K mg CA) : FnOk P w K mg base CX0 (k + 1) f fd ["self"] (spAS CA) := by
  refine F.ok scAS (fun vs H Q E h => ?_) (fun cdv A outer s H vs Q E hr h => ?_)
  · obtain ⟨o, high, ss, rfl, _⟩ := h
    rfl
  · obtain ⟨o, high, ss, rfl, ⟨dx, t, xs, ho, ht, Ss⟩, q⟩ := h
    refine ⟨_, pss_one (ps_ret (pe_callTy call_list_of (by rfl) T.list (by decide +kernel) (pa_cons (pe_fld (pv 0) rfl) pa_nil))), ?_⟩
    refine ⟨.ref o, rfl, o, CA, dx, _, .ref t, rfl, ho, TA.cl, TA.nS, aF_shapes _ _, t, xs, rfl, .inr (SqT.of ht), fun l hl => ?_⟩
    have sl := same_upd (o := .lst xs) hl
    exact q l xs _ sl hl upd_same (Ss.same sl)
theorem ok_an {f : Addr} {fd : FuncData} {k : Nat} (F : Fun K "_want_number" "Alphabet._want_number" sAN f fd) (T : Tx mg) (TA : Tal K mg CA) (GB : Pm P w K mg base CX0 (k + 1) "is_between" ["thing", "least", "most"] (spBetw K)) : FnOk P w K mg base CX0 (k + 2) f fd ["self", "number"] (spAN CA) := by
  obtain ⟨fB, fdB, GB, mB, kB, bB⟩ := GB.ex
  refine F.ok scAN (fun vs H Q E h => ?_) (fun cdv A outer s H vs Q E hr h => ?_)
  · obtain ⟨o, high, i, ss, rfl, _⟩ := h
    rfl
  · obtain ⟨o, high, i, ss, rfl, ⟨dx, t, xs, ho, ht, Ss⟩, hi, q⟩ := h
    refine ⟨_, pss_one (ps_if (pt_not (pt_val (pe_call GB hr (by rfl) mB kB bB .nil pass0 (pa_cons (pv 1) (pa_cons pe_int (pa_cons (pe_op op_sub (pe_callB call_len_seq (by rfl) T.len PySem.boot_len (pa_cons (pe_fld (pv 0) rfl) pa_nil)) pe_int) pa_nil)))))) pss_never pss_nil), ?_⟩
    have lx := Ss.len
    refine ⟨.int i, rfl, .ref o, rfl, o, CA, dx, _, .ref t, rfl, ho, TA.cl, TA.nS, aF_shapes _ _, t, xs, rfl, .inr (SqT.of ht), _, 1, rfl, rfl, .int i, 0, _, rfl, kt_int _, _, rfl, ?_⟩
    have eb : betw (.int i) 0 ((xs.length : Int) - 1) = true := by
      rw [betw_int, decide_eq_true (by omega), decide_eq_true (by omega)]
      rfl
    rw [eb]
    exact iteF (q H (Same.refl H))
theorem ok_aw {f : Addr} {fd : FuncData} {k : Nat} (F : Fun K "wide" "Alphabet.wide" sAW f fd) (TA : Tal K mg CA) (GZ : GS P w K mg base C (k + 1)) (GM : Mm P w K mg base (k + 1) CA "_want_number" ["self", "number"] (spAN CA)) : FnOk P w K mg base CX0 (k + 2) f fd ["self", "number"] (spAW CA) := by
  obtain ⟨fM, fdM, GM, mM, bM⟩ := GM.ex
  obtain ⟨fZ, fdZ, GZ, mZ, kZ, bZ⟩ := GZ.ex
  refine F.ok scAW (fun vs H Q E h => ?_) (fun cdv A outer s H vs Q E hr h => ?_)
  · obtain ⟨o, high, i, ss, s, rfl, _⟩ := h
    rfl
  · obtain ⟨o, high, i, ss, sh, rfl, al, hi, pr, q⟩ := h
    refine ⟨_, pss_cons (ps_expr (pe_meth (pv 0) TA.cl mM GM hr bM .nil pass0 (pa_cons (pv 1) pa_nil)))
      (pss_one (ps_ret (pe_ix (r := rIxT K) ix_tup (pe_call GZ hr (by rfl) mZ kZ bZ .nil passX0 (pa_cons (pe_ix (r := rIxT K) ix_tup (pe_ix (r := rIxT K) ix_tup (pe_fld (pv 0) rfl) (pv 1) (fun _ _ => rfl)) pe_int (fun _ _ => rfl)) pa_nil)) pe_int (fun _ _ => rfl)))), ?_⟩
    obtain ⟨dx, t, xs, ho, ht, Ss⟩ := id al
    have hlt := (List.getElem?_eq_some_iff.mp hi).1
    have lx := Ss.len
    refine ⟨.ref o, rfl, o, dx, _, rfl, ho, aF_no _ _ (by decide +kernel) (by decide +kernel), .int i, rfl, o, high, i, ss, rfl, al, hlt, fun H1 s1 => ?_⟩
    have ex : xs[i]? = some (xs[i]'(by omega)) := List.getElem?_eq_getElem (by omega)
    obtain ⟨t2, p2, e2, ht2, hp2⟩ := Ss.at_ i _ sh ex hi
    rw [e2] at ex
    refine ⟨.ref o, rfl, o, CA, dx, _, .ref t, rfl, s1 _ _ ho, TA.cl, TA.nS, aF_shapes _ _, .int i, rfl, t, xs, i, .ref t2, rfl, rfl, SqT.of (s1 _ _ ht), atI_nat ex, t2, _, 1, .ref p2, rfl, rfl, SqT.of (s1 _ _ ht2), rfl, .ref p2, rfl, .inr ⟨p2, _, rfl, SqT.of (s1 _ _ hp2), kn_rows pr, picOk_pic pr, fun p3 H3 s3 n3 h3 => ?_⟩⟩
    have pz := picSize pr
    rw [pz.1, pz.2] at h3
    exact ⟨p3, _, 1, .int sh.w, rfl, rfl, SqT.of h3, rfl, q H3 (s1.trans s3)⟩
end
end Dt
namespace Dt
open PySem PySem.Spec PyProof.Rows L2 L2X
open SX (S)
/-! ### ways, and the words of a way -/
def wdt (ss : List Sh) (n : Nat) : Nat := match ss[n]? with
  | some s => s.w
  | none => 0
def sgt (ss : List Sh) (n : Nat) : Nat := match ss[n]? with
  | some s => s.sg
  | none => 0
theorem wdt_at {ss : List Sh} {n : Nat} {s : Sh} (h : ss[n]? = some s) : wdt ss n = s.w := by
  unfold wdt
  rw [h]
theorem sgt_at {ss : List Sh} {n : Nat} {s : Sh} (h : ss[n]? = some s) : sgt ss n = s.sg := by
  unfold sgt
  rw [h]
/-- where the windows ahead of the i-th end -/
def edge (ss : List Sh) (ws : List (Nat × Nat)) : Nat → Nat
  | 0 => 0
  | i + 1 => match ws[i]? with
    | some p => p.1 + wdt ss p.2
    | none => 0
theorem edge_at {ss : List Sh} {ws : List (Nat × Nat)} {i : Nat} {p : Nat × Nat} (h : ws[i]? = some p) : edge ss ws (i + 1) = p.1 + wdt ss p.2 := by
  show (match ws[i]? with | some p => p.1 + wdt ss p.2 | none => 0) = _
  rw [h]
def WayOk (ss : List Sh) (cols : Nat) (ws : List (Nat × Nat)) : Prop := ∀ (i : Nat) (p : Nat × Nat), ws[i]? = some p → p.2 < ss.length ∧ edge ss ws i ≤ p.1 ∧ p.1 + wdt ss p.2 ≤ cols
theorem WayOk.nil {ss : List Sh} {cols : Nat} : WayOk ss cols [] := fun i p h => nomatch h
theorem edge_app {ss : List Sh} {ws vs : List (Nat × Nat)} {i : Nat} (h : i ≤ ws.length) : edge ss (ws ++ vs) i = edge ss ws i := by
  cases i with
  | zero => rfl
  | succ i =>
    show (match (ws ++ vs)[i]? with | some p => p.1 + wdt ss p.2 | none => 0) = (match ws[i]? with | some p => p.1 + wdt ss p.2 | none => 0)
    rw [List.getElem?_append_left (by omega)]
theorem WayOk.snoc {ss : List Sh} {cols : Nat} {ws : List (Nat × Nat)} {p : Nat × Nat} (h : WayOk ss cols ws) (h1 : p.2 < ss.length) (h2 : edge ss ws ws.length ≤ p.1) (h3 : p.1 + wdt ss p.2 ≤ cols) : WayOk ss cols (ws ++ [p]) := by
  intro i q hq
  by_cases hi : i < ws.length
  · rw [List.getElem?_append_left hi] at hq
    rw [edge_app (by omega)]
    exact h i q hq
  · have hl := (List.getElem?_eq_some_iff.mp hq).1
    rw [List.length_append, List.length_singleton] at hl
    have e : i = ws.length := by omega
    subst e
    rw [List.getElem?_append_right (Nat.le_refl _), Nat.sub_self] at hq
    cases hq
    rw [edge_app (Nat.le_refl _)]
    exact ⟨h1, h2, h3⟩
theorem WayOk.le {ss : List Sh} {c d : Nat} {ws : List (Nat × Nat)} (h : WayOk ss c ws) (l : c ≤ d) : WayOk ss d ws := fun i p e => by
  obtain ⟨h1, h2, h3⟩ := h i p e
  exact ⟨h1, h2, by omega⟩
/-- a word begins at this window -/
def isSt (ss : List Sh) (ws : List (Nat × Nat)) (b : Int) (i : Nat) : Bool := (i == 0) || decide (b ≤ ((ws.getD i (0, 0)).1 : Int) - (edge ss ws i : Int))
theorem isSt0 {ss : List Sh} {ws : List (Nat × Nat)} {b : Int} : isSt ss ws b 0 = true := rfl
theorem isSt_at {ss : List Sh} {ws : List (Nat × Nat)} {b : Int} {i : Nat} {p q : Nat × Nat} (hp : ws[i]? = some p) (hq : ws[i + 1]? = some q) : isSt ss ws b (i + 1) = decide (b ≤ (q.1 : Int) - (p.1 : Int) - (wdt ss p.2 : Int)) := by
  unfold isSt
  rw [edge_at hp, List.getD_eq_getElem?_getD, hq]
  show (false || decide (b ≤ (q.1 : Int) - ((p.1 + wdt ss p.2 : Nat) : Int))) = _
  rw [Bool.false_or]
  congr 2
  omega
def fl (f : Nat → Bool) (k : Nat) : List Nat := (List.range k).filter f
def zz (f : Nat → Bool) (k : Nat) : List (Nat × Nat) := (fl f k).zip ((fl f k).drop 1 ++ [k])
theorem fl_yes {f : Nat → Bool} {k : Nat} (h : f k = true) : fl f (k + 1) = fl f k ++ [k] := by
  unfold fl
  rw [List.range_succ, List.filter_append, List.filter_cons, h]
  rfl
theorem fl_no {f : Nat → Bool} {k : Nat} (h : f k = false) : fl f (k + 1) = fl f k := by
  unfold fl
  rw [List.range_succ, List.filter_append, List.filter_cons, h]
  exact List.append_nil _
theorem fl_lt {f : Nat → Bool} {k i : Nat} (h : i ∈ fl f k) : i < k := List.mem_range.mp (List.mem_filter.mp h).1
theorem fl_len (f : Nat → Bool) (k : Nat) : (fl f k).length ≤ k := Nat.le_trans (List.length_filter_le _ _) (by rw [List.length_range]; exact Nat.le_refl k)
theorem zip_last {S : List Nat} {U : List Nat} {l x : Nat} (h : S = U ++ [l]) : S.zip (S.drop 1 ++ [x]) = U.zip (S.drop 1) ++ [(l, x)] := by
  subst h
  have : U.length = ((U ++ [l]).drop 1).length := by
    rw [List.length_drop, List.length_append, List.length_singleton]
    omega
  exact List.zip_append this
theorem zz_start {f : Nat → Bool} {k : Nat} (h : f k = true) : zz f (k + 1) = zz f k ++ [(k, k + 1)] := by
  unfold zz
  rw [fl_yes h, zip_last (S := fl f k ++ [k]) (U := fl f k) (l := k) rfl]
  congr 1
  cases fl f k with
  | nil => rfl
  | cons a r => rfl
theorem fl_ne {f : Nat → Bool} (h0 : f 0 = true) : ∀ k, 0 < k → ∃ U l, fl f k = U ++ [l] ∧ l < k
  | 0, h => absurd h (by decide)
  | k + 1, _ => by
    cases h : f k with
    | true => exact ⟨fl f k, k, fl_yes h, by omega⟩
    | false =>
      rw [fl_no h]
      rcases Nat.eq_zero_or_pos k with e | e
      · rw [e] at h
        rw [h0] at h
        cases h
      · obtain ⟨U, l, h1, h2⟩ := fl_ne h0 k e
        exact ⟨U, l, h1, by omega⟩
theorem zz_cont {f : Nat → Bool} {k : Nat} (h0 : f 0 = true) (hk : 0 < k) (h : f k = false) : ∃ T l, zz f k = T ++ [(l, k)] ∧ zz f (k + 1) = T ++ [(l, k + 1)] ∧ l < k := by
  obtain ⟨U, l, h1, h2⟩ := fl_ne h0 k hk
  refine ⟨U.zip ((fl f k).drop 1), l, zip_last h1, ?_, h2⟩
  unfold zz
  rw [fl_no h]
  exact zip_last h1
theorem zz_mem {f : Nat → Bool} (h0 : f 0 = true) : ∀ k, ∀ p ∈ zz f k, p.1 < p.2 ∧ p.2 ≤ k
  | 0 => fun p h => nomatch h
  | k + 1 => fun p h => by
    cases e : f k with
    | true =>
      rw [zz_start e] at h
      rcases List.mem_append.mp h with z | z
      · have := zz_mem h0 k p z
        exact ⟨this.1, by omega⟩
      · rw [List.mem_singleton.mp z]
        exact ⟨by show k < k + 1; omega, by show k + 1 ≤ k + 1; omega⟩
    | false =>
      rcases Nat.eq_zero_or_pos k with hk | hk
      · rw [hk, h0] at e
        cases e
      · obtain ⟨T, l, h1, h2, h3⟩ := zz_cont h0 hk e
        rw [h2] at h
        rcases List.mem_append.mp h with z | z
        · have := zz_mem h0 k p (by rw [h1]; exact List.mem_append_left _ z)
          exact ⟨this.1, by omega⟩
        · rw [List.mem_singleton.mp z]
          exact ⟨by show l < k + 1; omega, by show k + 1 ≤ k + 1; omega⟩
theorem zz_len {f : Nat → Bool} (k : Nat) : (zz f k).length ≤ k := by
  unfold zz
  rw [List.length_zip]
  exact Nat.le_trans (Nat.min_le_left _ _) (fl_len f k)
/-- the signs of the windows from a first one on -/
def seg (sg : List Nat) (a b : Nat) : List Nat := (sg.drop a).take (b - a)
theorem seg_snoc {sg : List Nat} {a k c : Nat} (h : a ≤ k) (hc : sg[k]? = some c) : seg sg a (k + 1) = seg sg a k ++ [c] := by
  unfold seg
  rw [show k + 1 - a = (k - a) + 1 by omega]
  exact take_snoc (by rw [List.getElem?_drop, show a + (k - a) = k by omega]; exact hc)
theorem seg_self (sg : List Nat) (k : Nat) : seg sg k k = [] := by
  unfold seg
  rw [Nat.sub_self, List.take_zero]
theorem seg_len (sg : List Nat) (a b : Nat) : (seg sg a b).length ≤ b - a := by
  unfold seg
  rw [List.length_take]
  exact Nat.min_le_left _ _
abbrev Wd : Type := List Nat × Nat × Nat
def wOf (sg : List Nat) (p : Nat × Nat) : Wd := (seg sg p.1 p.2, p.1, p.2)
def wz (sg : List Nat) (f : Nat → Bool) (k : Nat) : List Wd := (zz f k).map (wOf sg)
/-- the signs of a way -/
def sgs (ss : List Sh) (ws : List (Nat × Nat)) : List Nat := ws.map fun p => sgt ss p.2
theorem sgs_at {ss : List Sh} {ws : List (Nat × Nat)} {i : Nat} {p : Nat × Nat} (h : ws[i]? = some p) : (sgs ss ws)[i]? = some (sgt ss p.2) := by
  unfold sgs
  rw [List.getElem?_map, h]
  rfl
/-- the words of a way -/
def wds (ss : List Sh) (ws : List (Nat × Nat)) (b : Int) : List Wd := wz (sgs ss ws) (isSt ss ws b) ws.length
theorem wz_start {sg : List Nat} {f : Nat → Bool} {k c : Nat} (h : f k = true) (hc : sg[k]? = some c) : wz sg f (k + 1) = wz sg f k ++ [([c], k, k + 1)] := by
  unfold wz
  rw [zz_start h, List.map_append]
  congr 1
  show [(seg sg k (k + 1), k, k + 1)] = _
  rw [seg_snoc (Nat.le_refl k) hc, seg_self]
  rfl
theorem wz_cont {sg : List Nat} {f : Nat → Bool} {k c : Nat} (h0 : f 0 = true) (hk : 0 < k) (h : f k = false) (hc : sg[k]? = some c) : ∃ T t l, wz sg f k = T ++ [(t, l, k)] ∧ wz sg f (k + 1) = T ++ [(t ++ [c], l, k + 1)] := by
  obtain ⟨T, l, h1, h2, h3⟩ := zz_cont h0 hk h
  refine ⟨T.map (wOf sg), seg sg l k, l, ?_, ?_⟩
  · unfold wz
    rw [h1, List.map_append]
    rfl
  · unfold wz
    rw [h2, List.map_append]
    show _ ++ [(seg sg l (k + 1), l, k + 1)] = _
    rw [seg_snoc (by omega) hc]
structure WdOk (w : Wd) : Prop where
  t : ∀ c ∈ w.1, 33 ≤ c ∧ c ≤ 126
  l : w.1.length ≤ 60
  a : w.2.1 ≤ 60
  b : w.2.2 ≤ 60
theorem wds_ok {ss : List Sh} {ws : List (Nat × Nat)} {b : Int} (hw : ws.length ≤ 60) (hg : ∀ c ∈ sgs ss ws, 33 ≤ c ∧ c ≤ 126) : ∀ w ∈ wds ss ws b, WdOk w := by
  intro w h
  obtain ⟨p, hp, rfl⟩ := List.mem_map.mp h
  obtain ⟨h1, h2⟩ := zz_mem (isSt0 (b := b)) _ p hp
  refine ⟨fun c hc => hg c (List.mem_of_mem_drop (List.mem_of_mem_take hc)), ?_, by show p.1 ≤ 60; omega, by show p.2 ≤ 60; omega⟩
  exact Nat.le_trans (seg_len _ _ _) (by omega)
theorem wds_len {ss : List Sh} {ws : List (Nat × Nat)} {b : Int} : (wds ss ws b).length ≤ ws.length := by
  unfold wds wz
  rw [List.length_map]
  exact zz_len _
/-! ### the words as they stand -/
def wV (w : Wd) : List V := [.str (S w.1), .int w.2.1, .int w.2.2]
structure Wds (H : Hp) (xs : List V) (ws : List Wd) : Prop where
  len : xs.length = ws.length
  at_ : ∀ (i : Nat) (x : V) (w : Wd), xs[i]? = some x → ws[i]? = some w → ∃ t, x = .ref t ∧ H t = some (.tup (wV w))
theorem Wds.same {H H' : Hp} {xs : List V} {ws : List Wd} (h : Wds H xs ws) (s : Same H H') : Wds H' xs ws := ⟨h.len, fun i x w a b => let ⟨t, e, z⟩ := h.at_ i x w a b; ⟨t, e, s _ _ z⟩⟩
theorem Wds.nil {H : Hp} : Wds H [] [] := ⟨rfl, fun i x w h => nomatch h⟩
theorem Wds.updl {H : Hp} {xs : List V} {ws : List Wd} {l : Addr} {ys zs : List V} (h : Wds H xs ws) (hl : H l = some (.lst ys)) : Wds (upd H l (.lst zs)) xs ws :=
  ⟨h.len, fun i x w a b => let ⟨t, e, z⟩ := h.at_ i x w a b; ⟨t, e, by rw [upd_ne (ne_of z hl (by intro q; cases q))]; exact z⟩⟩
theorem Wds.add {H : Hp} {xs : List V} {ws : List Wd} {t : Addr} {w : Wd} (h : Wds H xs ws) (ht : H t = some (.tup (wV w))) : Wds H (xs ++ [.ref t]) (ws ++ [w]) := by
  refine ⟨by rw [List.length_append, List.length_append, h.len]; rfl, fun i y s' hy hs => ?_⟩
  by_cases hi : i < xs.length
  · rw [List.getElem?_append_left hi] at hy
    rw [List.getElem?_append_left (by rw [← h.len]; exact hi)] at hs
    exact h.at_ i y s' hy hs
  · rw [List.getElem?_append_right (by omega)] at hy
    rw [List.getElem?_append_right (by rw [← h.len]; omega)] at hs
    have e0 : i - xs.length = 0 := by
      have := (List.getElem?_eq_some_iff.mp hy).1
      rw [List.length_singleton] at this
      omega
    rw [← h.len] at hs
    rw [e0] at hy hs
    cases hy
    cases hs
    exact ⟨t, rfl, ht⟩
def wD (w : Wd) : PyData := .tuple [.str (S w.1), .int w.2.1, .int w.2.2]
theorem dp_wds {K : PySem.W.Frag} {H : Hp} : ∀ {xs : List V} {ws : List Wd}, Wds H xs ws → DpAll K H xs (ws.map wD)
  | [], [], _ => .nil
  | [], _ :: _, h => nomatch h.len
  | _ :: _, [], h => nomatch h.len
  | x :: xs, w :: ws, h => by
    obtain ⟨t, e, ht⟩ := h.at_ 0 x w rfl rfl
    subst e
    exact .cons (.tup (SqT.of ht) (.cons (.str _) (.cons (.int _) (.cons (.int _) .nil)))) (dp_wds ⟨Nat.succ.inj h.len, fun i y q a b => h.at_ (i + 1) y q a b⟩)
end Dt
/-! ### text.ljust(n, '.') -/
namespace PySem
open Builtin Builtin.Str Spec Calls
theorem own_gives_ljust (x : Str) (i : Int) (c : Nat) (t u v : Tok) (hr : (decide (i < -(2 ^ 63 : Int)) || decide (i ≥ 2 ^ 63)) = false) (hl : tooLong i.toNat = false) :
    Gives («str.ljust» ⟨[.str x t, .int i u, .str ⟨#[c]⟩ v], []⟩) (if i ≤ x.length then .val (.str x t) else .str (padded x 0 (i.toNat - x.length) c)) := by
  show Gives (do
             let width ← asSsize s!"str.{"ljust"}" (.int i u)
             if width ≤ x.length then (do rule s!"str.{"ljust"}.long-enough"; ret (.str x t)) else
             if tooLong width.toNat = true then unsupported s!"str.{"ljust"}:memory" else retStr (if true = true then padded x 0 (width.toNat - x.length) c else padded x (width.toNat - x.length) 0 c)) _
  rw [asSsize_int _ _ _ hr]
  show Gives (if i ≤ x.length then (do rule s!"str.{"ljust"}.long-enough"; ret (.str x t)) else if tooLong i.toNat = true then unsupported s!"str.{"ljust"}:memory" else retStr (padded x 0 (i.toNat - x.length) c)) _
  rw [hl]
  by_cases h : i ≤ (x.length : Int)
  · rw [if_pos h, if_pos h]; exact .rule (.of_eq rfl)
  · rw [if_neg h, if_neg h]; exact .of_eq rfl
end PySem
namespace L2X
open PySem PySem.Spec PyProof.Rows L2 PySem.Builtin.Str
theorem mt_ljustF {X : Cx} : MtR X "str.ljust" (fun x xs H Q => ∃ (a : Str) (i : Int) (c : Nat), x = .str a ∧ xs = [.int i, .str ⟨#[c]⟩] ∧ PySem.PadOk i = true ∧ Q (.str (if i ≤ (a.length : Int) then a else padded a 0 (i.toNat - a.length) c)) H) := by
  intro pins s σ H x xs v us Q I rx rs h
  obtain ⟨a, i, c, rfl, rfl, hc, h⟩ := h
  obtain ⟨t, rfl⟩ := rx
  cases rs with
  | cons r1 rs =>
    cases rs with
    | cons r2 rs =>
      cases rs
      obtain ⟨u, rfl⟩ := r1
      obtain ⟨z, rfl⟩ := r2
      exact call_gives PySem.F.slot_str_ljust (typeIs_str _ _ _) PySem.F.entry_str_ljust (PySem.F.args_str_ljust_3 _ _ _) (PySem.own_gives_ljust a i c t u z (PySem.PadOk.parts hc).1 (PySem.PadOk.parts hc).2)
        (PySem.post_val_or_made (fits_padR c (PySem.PadOk.parts hc).2) fun t' k => ⟨.str _, H, I.tok k, ⟨t', rfl⟩, h⟩)
end L2X
namespace Dt
open PySem PySem.Spec PyProof.Rows L2 L2X
open SX (S)
/-! ### lines that are drawn -/
def padL (t : List Nat) (c : Nat) : List Nat := t ++ List.replicate (c - t.length) 46
theorem ljust_S (l : List Nat) (n : Nat) : (if (n : Int) ≤ ((S l).length : Int) then S l else PySem.Builtin.Str.padded (S l) 0 ((n : Int).toNat - (S l).length) 46) = S (padL l n) := by
  rw [SX.S_len, Int.toNat_natCast]
  unfold padL
  split
  · rename_i h
    rw [show n - l.length = 0 by omega]
    show S l = S (l ++ [])
    rw [List.append_nil]
  · unfold PySem.Builtin.Str.padded S
    congr 1
    simp
def rowAt (ss : List Sh) (n r : Nat) : List Nat := match ss[n]? with
  | some s => s.rs.getD r []
  | none => []
theorem rowAt_at {ss : List Sh} {n r : Nat} {s : Sh} (h : ss[n]? = some s) : rowAt ss n r = s.rs.getD r [] := by
  unfold rowAt
  rw [h]
def pixS (ss : List Sh) (r c : Nat) (acc : Nat) (p : Nat × Nat) : Nat := if p.1 ≤ c ∧ c < p.1 + wdt ss p.2 then (rowAt ss p.2 r).getD (c - p.1) 0 else acc
def pix (ss : List Sh) (ws : List (Nat × Nat)) (r c : Nat) : Nat := ws.foldl (pixS ss r c) 46
theorem pix_snoc (ss : List Sh) (ws : List (Nat × Nat)) (p : Nat × Nat) (r c : Nat) : pix ss (ws ++ [p]) r c = pixS ss r c (pix ss ws r c) p := by
  unfold pix
  rw [List.foldl_append]
  rfl
def rowT (ss : List Sh) (ws : List (Nat × Nat)) (r : Nat) : List Nat := ws.foldl (fun t p => padL t p.1 ++ rowAt ss p.2 r) []
theorem rowT_snoc (ss : List Sh) (ws : List (Nat × Nat)) (p : Nat × Nat) (r : Nat) : rowT ss (ws ++ [p]) r = padL (rowT ss ws r) p.1 ++ rowAt ss p.2 r := by
  unfold rowT
  rw [List.foldl_append]
  rfl
theorem row_step {e a w : Nat} {f f' : Nat → Nat} {row : List Nat} (h1 : e ≤ a) (hl : row.length = w) (hf : ∀ c, e ≤ c → f c = 46) (hf1 : ∀ c, c < a → f' c = f c) (hf2 : ∀ c, a ≤ c → c < a + w → f' c = row.getD (c - a) 0) :
    padL ((List.range e).map f) a ++ row = (List.range (a + w)).map f' := by
  apply List.ext_getElem?
  intro c
  unfold padL
  have le : ((List.range e).map f).length = e := by rw [List.length_map, List.length_range]
  have lr : ((List.range e).map f ++ List.replicate (a - ((List.range e).map f).length) 46).length = a := by
    rw [List.length_append, List.length_replicate, le]
    omega
  by_cases c1 : c < e
  · rw [List.getElem?_append_left (by omega), List.getElem?_append_left (by omega), List.getElem?_map, List.getElem?_map, List.getElem?_range c1, List.getElem?_range (by omega)]
    show some (f c) = some (f' c)
    rw [hf1 c (by omega)]
  · by_cases c2 : c < a
    · rw [List.getElem?_append_left (by omega), List.getElem?_append_right (by omega), le, List.getElem?_replicate, if_pos (by omega), List.getElem?_map, List.getElem?_range (by omega)]
      show some 46 = some (f' c)
      rw [hf1 c c2, hf c (by omega)]
    · rw [List.getElem?_append_right (by omega), lr, List.getElem?_map]
      by_cases c3 : c < a + w
      · rw [List.getElem?_range c3]
        show _ = some (f' c)
        rw [hf2 c (by omega) c3, List.getD_eq_getElem?_getD, List.getElem?_eq_getElem (by omega)]
        rfl
      · rw [List.getElem?_eq_none (by omega), List.getElem?_eq_none (by rw [List.length_range]; omega)]
        rfl
theorem pad_fin {e n : Nat} {f : Nat → Nat} (h1 : e ≤ n) (hf : ∀ c, e ≤ c → f c = 46) : padL ((List.range e).map f) n = (List.range n).map f := by
  have h := row_step (a := n) (w := 0) (row := []) (f' := f) h1 rfl hf (fun _ _ => rfl) (fun c a b => by omega)
  rw [List.append_nil, Nat.add_zero] at h
  exact h
/-- rows as long as their shapes are wide -/
def RowsW (ss : List Sh) (r : Nat) : Prop := ∀ n, n < ss.length → (rowAt ss n r).length = wdt ss n ∧ ∀ c ∈ rowAt ss n r, c = 35 ∨ c = 46
theorem rowsW_of {ss : List Sh} {high r : Nat} (h : ∀ s ∈ ss, PicR high s.w s.rs) (hr : r < high) : RowsW ss r := by
  intro n hn
  have es : ss[n]? = some ss[n] := List.getElem?_eq_getElem hn
  have p := h _ (List.getElem_mem hn)
  generalize ss[n] = s at es p
  rw [rowAt_at es, wdt_at es]
  have er : s.rs[r]? = some (s.rs[r]'(by rw [p.len]; exact hr)) := List.getElem?_eq_getElem (by rw [p.len]; exact hr)
  rw [List.getD_eq_getElem?_getD, er]
  have q := p.row _ (List.mem_of_getElem? er)
  exact ⟨q.len, q.sg⟩
theorem rowT_pix {ss : List Sh} {ws : List (Nat × Nat)} {cols r : Nat} (w : WayOk ss cols ws) (R : RowsW ss r) : ∀ k, k ≤ ws.length → rowT ss (ws.take k) r = (List.range (edge ss ws k)).map (pix ss (ws.take k) r) ∧ ∀ c, edge ss ws k ≤ c → pix ss (ws.take k) r c = 46
  | 0, _ => by
    rw [List.take_zero]
    exact ⟨rfl, fun c _ => rfl⟩
  | k + 1, h => by
    obtain ⟨i1, i2⟩ := rowT_pix w R k (by omega)
    have ep : ws[k]? = some ws[k] := List.getElem?_eq_getElem (by omega)
    generalize ws[k] = p at ep
    obtain ⟨w1, w2, w3⟩ := w k p ep
    rw [take_snoc ep, edge_at ep, rowT_snoc, i1]
    refine ⟨row_step w2 (R p.2 w1).1 i2 (fun c hc => ?_) (fun c h1 h2 => ?_), fun c hc => ?_⟩
    · rw [pix_snoc]
      unfold pixS
      rw [if_neg (by omega)]
    · rw [pix_snoc]
      unfold pixS
      rw [if_pos ⟨h1, h2⟩]
    · rw [pix_snoc]
      unfold pixS
      rw [if_neg (by omega)]
      exact i2 c (by omega)
theorem edge_le {ss : List Sh} {ws : List (Nat × Nat)} {cols : Nat} (w : WayOk ss cols ws) : edge ss ws ws.length ≤ cols := by
  rcases Nat.eq_zero_or_pos ws.length with e | e
  · rw [e]
    exact Nat.zero_le _
  · obtain ⟨n, en⟩ : ∃ n, ws.length = n + 1 := ⟨ws.length - 1, by omega⟩
    have e2 : ws[n]? = some (ws[n]'(by omega)) := List.getElem?_eq_getElem (by omega)
    rw [en, edge_at e2]
    exact (w n _ e2).2.2
theorem row_pix {ss : List Sh} {ws : List (Nat × Nat)} {cols r : Nat} (w : WayOk ss cols ws) (R : RowsW ss r) : padL (rowT ss ws r) cols = (List.range cols).map (pix ss ws r) := by
  obtain ⟨h1, h2⟩ := rowT_pix w R ws.length (Nat.le_refl _)
  rw [List.take_length] at h1 h2
  rw [h1]
  exact pad_fin (edge_le w) h2
/-- the line that a way sets -/
def drawR (ss : List Sh) (high cols : Nat) (ws : List (Nat × Nat)) : List (List Nat) := (List.range high).map fun r => (List.range cols).map (pix ss ws r)
theorem pix_ok {ss : List Sh} {r c : Nat} (R : RowsW ss r) : ∀ {ws : List (Nat × Nat)}, (∀ p ∈ ws, p.2 < ss.length) → pix ss ws r c = 35 ∨ pix ss ws r c = 46 := by
  have key : ∀ (ws : List (Nat × Nat)) (acc : Nat), (∀ p ∈ ws, p.2 < ss.length) → (acc = 35 ∨ acc = 46) → (ws.foldl (pixS ss r c) acc = 35 ∨ ws.foldl (pixS ss r c) acc = 46) := by
    intro ws
    induction ws with
    | nil => intro acc _ h; exact h
    | cons p t ih =>
      intro acc h ha
      refine ih _ (fun q hq => h q (List.mem_cons_of_mem _ hq)) ?_
      unfold pixS
      split
      · rename_i hc
        obtain ⟨l, o⟩ := R p.2 (h p List.mem_cons_self)
        rw [List.getD_eq_getElem?_getD, List.getElem?_eq_getElem (by omega)]
        exact o _ (List.getElem_mem _)
      · exact ha
  intro ws h
  exact key ws 46 h (.inr rfl)
theorem WayOk.num {ss : List Sh} {cols : Nat} {ws : List (Nat × Nat)} (w : WayOk ss cols ws) : ∀ p ∈ ws, p.2 < ss.length := fun p hp => by
  obtain ⟨i, hi⟩ := List.mem_iff_getElem?.mp hp
  exact (w i p hi).1
theorem draw_pic {ss : List Sh} {high cols : Nat} {ws : List (Nat × Nat)} (h : ∀ s ∈ ss, PicR high s.w s.rs) (w : WayOk ss cols ws) (h0 : 1 ≤ high) (h1 : high ≤ 60) (c0 : 1 ≤ cols) (c1 : cols ≤ 120) : PicR high cols (drawR ss high cols ws) := by
  refine ⟨by unfold drawR; rw [List.length_map, List.length_range], fun l hl => ?_, h0, h1, c0, c1⟩
  obtain ⟨r, hr, rfl⟩ := List.mem_map.mp hl
  refine ⟨by rw [List.length_map, List.length_range], fun x hx => ?_⟩
  obtain ⟨c, _, rfl⟩ := List.mem_map.mp hx
  exact pix_ok (rowsW_of h (List.mem_range.mp hr)) w.num
/-! ### how many places differ -/
theorem sum_add {α : Type} (f g : α → Nat) : ∀ l : List α, (l.map fun x => f x + g x).sum = (l.map f).sum + (l.map g).sum
  | [] => rfl
  | x :: r => by
    rw [List.map_cons, List.map_cons, List.map_cons, List.sum_cons, List.sum_cons, List.sum_cons, sum_add f g r]
    omega
theorem sum_zero {α : Type} : ∀ l : List α, (l.map fun _ => 0).sum = 0
  | [] => rfl
  | x :: r => by
    rw [List.map_cons, List.sum_cons, sum_zero r]
theorem sum_swap {α β : Type} (f : α → β → Nat) (m : List β) : ∀ l : List α, (l.map fun a => (m.map fun b => f a b).sum).sum = (m.map fun b => (l.map fun a => f a b).sum).sum
  | [] => by
    show 0 = (m.map fun _ => 0).sum
    rw [sum_zero]
  | a :: r => by
    rw [List.map_cons, List.sum_cons, sum_swap f m r, ← sum_add]
    rfl
theorem len_filter {α : Type} (p : α → Bool) : ∀ l : List α, (l.filter p).length = (l.map fun x => if p x = true then 1 else 0).sum
  | [] => rfl
  | x :: r => by
    rw [List.filter_cons, List.map_cons, List.sum_cons, ← len_filter p r]
    split
    · rw [List.length_cons]
      omega
    · omega
theorem zip_range {α : Type} (d : α) {β : Type} (g : Nat → β) {l : List α} {w : Nat} (h : l.length = w) : l.zip ((List.range w).map g) = (List.range w).map fun c => (l.getD c d, g c) := by
  apply List.ext_getElem?
  intro c
  by_cases hc : c < w
  · rw [List.getElem?_map, List.getElem?_range hc]
    refine List.getElem?_zip_eq_some.mpr ⟨?_, ?_⟩
    · show l[c]? = some (l.getD c d)
      rw [List.getD_eq_getElem?_getD, List.getElem?_eq_getElem (by omega)]
      rfl
    · rw [List.getElem?_map, List.getElem?_range hc]
      rfl
  · rw [List.getElem?_eq_none (by rw [List.length_zip, List.length_map, List.length_range]; omega), List.getElem?_eq_none (by rw [List.length_map, List.length_range]; omega)]
def dif (rs : List (List Nat)) (f : Nat → Nat → Nat) (r c : Nat) : Nat := if decide ((rs.getD r []).getD c 0 ≠ f r c) = true then 1 else 0
theorem misZ_pix {l : List Nat} {w : Nat} {g : Nat → Nat} (h : l.length = w) : misZ l ((List.range w).map g) = ((List.range w).map fun c => if decide (l.getD c 0 ≠ g c) = true then 1 else 0).sum := by
  unfold misZ
  rw [zip_range 0 g h, List.filter_map, List.length_map, len_filter]
  rfl
theorem cast_sum {α : Type} (f : α → Nat) : ∀ l : List α, (l.map fun x => (f x : Int)).sum = (((l.map f).sum : Nat) : Int)
  | [] => rfl
  | x :: r => by
    rw [List.map_cons, List.map_cons, List.sum_cons, List.sum_cons, cast_sum f r, Int.natCast_add]
theorem misP_pix {high wide : Nat} {rs : List (List Nat)} {f : Nat → Nat → Nat} (R : RowsR high wide rs) : misP rs ((List.range high).map fun r => (List.range wide).map (f r)) = ((((List.range wide).map fun c => ((List.range high).map fun r => dif rs f r c).sum).sum : Nat) : Int) := by
  unfold misP
  rw [zip_range [] _ R.len, List.map_map]
  have e : ((fun p : List Nat × List Nat => (misZ p.1 p.2 : Int)) ∘ fun r => (rs.getD r [], (List.range wide).map (f r))) = fun r => (misZ (rs.getD r []) ((List.range wide).map (f r)) : Int) := rfl
  rw [e, cast_sum, ← sum_swap]
  congr 2
  refine List.map_congr_left fun r hr => ?_
  have hr' := List.mem_range.mp hr
  have er : rs[r]? = some (rs[r]'(by rw [R.len]; exact hr')) := List.getElem?_eq_getElem (by rw [R.len]; exact hr')
  have ed : rs.getD r [] = rs[r]'(by rw [R.len]; exact hr') := by
    rw [List.getD_eq_getElem?_getD, er]
    rfl
  rw [ed, misZ_pix (R.row _ (List.getElem_mem _)).len]
  unfold dif
  rw [ed]
/-- a column's places that differ -/
theorem col_dif {high wide : Nat} {rs : List (List Nat)} {f : Nat → Nat → Nat} {c : Nat} (R : RowsR high wide rs) : ((rs.zip ((List.range high).map fun r => f r c)).filter fun q => decide (q.1.getD c 0 ≠ q.2)).length = ((List.range high).map fun r => dif rs f r c).sum := by
  rw [zip_range [] _ R.len, List.filter_map, List.length_map, len_filter]
  rfl
end Dt
namespace Dt
open PySem PySem.Spec PyProof.Rows L2 L2X
open SX (S)
abbrev sWL : Stmt := topS 50
theorem scWL : FnScope ["alphabet", "thing"] ["alphabet", "thing"] (defScope sWL) := ⟨rfl, rfl, rfl, by decide +kernel, rfl, by decide +kernel, by decide +kernel⟩
def spWL (C : Addr) : Sp := fun vs H Q _ => ∃ (o a : Addr) (high wide : Nat) (ss : List Sh) (rs : List (List Nat)), vs = [.ref o, .ref a] ∧ AlpAt C H o high ss ∧ H a = some (.tup (rs.map rv)) ∧ PicR high wide rs ∧ wide ≤ 60 ∧ ∀ H', Same H H' → Q .non H'
theorem cut_pic {high wide c w : Nat} {rs : List (List Nat)} (pr : PicR high wide rs) (h : c + w ≤ wide) (w0 : 1 ≤ w) : PicR high w (cutR rs 0 c high w) := by
  have w1 := pr.w1
  refine ⟨?_, fun l hl => ?_, pr.h0, pr.h1, w0, by omega⟩
  · unfold cutR
    rw [List.length_map, List.length_take, List.length_drop, pr.len]
    omega
  · obtain ⟨r, hr, rfl⟩ := List.mem_map.mp hl
    have rr := pr.row r (List.mem_of_mem_drop (List.mem_of_mem_take hr))
    refine ⟨?_, fun x hx => rr.sg x (List.mem_of_mem_drop (List.mem_of_mem_take hx))⟩
    rw [List.length_take, List.length_drop, rr.len]
    omega
section
variable {P : Program} {w : World} {K : PySem.W.Frag} {mg : Str → Option Value} {base : Heap} {C CA CP : Addr}
theorem ok_wl {f : Addr} {fd : FuncData} {k : Nat} (F : Fun K "want_line" "want_line" sWL f fd) (TA : Tal K mg CA) (ml : ∃ t, mg "MOST_LINE_COLUMNS" = some (.int 60 t)) (GI : Pm P w K mg base CX0 (k + 1) "is_picture" ["thing"] (spIsPic K)) (GZ : GS P w K mg base C (k + 1)) (GH : Mm P w K mg base (k + 1) CA "high" ["self"] (spAH CA)) : FnOk P w K mg base CX0 (k + 2) f fd ["alphabet", "thing"] (spWL CA) := by
  obtain ⟨fI, fdI, GI, mI, kI, bI⟩ := GI.ex
  obtain ⟨fZ, fdZ, GZ, mZ, kZ, bZ⟩ := GZ.ex
  obtain ⟨fH, fdH, GH, mH, bH⟩ := GH.ex
  obtain ⟨tl, hml⟩ := ml
  refine F.ok scWL (fun vs H Q E h => ?_) (fun cdv A outer s H vs Q E hr h => ?_)
  · obtain ⟨o, a, _, _, _, _, rfl, _⟩ := h
    rfl
  · obtain ⟨o, a, high, wide, ss, rs, rfl, al, ha, pr, w6, q⟩ := h
    refine ⟨_, pss_one (ps_if (PW.pt (pw_or (pt_not (pt_val (pe_call GI hr (by rfl) mI kI bI .nil pass0 (pa_cons (pv 1) pa_nil)))) (pw_or (pt_cmpR op_ne (pe_ix (r := rIxT K) ix_tup (pe_call GZ hr (by rfl) mZ kZ bZ .nil passX0 (pa_cons (pv 1) pa_nil)) pe_int (fun _ _ => rfl)) (pe_meth0 (pv 0) TA.cl mH GH hr bH .nil pass0) (nomark _))
        (pw_or1 (pt_cmpR op_gt (pe_ix (r := rIxT K) ix_tup (pe_call GZ hr (by rfl) mZ kZ bZ .nil passX0 (pa_cons (pv 1) pa_nil)) pe_int (fun _ _ => rfl)) (pe_glob (v := .int 60) (by rfl) hml ⟨_, rfl⟩) (nomark _)))))) pss_never pss_nil), ?_⟩
    have pz := picSize pr
    refine ⟨.ref a, rfl, .ref a, true, rfl, askPic pr ha, fun H1 s1 => ⟨_, rfl, iteF ?_⟩⟩
    refine ⟨.ref a, rfl, .ref a, rfl, .inr ⟨a, _, rfl, SqT.of (s1 _ _ ha), kn_rows pr, picOk_pic pr, fun p3 H3 s3 n3 h3 => ?_⟩⟩
    rw [pz.1, pz.2] at h3
    have s13 := s1.trans s3
    have al3 := al.same s13
    obtain ⟨dx, t, xs, ho, ht, Ss⟩ := id al3
    refine ⟨p3, _, 0, .int high, rfl, rfl, SqT.of h3, rfl, .ref o, rfl, o, dx, _, rfl, ho, aF_no _ _ (by decide +kernel) (by decide +kernel), o, high, ss, rfl, al3, rfl, _, rfl, ?_⟩
    have e1 : (!decide (V.int (high : Int) = V.int (high : Int))) = false := by
      rw [decide_eq_true rfl]
      rfl
    rw [e1]
    refine iteF ⟨.ref a, rfl, .ref a, rfl, .inr ⟨a, _, rfl, SqT.of (s13 _ _ ha), kn_rows pr, picOk_pic pr, fun p4 H4 s4 n4 h4 => ?_⟩⟩
    rw [pz.1, pz.2] at h4
    refine ⟨p4, _, 1, .int wide, rfl, rfl, SqT.of h4, rfl, wide, 60, rfl, rfl, _, rfl, ?_⟩
    exact iteE (decide_eq_false (by omega)) (q H4 (s13.trans s4))
end
end Dt
/-! min and sorted of data: lists of tuples of tuples -/
namespace L2X
open PySem PySem.Spec PyProof.Rows L2
open PySem.W (dataLt AlikeAll minD alike AllAlike Sortable dataLe EachIs)
/-! ### the order of data -/
theorem dlt_irr (x : PyData) : dataLt x x = false := lex_irrefl _
theorem dlt_trans {x y z : PyData} (h1 : dataLt x y = true) (h2 : dataLt y z = true) : dataLt x z = true := lex_trans _ _ _ h1 h2
theorem dlt_neg {x y z : PyData} (h : dataLt x z = true) : dataLt x y = true ∨ dataLt y z = true := lex_negTrans _ _ _ h
/-- y is least of ds -/
def Lst (ds : List PyData) (y : PyData) : Prop := ∀ e ∈ ds, dataLt e y = false
theorem minD_least : ∀ (xs : List PyData) (x : PyData), Lst (x :: xs) (minD x xs) ∧ minD x xs ∈ x :: xs
  | [], x => ⟨fun e he => by
      rw [List.mem_singleton.mp he]
      exact dlt_irr x, List.mem_singleton.mpr rfl⟩
  | y :: r, x => by
    have e0 : minD x (y :: r) = minD (if dataLt y x then y else x) r := rfl
    rw [e0]
    obtain ⟨h, m⟩ := minD_least r (if dataLt y x then y else x)
    have key : ∀ e, dataLt e (if dataLt y x then y else x) = false → dataLt e (minD (if dataLt y x then y else x) r) = false := fun e he => by
      cases c : dataLt e (minD (if dataLt y x then y else x) r) with
      | false => rfl
      | true =>
        rcases dlt_neg (y := if dataLt y x then y else x) c with c1 | c1
        · rw [he] at c1
          cases c1
        · rw [h _ List.mem_cons_self] at c1
          cases c1
    refine ⟨fun e he => ?_, ?_⟩
    · rcases List.mem_cons.mp he with rfl | he
      · refine key e ?_
        by_cases c : dataLt y e = true
        · rw [if_pos c]
          cases c2 : dataLt e y with
          | false => rfl
          | true => exact absurd (dlt_trans c c2) (by rw [dlt_irr]; decide)
        · rw [if_neg c]
          exact dlt_irr e
      · rcases List.mem_cons.mp he with rfl | he
        · refine key e ?_
          by_cases c : dataLt e x = true
          · rw [if_pos c]
            exact dlt_irr e
          · rw [if_neg c]
            exact eq_false_of_ne_true c
        · exact h e (List.mem_cons_of_mem _ he)
    · rcases List.mem_cons.mp m with m | m
      · rw [m]
        by_cases c : dataLt y x = true
        · rw [if_pos c]
          exact List.mem_cons_of_mem _ List.mem_cons_self
        · rw [if_neg c]
          exact List.mem_cons_self
      · exact List.mem_cons_of_mem _ (List.mem_cons_of_mem _ m)
theorem DpAll.len {K : PySem.W.Frag} {H : Hp} : ∀ {xs : List V} {ds : List PyData}, DpAll K H xs ds → xs.length = ds.length
  | _, _, .nil => rfl
  | _, _, .cons _ r => congrArg Nat.succ (DpAll.len r)
theorem DpAll.at_ {K : PySem.W.Frag} {H : Hp} : ∀ {xs : List V} {ds : List PyData}, DpAll K H xs ds → ∀ (i : Nat) x d, xs[i]? = some x → ds[i]? = some d → Dp K H x d
  | _, _, .nil, i, x, d, h, _ => by simp at h
  | _, _, .cons h r, 0, x, d, e1, e2 => by
    cases e1
    cases e2
    exact h
  | _, _, .cons h r, i + 1, x, d, e1, e2 => DpAll.at_ r i x d e1 e2
section
variable {prog : Program} {w : World} {A : Around} {E : Value → Shared → Prop} {s : Shared}
theorem min_two_data {a b : Value} {da db : PyData} {as : List Addr} {Q : Value → Shared → Prop} (hh : A.handled = none) (hr : ReadsAll s.heap [a, b] [da, db] as) (ha : AlikeAll [da, db]) (hu : A.units + 1 + PyData.depthAll [da, db] < cLine)
    (h : ∀ h' tk, (∀ c o, s.heap.get? c = some o → h'.get? c = some o) → Q (if dataLt db da then b else a) { s with heap := h', toks := tk }) :
    wpAny (model prog w) A (call (.builtin "min") [a, b]) Q E s := by
  have hname : (toString "min" ++ toString ".loop" : String) = "min.loop" := by decide
  refine call_function_tree F.kind_min F.plain_min F.entry_min (F.args_min2 _ _) ?_
  show wpAny _ A.in1 (Builtin.Builtins.bindParams "min" ["key", "default"] 0 ⟨[], []⟩ >>= _) _ _ s
  refine wpAny_bind (wpAny_of_eq (show Builtin.Builtins.bindParams "min" ["key", "default"] 0 ⟨[], []⟩ = pure [none, none] from rfl) ?_)
  show wpAny _ A.in1 (newTuple [a, b] >>= _) _ _ s
  refine wpAny_bind (wpAny_newObj_type ?_)
  have kp : ∀ c o, s.heap.get? c = some o → (s.heap.push { cls := .type "tuple", data := .seq #[a, b] }).get? c = some o := fun c o e => Heap.get?_push_of_some _ e
  have hT : (s.heap.push { cls := .type "tuple", data := .seq #[a, b] }).IsTuple s.heap.objs.size #[a, b] := ⟨_, Heap.get?_push_size _ rfl, rfl, 0, rfl⟩
  have hr1 : ReadsAll (s.heap.push { cls := .type "tuple", data := .seq #[a, b] }) (#[a, b] : Array Value).toList [da, db] as := ReadsAll.keeps kp hr
  refine wpAny_bind (PySem.W.iter_tupleW (s := { s with heap := s.heap.push { cls := .type "tuple", data := .seq #[a, b] } }) (A := A.in1) hh hT fun s₂ e W st hfp hw hk => ?_)
  have hSf : s₂.heap.objs.size ∉ [(s.heap.push { cls := .type "tuple", data := .seq #[a, b] }).objs.size, s.heap.objs.size] := fun hm => Nat.lt_irrefl _ (hfp _ hm)
  refine wpAny_bind (wpAny_newObj_type ?_)
  rw [hname]
  refine wpAny_pure ⟨plainId_quiet F.plain_min_loop _, codeAny_min_loop_firstH W _ hw _ (PySem.W.cmpIn_lt (A := A.in1) (s := { s with heap := s.heap.push { cls := .type "tuple", data := .seq #[a, b] } }) hr1 ha (by show A.units + 1 + _ < _; exact hu)) s₂.heap.objs.size hSf (fresh_in hk) _ (by simp)
    (fun b o e => Heap.get?_push_of_some _ (hk b o e)) (W.frame 0 s₂ _ s₂.toks st (Nat.le_refl _) fun b _ o e => Heap.get?_push_of_some _ e) (Heap.get?_push_size _ rfl) fun v s' hP hm => ?_⟩
  obtain ⟨h', tk, rfl, hk'⟩ := PySem.W.moved_old e rfl (Moved.drop_new (tk := s₂.toks) hm (Nat.le_refl _))
  have := h h' tk fun c o e => hk' c o (kp c o e)
  have hv : v = if dataLt db da then b else a := by
    cases hc : dataLt db da <;> simp [argBest, hc] at hP <;> simp [hP]
  rw [hv]
  exact this
end
theorem pgetV {α β : Type} {F : α → β → Prop} : ∀ {l₁ : List α} {l₂ : List β} {j : Nat} {x : β}, Paired F l₁ l₂ → l₂[j]? = some x → ∃ y, l₁[j]? = some y ∧ F y x
  | _, _, j, x, .nil, h => by simp at h
  | _, _, 0, x, .cons h r, e => ⟨_, rfl, by cases e; exact h⟩
  | _, _, j + 1, x, .cons h r, e => pgetV (j := j) r e
section
variable {X : Cx}
/-- min(xs) of a list of data -/
def rMinD (K : PySem.W.Frag) : List V → Hp → VK → Prop := fun vs H Q => ∃ (l : Addr) (xs : List V) (ds : List PyData), vs = [.ref l] ∧ SqL K H l xs ∧ DpAll K H xs ds ∧ ds ≠ [] ∧ AlikeAll ds ∧ PyData.depthAll ds ≤ 50 ∧
  ∀ (i : Nat) x d, xs[i]? = some x → ds[i]? = some d → Lst ds d → Q x H
theorem cr_minD (hc : X.calm = true) (hu : X.A.units + 64 < cLine) : CallR X (.builtin "min") (rMinD X.K) := by
  intro pins s σ H vs us Q I r h
  obtain ⟨l, xs, ds, rfl, hs, hd, hne, ha, dp, q⟩ := h
  obtain ⟨its, rv, hl, _⟩ := I.list hs
  rw [Vals.ref1 r]
  obtain ⟨as, hr⟩ := Dp.readsAll I ds xs its hd rv
  cases ds with
  | nil => exact absurd rfl hne
  | cons d0 dr =>
    refine PySem.W.min_list_data (vs := its.toArray) (I.ok.hd hc) hl.isList (by simpa using hr) ha (by omega) fun i v h' tk bs hv rd hk => ?_
    have hv' : its[i]? = some v := by simpa using hv
    obtain ⟨bs2, r2, lt, mem, _⟩ := PySem.W.readsAll_at hr i v hv'
    have md := minD_least dr d0
    have eq : (d0 :: dr).getD i .none = minD d0 dr := PySem.W.alike_unique _ _ v _ _ (ha.1 _ mem _ md.2) (PySem.W.reads_keeps hk r2) rd
    obtain ⟨x, hx, rx⟩ := pgetV rv hv'
    have ed : (d0 :: dr)[i]? = some (minD d0 dr) := by
      rw [← eq, List.getD_eq_getElem?_getD, List.getElem?_eq_getElem lt]
      rfl
    exact ⟨x, H, I.kept hk, rx, q i x _ hx ed md.1⟩
/-- min(x, y) of data -/
def rMin2D (K : PySem.W.Frag) : List V → Hp → VK → Prop := fun vs H Q => ∃ (x y : V) (dx dy : PyData), vs = [x, y] ∧ Dp K H x dx ∧ Dp K H y dy ∧ AlikeAll [dx, dy] ∧ PyData.depthAll [dx, dy] ≤ 50 ∧ Q (if dataLt dy dx then y else x) H
theorem cr_min2D (hc : X.calm = true) (hu : X.A.units + 64 < cLine) : CallR X (.builtin "min") (rMin2D X.K) := by
  intro pins s σ H vs us Q I r h
  obtain ⟨x, y, dx, dy, rfl, hx, hy, ha, dp, q⟩ := h
  obtain ⟨u1, u2, rfl, r1, r2⟩ := vals2 r
  obtain ⟨as, hr⟩ := Dp.readsAll I [dx, dy] [x, y] [u1, u2] (.cons hx (.cons hy .nil)) r
  refine min_two_data (I.ok.hd hc) hr ha (by omega) fun h' tk k => ⟨_, H, I.kept k, ?_, q⟩
  by_cases c : dataLt dy dx = true
  · rw [if_pos c, if_pos c]
    exact r2
  · rw [if_neg c, if_neg c]
    exact r1
/-- sorted(xs) of a list of data -/
def srtD (xs : List V) (ds : List PyData) : List (V × PyData) := (xs.zip ds).mergeSort (dataLe false Prod.snd)
def rSortD (K : PySem.W.Frag) : List V → Hp → VK → Prop := fun vs H Q => ∃ (l : Addr) (xs : List V) (ds : List PyData), vs = [.ref l] ∧ SqL K H l xs ∧ DpAll K H xs ds ∧ AllAlike ds ∧ Sortable ds ∧ (∀ d ∈ ds, d.depth ≤ 50) ∧
  ∀ p, H p = none → Q (.ref p) (upd H p (.lst ((srtD xs ds).map Prod.fst)))
theorem each_of {s : Shared} {pins : List (Addr × Obj)} {σ : L2.St} {H : Hp} (I : Inv X pins σ H s) : ∀ {xs : List V} {ds : List PyData} {us : List Value}, DpAll X.K H xs ds → Vals xs us →
    EachIs (fun v (b : V × PyData) => L2.RelV b.1 v) us (xs.zip ds) ∧ EachIs (fun v (b : V × PyData) => ∃ as, Reads s.heap v b.2 as) us (xs.zip ds)
  | _, _, _, .nil, .nil => ⟨.nil, .nil⟩
  | _, _, _, .cons h r, .cons rx rr => by
    obtain ⟨a, b⟩ := each_of I r rr
    exact ⟨.cons rx a, .cons (Dp.reads I _ _ _ h rx) b⟩
theorem vals_each : ∀ {us : List Value} {bs : List (V × PyData)}, EachIs (fun v (b : V × PyData) => L2.RelV b.1 v) us bs → Vals (bs.map Prod.fst) us
  | _, _, .nil => .nil
  | _, _, .cons h r => .cons h (vals_each r)
theorem zip_snd {α β : Type} : ∀ {xs : List α} {ys : List β}, xs.length = ys.length → (xs.zip ys).map Prod.snd = ys
  | [], [], _ => rfl
  | x :: xs, y :: ys, h => congrArg (y :: ·) (zip_snd (Nat.succ.inj h))
theorem cr_sortD (hu : X.A.units + 64 < cLine) : CallR X (.builtin "sorted") (rSortD X.K) := by
  intro pins s σ H vs us Q I r h
  obtain ⟨l, xs, ds, rfl, hs, hd, hal, hk, hdp, q⟩ := h
  obtain ⟨its, rv, hl, hln⟩ := I.list hs
  rw [Vals.ref1 r]
  obtain ⟨e1, e2⟩ := each_of I hd rv
  have len := L2X.DpAll.len hd
  have es : (xs.zip ds).map Prod.snd = ds := zip_snd len
  have lz : (xs.zip ds).length = xs.length := by
    rw [List.length_zip, len, Nat.min_self]
  refine PySem.W.sorted_data (enc := Prod.snd) hl.isList e1 e2 (by rw [es]; exact hal) (by rw [es]; exact hk) (by rw [lz]; exact hln) (fun b hb => ?_) fun out ho hout => ?_
  · have := hdp b.2 (by rw [← es]; exact List.mem_map_of_mem hb)
    omega
  · obtain ⟨ep, he'⟩ := PyProof.Rows.sortedAll_at s.heap its (List.toArray out)
    have hlen : ((srtD xs ds).map Prod.fst).length ≤ sizeLine := by
      unfold srtD
      rw [List.length_map, List.length_mergeSort, lz]
      exact hln
    exact ⟨.ref _, upd H (s.heap.objs.size + 1) (.lst ((srtD xs ds).map Prod.fst)), I.laid (t' := s.toks) (fun _ _ => PyProof.Rows.sortedAll_old) (Nat.le_succ _) ⟨hlen, out, ep, vals_each hout, he'⟩, rfl, q _ (I.hok.fresh (Nat.le_succ _))⟩
end
end L2X
/-! zip over any number of iterators: one turn -/
namespace L2X
open PySem PySem.Spec PyProof.Rows L2
abbrev tupO (xs : List Value) : Obj := { cls := .type "tuple", data := .seq xs.toArray }
section
variable {x0 b0 : Value} {prog : Program} {w : World} {A : Around} {E : Value → Shared → Prop} {s : Shared} {z TI TO : Addr} {m i : Nat} {it : Nat → Addr} {fp : Nat → List Addr} {n : Nat → Nat} {Pv : Nat → Nat → Value → Prop} {St : Nat → Nat → Heap → Prop}
abbrev IsZ5 (h : Heap) (z TI TO : Addr) (x b : Value) : Prop := h.get? z = some { cls := .type "zip", dict := none, data := .fields #[x, b, .bool false, .ref TI, .ref TO], slots := #[] }
/-- the tuple given out before is free -/
def FreeT (prog : Program) (w : World) (A : Around) (z : Addr) (s : Shared) : Prop := ∀ (E : Value → Shared → Prop) (Q : Bool → Shared → Prop), Q true s → wpAny (model prog w) A (Builtin.SmallTypes.ownedTupleIsFree (.ref z)) Q E s
theorem free_none {b : Value} (hz : IsZ5 s.heap z TI TO .none b) : FreeT prog w A z s := fun E Q h => by
  unfold Builtin.SmallTypes.ownedTupleIsFree
  exact wpAny_bind (wpAny_field hz rfl (x := .none) rfl (wpAny_pure h))
theorem not_alive {a : Addr} {Q : Option Obj → Shared → Prop} (ho : s.heap.get? a = none) (h : Q none s) : wpAny (model prog w) A (loadIfAlive a) Q E s := by
  have h' : Q (s.heap.get? a) s := by rw [ho]; exact h
  exact fun _ _ _ => h'
theorem free_gone {T : Addr} {b : Value} (hz : IsZ5 s.heap z TI TO (rawInt T) b) (hT : s.heap.get? T = none) : FreeT prog w A z s := fun E Q h => by
  unfold Builtin.SmallTypes.ownedTupleIsFree
  refine wpAny_bind (wpAny_field hz rfl (x := rawInt T) rfl ?_)
  show wpAny _ _ (loadIfAlive ((T : Int).toNat) >>= _) _ _ _
  rw [Int.toNat_natCast]
  refine wpAny_bind (not_alive hT ?_)
  simp only [Option.isNone_none, if_true]
  exact wpAny_pure h
def itRefs (m : Nat) (it : Nat → Addr) : List Value := (List.range m).map fun k => Value.ref (it k)
structure SepN (m : Nat) (it : Nat → Addr) (fp : Nat → List Addr) (z TI TO : Addr) : Prop where
  TIz : TI ≠ z
  TOz : TO ≠ z
  TITO : TI ≠ TO
  TIi : ∀ k, k < m → TI ≠ it k
  mem : ∀ k, k < m → it k ∈ fp k
  zf : ∀ k, k < m → z ∉ fp k
  Tf : ∀ k, k < m → TO ∉ fp k
  sep : ∀ j k, j < m → k < m → j ≠ k → it j ∉ fp k
theorem SepN.zi (S : SepN m it fp z TI TO) {k : Nat} (h : k < m) : z ≠ it k := fun e => S.zf k h (by rw [e]; exact S.mem k h)
theorem SepN.Ti (S : SepN m it fp z TI TO) {k : Nat} (h : k < m) : TO ≠ it k := fun e => S.Tf k h (by rw [e]; exact S.mem k h)
/-- k of them have been drawn -/
structure Zst (b0 : Value) (m : Nat) (it : Nat → Addr) (Pv : Nat → Nat → Value → Prop) (St : Nat → Nat → Heap → Prop) (z TI TO : Addr) (i k : Nat) (xs : List Value) (h0 h : Heap) : Prop where
  zz : IsZ5 h z TI TO .ellipsis b0
  tt : h.get? TO = some (tupO xs)
  ln : xs.length = m
  lo : ∀ j v, j < k → xs[j]? = some v → Pv j i v
  s1 : ∀ j, j < k → j < m → St j (i + 1) h
  s2 : ∀ j, k ≤ j → j < m → St j i h
  sz : h.objs.size = h0.objs.size
  kp : ∀ c o, c ≠ z → c ≠ TO → (∀ j, j < m → c ≠ it j) → h0.get? c = some o → h.get? c = some o
theorem zipIdx_refs (m : Nat) (it : Nat → Addr) : (itRefs m it).toArray.toList.zipIdx = (List.range m).map fun k => (Value.ref (it k), k) := by
  apply List.ext_getElem
  · simp [itRefs]
  · intro k h1 h2
    simp [itRefs]
theorem zipN_next_item {xs0 : List Value} {Q : Value → Shared → Prop} (hm : 0 < m) (hm2 : m ≤ 1000) (S : SepN m it fp z TI TO) (D : ∀ k, k < m → Draws prog w A (it k) (fp k) (n k) (Pv k) (St k))
    (hz : IsZ5 s.heap z TI TO x0 b0) (hfr : FreeT prog w A z s) (hTI : s.heap.get? TI = some (tupO (itRefs m it))) (hTO : s.heap.get? TO = some (tupO xs0)) (hl : xs0.length = m) (st : ∀ k, k < m → St k i s.heap) (hlt : ∀ k, k < m → i < n k)
    (hQ : ∀ (xs : List Value) h' tk, xs.length = m → (∀ j v, xs[j]? = some v → Pv j i v) → IsZip h' z TI TO (rawInt s.heap.objs.size) → h'.get? TO = some (tupO xs) → (∀ k, k < m → St k (i + 1) h') → h'.get? s.heap.objs.size = some (tupO xs) → h'.objs.size = s.heap.objs.size + 1 →
      (∀ c o, c ≠ z → c ≠ TO → (∀ j, j < m → c ≠ it j) → s.heap.get? c = some o → h'.get? c = some o) → Q (.ref s.heap.objs.size) { s with heap := h', toks := tk }) :
    wpAny (model prog w) A (Builtin.«zip.__next__» ⟨[.ref z], []⟩) (fun fin s' => ∃ v, fin = .done (.ret v) ∧ Q v s') E s := by
  obtain ⟨hp, g, d, tk0, os⟩ := s
  have ne : (itRefs m it).toArray.isEmpty = false := by
    simp [itRefs]
    omega
  show wpAny _ _ (field (.ref z) 2 >>= _) _ _ _
  refine wpAny_bind (wpAny_field hz rfl (x := .bool false) rfl ?_)
  show wpAny _ _ (field (.ref z) 3 >>= _) _ _ _
  refine wpAny_bind (wpAny_field hz rfl (x := .ref TI) rfl ?_)
  refine wpAny_bind (wpAny_seqItems hTI rfl ?_)
  simp only [ne, Bool.false_eq_true, if_false]
  refine wpAny_bind ?_
  refine hfr _ _ ?_
  simp only [if_true]
  refine wpAny_bind (wpAny_rule ?_)
  refine wpAny_bind (wpAny_field hz rfl (x := .ref TO) rfl ?_)
  refine wpAny_bind (wpAny_setField_rec hz (by simp) fun g0 hz0 hs0 => ?_)
  refine wpAny_bind ?_
  rw [zipIdx_refs]
  refine wpAny_forIn_list _ (fun rest b s' => b.1 = none ∧ ∃ (k : Nat) (xs : List Value) (h' : Heap) (tk : Nat), s' = ⟨h', g, d, tk, os⟩ ∧ k ≤ m ∧ rest = ((List.range m).map fun k => (Value.ref (it k), k)).drop k ∧ Zst b0 m it Pv St z TI TO i k xs hp h') _ ?_ ?_ _ _ ⟨rfl, 0, xs0, g0, tk0, rfl, Nat.zero_le _, rfl, ?_⟩
  · rintro ⟨v, j⟩ rest ⟨b1, b2⟩ s' ⟨hb, k, xs, h', tk, rfl, hk, hr, Z⟩
    have hb' : b1 = none := hb
    subst hb'
    have hkm : k < m := by
      rcases Nat.lt_or_ge k m with q | q
      · exact q
      · rw [List.drop_eq_nil_of_le (by simp; exact q)] at hr
        cases hr
    have hd : ((List.range m).map fun k => (Value.ref (it k), k)).drop k = (Value.ref (it k), k) :: ((List.range m).map fun k => (Value.ref (it k), k)).drop (k + 1) := by
      rw [List.drop_eq_getElem_cons (by simp; exact hkm)]
      simp
    rw [hd] at hr
    have e1 := (List.cons.inj hr).1
    have e2 := (List.cons.inj hr).2
    have ev : v = Value.ref (it k) := congrArg Prod.fst e1
    have ej : j = k := congrArg Prod.snd e1
    subst ev
    subst ej
    refine wpAny_bind (wpAny_onRaise ?_)
    show wpAny _ _ (Builtin.SmallTypes.nextOf (.ref (it j)) >>= _) _ _ ⟨h', g, d, tk, os⟩
    refine wpAny_bind ((D j hkm).item i _ _ _ (hlt j hkm) (Z.s2 j (Nat.le_refl _) hkm) fun x p tk' hx sn hp' => wpAny_pure ?_)
    replace hp' : Heap.SameBut (it j) h' p := hp'
    have hU : p.get? TO = some (tupO xs) := hp'.extBut _ _ (S.Ti hkm) Z.tt
    refine wpAny_bind (wpAny_seqItems (s := ⟨p, g, d, tk', os⟩) hU rfl ?_)
    have zl : xs.length ≤ sizeLine := by
      rw [Z.ln]
      exact Nat.le_of_lt (small1000 hm2)
    have z1 : xs.toArray.size ≤ sizeLine := by
      rw [List.size_toArray]
      exact zl
    have z2 : (xs.toArray.setIfInBounds j x).size ≤ sizeLine + 1 := by
      rw [Array.size_setIfInBounds]
      omega
    refine wpAny_bind (wpAny_updateSeq (s := ⟨p, g, d, tk', os⟩) hU rfl ?_ z1 z2)
    have hs1 : Heap.SameBut TO p (p.update TO (Obj.mapSeq (·.setIfInBounds j x))) := Heap.SameBut.update ..
    have hT1 : (p.update TO (Obj.mapSeq (·.setIfInBounds j x))).get? TO = some (tupO (xs.set j x)) := by
      rw [Heap.get?_update_self _ hU rfl]
      simp [Obj.mapSeq]
    generalize p.update TO (Obj.mapSeq (·.setIfInBounds j x)) = g1 at hs1 hT1
    refine wpAny_bind (wpAny_letGo (wpAny_pure ?_))
    refine ⟨rfl, j + 1, xs.set j x, g1, tk', rfl, hkm, e2, ?_⟩
    have keep : ∀ c o, c ≠ TO → c ≠ it j → h'.get? c = some o → g1.get? c = some o := fun c o c1 c2 e => hs1.extBut _ _ c1 (hp'.extBut _ _ c2 e)
    refine ⟨?_, hT1, ?_, fun q v hq hv => ?_, fun q hq hqm => ?_, fun q hq hqm => ?_, ?_, fun c o c1 c2 c3 e => ?_⟩
    · exact keep _ _ S.TOz.symm (S.zi hkm) Z.zz
    · rw [List.length_set, Z.ln]
    · by_cases eq : q = j
      · subst eq
        rw [List.getElem?_set_self (by rw [Z.ln]; exact hkm)] at hv
        cases hv
        exact hx
      · rw [List.getElem?_set_ne (Ne.symm eq)] at hv
        exact Z.lo q v (by omega) hv
    · by_cases eq : q = j
      · subst eq
        exact (D q hqm).frame _ _ _ sn fun b hb o e => hs1.extBut _ _ (fun z => S.Tf q hqm (z ▸ hb)) e
      · exact (D q hqm).frame _ _ _ (Z.s1 q (by omega) hqm) fun b hb o e => keep b o (fun z => S.Tf q hqm (z ▸ hb)) (fun z => S.sep j q hkm hqm (fun y => eq y.symm) (z ▸ hb)) e
    · exact (D q hqm).frame _ _ _ (Z.s2 q (by omega) hqm) fun b hb o e => keep b o (fun z => S.Tf q hqm (z ▸ hb)) (fun z => S.sep j q hkm hqm (by omega) (z ▸ hb)) e
    · rw [hs1.1, hp'.1, Z.sz]
    · exact keep c o c2 (c3 j hkm) (Z.kp c o c1 c2 c3 e)
  · rintro ⟨b1, b2⟩ s' ⟨hb, k, xs, h', tk, rfl, hk, hr, Z⟩
    have hb' : b1 = none := hb
    subst hb'
    have hkm : k = m := by
      rcases Nat.lt_or_ge k m with q | q
      · rw [List.drop_eq_getElem_cons (by simp; exact q)] at hr
        cases hr
      · omega
    subst hkm
    have zl : xs.length ≤ sizeLine := by
      rw [Z.ln]
      exact Nat.le_of_lt (small1000 hm2)
    refine wpAny_bind (wpAny_seqItems (s := ⟨h', g, d, tk, os⟩) Z.tt rfl ?_)
    refine wpAny_bind (wpAny_newTuple ?_ (by simpa using zl))
    have hzlt : z < h'.objs.size := Heap.lt_size Z.zz
    show wpAny _ _ (Builtin.SmallTypes.ownedTupleHandOut (.ref z) (.ref h'.objs.size) >>= _) _ _ ⟨h'.push (tupO xs), g, d, tk, os⟩
    refine wpAny_bind ?_
    unfold Builtin.SmallTypes.ownedTupleHandOut
    have hz6 : IsZ5 (h'.push (tupO xs)) z TI TO .ellipsis b0 := Heap.get?_push_of_some _ Z.zz
    refine wpAny_bind (wpAny_setField_rec hz6 (by simp) fun h7 hz7 hs7 => ?_)
    replace hz7 : IsZ5 h7 z TI TO (rawInt h'.objs.size) b0 := hz7
    refine wpAny_setField_rec hz7 (by simp) fun h8 hz8 hs8 => ?_
    replace hz8 : IsZip h8 z TI TO (rawInt h'.objs.size) := hz8
    replace hs7 : Heap.SameBut z (h'.push (tupO xs)) h7 := hs7
    replace hs8 : Heap.SameBut z h7 h8 := hs8
    have up : ∀ c o, c ≠ z → h'.get? c = some o → h8.get? c = some o := fun c o c1 e => hs8.extBut _ _ c1 (hs7.extBut _ _ c1 (Heap.get?_push_of_some _ e))
    have hT8 : h8.get? h'.objs.size = some (tupO xs) := hs8.extBut _ _ (Nat.ne_of_gt hzlt) (hs7.extBut _ _ (Nat.ne_of_gt hzlt) (Heap.get?_push_size _ rfl))
    have hz8s : h8.objs.size = h'.objs.size + 1 := by rw [hs8.1, hs7.1, Heap.size_push]
    rw [Z.sz] at hz8 hT8 hz8s
    refine wpAny_pure ⟨_, rfl, ?_⟩
    show Q (.ref h'.objs.size) ⟨h8, g, d, tk, os⟩
    rw [Z.sz]
    exact hQ xs h8 tk Z.ln (fun j v hv => Z.lo j v (by rw [← Z.ln]; exact (List.getElem?_eq_some_iff.mp hv).1) hv) hz8 (up _ _ S.TOz Z.tt) (fun q hq => (D q hq).frame _ _ _ (Z.s1 q hq hq) fun b hb o e => up b o (fun y => S.zf q hq (y ▸ hb)) e) hT8 hz8s fun c o c1 c2 c3 e => up c o c1 (Z.kp c o c1 c2 c3 e)
  · refine ⟨hz0, hs0.extBut _ _ S.TOz hTO, hl, fun j v h => absurd h (Nat.not_lt_zero _), fun j h => absurd h (Nat.not_lt_zero _), fun j _ hj => (D j hj).over (st j hj) hs0 (S.zf j hj), hs0.1, fun c o c1 c2 c3 e => hs0.extBut _ _ c1 e⟩
/-- the first of them is at its end -/
theorem zipN_next_end {xs0 : List Value} {Q : PySem.Fin → Shared → Prop} (hm : 0 < m) (S : SepN m it fp z TI TO) (D : ∀ k, k < m → Draws prog w A (it k) (fp k) (n k) (Pv k) (St k))
    (hz : IsZ5 s.heap z TI TO x0 b0) (hfr : FreeT prog w A z s) (hTI : s.heap.get? TI = some (tupO (itRefs m it))) (hTO : s.heap.get? TO = some (tupO xs0)) (st : ∀ k, k < m → St k i s.heap) (hend : i = n 0)
    (hE : ∀ h' tk e, (∀ c o, c ≠ z → c ≠ TO → (∀ j, j < m → c ≠ it j) → s.heap.get? c = some o → h'.get? c = some o) → (∃ o, h'.get? e = some o ∧ o.cls = .type "StopIteration") → E (.ref e) { s with heap := h', toks := tk }) :
    wpAny (model prog w) A (Builtin.«zip.__next__» ⟨[.ref z], []⟩) Q E s := by
  obtain ⟨hp, g, d, tk0, os⟩ := s
  have ne : (itRefs m it).toArray.isEmpty = false := by
    simp [itRefs]
    omega
  show wpAny _ _ (field (.ref z) 2 >>= _) _ _ _
  refine wpAny_bind (wpAny_field hz rfl (x := .bool false) rfl ?_)
  show wpAny _ _ (field (.ref z) 3 >>= _) _ _ _
  refine wpAny_bind (wpAny_field hz rfl (x := .ref TI) rfl ?_)
  refine wpAny_bind (wpAny_seqItems hTI rfl ?_)
  simp only [ne, Bool.false_eq_true, if_false]
  refine wpAny_bind ?_
  refine hfr _ _ ?_
  simp only [if_true]
  refine wpAny_bind (wpAny_rule ?_)
  refine wpAny_bind (wpAny_field hz rfl (x := .ref TO) rfl ?_)
  refine wpAny_bind (wpAny_setField_rec hz (by simp) fun g0 hz0 hs0 => ?_)
  replace hz0 : IsZ5 g0 z TI TO .ellipsis b0 := hz0
  replace hs0 : Heap.SameBut z hp g0 := hs0
  refine wpAny_bind ?_
  rw [zipIdx_refs]
  have hd : (List.range m).map (fun k => (Value.ref (it k), k)) = (Value.ref (it 0), 0) :: ((List.range m).map fun k => (Value.ref (it k), k)).drop 1 := by
    have := List.drop_eq_getElem_cons (l := (List.range m).map fun k => (Value.ref (it k), k)) (i := 0) (by simp; exact hm)
    rw [List.drop_zero] at this
    rw [this]
    simp
  rw [hd, List.forIn_cons]
  refine wpAny_bind (wpAny_bind (wpAny_onRaise ?_))
  show wpAny _ _ (Builtin.SmallTypes.nextOf (.ref (it 0)) >>= _) _ _ ⟨g0, g, d, tk0, os⟩
  refine wpAny_bind ((D 0 hm).done ⟨g0, g, d, tk0, os⟩ _ _ (by rw [← hend]; exact (D 0 hm).over (st 0 hm) hs0 (S.zf 0 hm)) fun q e hq he => ?_)
  replace hq : Heap.ExtBut (it 0) g0 q := hq
  obtain ⟨oe, hoe, hce⟩ := he
  replace hoe : q.get? e = some oe := hoe
  have hzq : IsZ5 q z TI TO .ellipsis b0 := hq _ _ (S.zi hm) hz0
  have hez : e ≠ z := fun x => by
    subst x
    rw [hzq] at hoe
    cases hoe
    simp at hce
  refine wpAny_setField_rec (s := ⟨q, g, d, tk0, os⟩) hzq (by simp) fun q' _ hq' => ?_
  replace hq' : Heap.SameBut z q q' := hq'
  exact hE q' tk0 e (fun c o cz cT c1 x => hq'.extBut _ _ cz (hq _ _ (c1 0 hm) (hs0.extBut _ _ cz x))) ⟨oe, hq'.extBut _ _ hez hoe, hce⟩
theorem pyNext_zipN_item {xs0 : List Value} {Q : Option Value → Shared → Prop} (hm : 0 < m) (hm2 : m ≤ 1000) (S : SepN m it fp z TI TO) (D : ∀ k, k < m → Draws prog w A.in1 (it k) (fp k) (n k) (Pv k) (St k))
    (hz : IsZ5 s.heap z TI TO x0 b0) (hfr : FreeT prog w A.in1 z s) (hTI : s.heap.get? TI = some (tupO (itRefs m it))) (hTO : s.heap.get? TO = some (tupO xs0)) (hl : xs0.length = m) (st : ∀ k, k < m → St k i s.heap) (hlt : ∀ k, k < m → i < n k)
    (hQ : ∀ (xs : List Value) h' tk, xs.length = m → (∀ j v, xs[j]? = some v → Pv j i v) → IsZip h' z TI TO (rawInt s.heap.objs.size) → h'.get? TO = some (tupO xs) → (∀ k, k < m → St k (i + 1) h') → h'.get? s.heap.objs.size = some (tupO xs) → h'.objs.size = s.heap.objs.size + 1 →
      (∀ c o, c ≠ z → c ≠ TO → (∀ j, j < m → c ≠ it j) → s.heap.get? c = some o → h'.get? c = some o) → Q (some (.ref s.heap.objs.size)) { s with heap := h', toks := tk }) :
    wpAny (model prog w) A (pyNext (.ref z)) Q E s := by
  have hT : s.TypeIs (.ref z) "zip" := ⟨_, hz, rfl⟩
  unfold pyNext
  exact wpAny_bind (wpAny_attempt (wpAny_callSpecial?_slot (name := Str.ofString "__next__") hT PySem.F.slot_zip_next
    (wpAny_call_entry PySem.F.slot_zip_next hT PySem.F.entry_zip_next
      (zipN_next_item hm hm2 S D hz hfr hTI hTO hl st hlt fun xs h' tk y1 y2 b1 b2 d1 b5 b6 b7 => wpAny_pure (hQ xs h' tk y1 y2 b1 b2 d1 b5 b6 b7)) (PySem.F.args_zip_next_1 _))))
theorem pyNext_zipN_end {xs0 : List Value} {Q : Option Value → Shared → Prop} (hm : 0 < m) (S : SepN m it fp z TI TO) (D : ∀ k, k < m → Draws prog w A.in1 (it k) (fp k) (n k) (Pv k) (St k))
    (hz : IsZ5 s.heap z TI TO x0 b0) (hfr : FreeT prog w A.in1 z s) (hTI : s.heap.get? TI = some (tupO (itRefs m it))) (hTO : s.heap.get? TO = some (tupO xs0)) (st : ∀ k, k < m → St k i s.heap) (hend : i = n 0)
    (hQ : ∀ h' tk, (∀ c o, c ≠ z → c ≠ TO → (∀ j, j < m → c ≠ it j) → s.heap.get? c = some o → h'.get? c = some o) → Q none { s with heap := h', toks := tk }) : wpAny (model prog w) A (pyNext (.ref z)) Q E s := by
  have hT : s.TypeIs (.ref z) "zip" := ⟨_, hz, rfl⟩
  unfold pyNext
  refine wpAny_bind (wpAny_attempt (wpAny_callSpecial?_slot (name := Str.ofString "__next__") hT PySem.F.slot_zip_next
    (wpAny_call_entry PySem.F.slot_zip_next hT PySem.F.entry_zip_next (zipN_next_end hm S D hz hfr hTI hTO st hend fun h' tk e hk he => ?_) (PySem.F.args_zip_next_1 _))))
  obtain ⟨o, ho, hc⟩ := he
  refine wpAny_bind (wpAny_isInstance (T := "StopIteration") (b := true) ⟨o, ho, hc⟩ isSubtype_stop ?_)
  exact wpAny_pure (hQ _ _ hk)
end
end L2X
/-! zip of any number of things: it begins -/
namespace L2X
open PySem PySem.Spec PyProof.Rows L2
def pushAll (h : Heap) (os : List Obj) : Heap := os.foldl (fun h o => h.push o) h
theorem pushAll_size : ∀ (os : List Obj) (h : Heap), (pushAll h os).objs.size = h.objs.size + os.length
  | [], h => rfl
  | o :: os, h => by
    have e : pushAll h (o :: os) = pushAll (h.push o) os := rfl
    rw [e, pushAll_size os, Heap.size_push, List.length_cons]
    omega
theorem pushAll_snoc (h : Heap) (os : List Obj) (o : Obj) : pushAll h (os ++ [o]) = (pushAll h os).push o := by
  unfold pushAll
  rw [List.foldl_append]
  rfl
theorem pushAll_keep : ∀ (os : List Obj) {h : Heap} {b : Addr} {o : Obj}, h.get? b = some o → (pushAll h os).get? b = some o
  | [], _, _, _, e => e
  | _ :: os, _, _, _, e => pushAll_keep os (Heap.get?_push_of_some _ e)
theorem pushAll_get : ∀ (os : List Obj) (h : Heap) (k : Nat) (o : Obj), os[k]? = some o → o.isFreed = false → (pushAll h os).get? (h.objs.size + k) = some o
  | [], _, _, _, e, _ => nomatch e
  | p :: os, h, 0, o, e, f => by
    cases e
    exact pushAll_keep os (Heap.get?_push_size _ f)
  | p :: os, h, k + 1, o, e, f => by
    have q := pushAll_get os (h.push p) k o e f
    rw [Heap.size_push] at q
    have e2 : h.objs.size + (k + 1) = h.objs.size + 1 + k := by omega
    rw [e2]
    exact q
def newRefs (N k : Nat) : List Value := (List.range k).map fun j => Value.ref (N + j)
section
variable {prog : Program} {w : World} {A : Around} {E : Value → Shared → Prop} {s : Shared}
theorem iterAll_begins {l : List (Value × Obj)} (B : ∀ p ∈ l, Begins p.1 p.2 fun _ => True) {Q : List Value → Shared → Prop} (h : Q (newRefs s.heap.objs.size l.length) { s with heap := pushAll s.heap (l.map (·.2)) }) :
    wpAny (model prog w) A (Builtin.SmallTypes.iterAll (l.map (·.1))) Q E s := by
  unfold Builtin.SmallTypes.iterAll
  refine wpAny_bind (wpAny_forIn_list _ (fun rest (b : Array Value) s' => ∃ k, k ≤ l.length ∧ rest = (l.map (·.1)).drop k ∧ b = (newRefs s.heap.objs.size k).toArray ∧ s' = { s with heap := pushAll s.heap ((l.map (·.2)).take k) }) _ ?_ ?_ _ _ ⟨0, Nat.zero_le _, rfl, rfl, rfl⟩)
  · rintro x rest b s' ⟨k, hk, hr, rfl, rfl⟩
    have hkl : k < l.length := by
      rcases Nat.lt_or_ge k l.length with q | q
      · exact q
      · rw [List.drop_eq_nil_of_le (by simpa using q)] at hr
        cases hr
    have hd : (l.map (·.1)).drop k = l[k].1 :: (l.map (·.1)).drop (k + 1) := by
      rw [List.drop_eq_getElem_cons (by simpa using hkl)]
      simp
    rw [hd] at hr
    have e1 := (List.cons.inj hr).1
    have e2 := (List.cons.inj hr).2
    subst e1
    refine wpAny_bind (wpAny_holding ?_)
    refine (B l[k] (List.getElem_mem hkl)).iter _ _ _ _ _ _ trivial ?_
    refine wpAny_pure ⟨k + 1, hkl, e2, ?_, ?_⟩
    · show (newRefs s.heap.objs.size k).toArray.push (.ref (pushAll s.heap ((l.map (·.2)).take k)).objs.size) = _
      rw [pushAll_size, List.length_take, List.length_map, Nat.min_eq_left hk]
      unfold newRefs
      rw [List.range_succ, List.map_append]
      simp
    · have ek : (l.map (·.2))[k]? = some l[k].2 := by simp [hkl]
      have : (l.map (·.2)).take (k + 1) = (l.map (·.2)).take k ++ [l[k].2] := by
        rw [List.take_add_one, ek]
        rfl
      rw [this, pushAll_snoc]
  · rintro b s' ⟨k, hk, hr, rfl, rfl⟩
    have hkl : k = l.length := by
      rcases Nat.lt_or_ge k l.length with q | q
      · rw [List.drop_eq_getElem_cons (by simpa using q)] at hr
        cases hr
      · omega
    subst hkl
    refine wpAny_pure ?_
    have : (l.map (·.2)).take l.length = l.map (·.2) := List.take_of_length_le (by simp)
    rw [this]
    simpa using h
end
/-- where zip(v1, .., vm) begins -/
abbrev gzTN (h : Heap) (os : List Obj) : Heap := (pushAll h os).push (tupO (newRefs h.objs.size os.length))
abbrev gzON (h : Heap) (os : List Obj) : Heap := (gzTN h os).push (tupO (List.replicate os.length .none))
abbrev gzZN (h : Heap) (os : List Obj) : Heap := (gzON h os).push { cls := .type "zip", data := .fields #[.none, .bool false, .bool false, .ref (pushAll h os).objs.size, .ref (gzTN h os).objs.size] }
theorem meets_zip_newN {l : List (Value × Obj)} (hl : l.length ≤ 1000) (B : ∀ p ∈ l, Begins p.1 p.2 fun _ => True) :
    Meets (Builtin.«zip.__new__» ⟨.type "zip" :: l.map (·.1), []⟩) (fun _ R s =>
      R (.ok (.ret (.ref (gzON s.heap (l.map (·.2))).objs.size))) { s with heap := gzZN s.heap (l.map (·.2)) }) :=
  .of_wp fun prog w A R s h => by
    obtain ⟨hp, g, d, tk, os⟩ := s
    have hsub := sub_zip
    have q1 : ∀ {A' : Around} {E : Value → Shared → Prop} {Q : List Value → Shared → Prop}, Q (newRefs hp.objs.size l.length) ⟨pushAll hp (l.map (·.2)), g, d, tk, os⟩ → wpAny (model prog w) A' (Builtin.SmallTypes.iterAll (l.map (·.1))) Q E ⟨hp, g, d, tk, os⟩ :=
      fun q => iterAll_begins (s := ⟨hp, g, d, tk, os⟩) B q
    have len : (newRefs hp.objs.size l.length).length = l.length := by simp [newRefs]
    have z1 : (newRefs hp.objs.size l.length).length ≤ sizeLine := by
      rw [len]
      exact Nat.le_of_lt (small1000 hl)
    have q2 : ∀ {A' : Around} {E : Value → Shared → Prop} {Q : Value → Shared → Prop} {s : Shared}, Q (.ref s.heap.objs.size) { s with heap := s.heap.push (tupO (newRefs hp.objs.size l.length)) } → wpAny (model prog w) A' (newTuple (newRefs hp.objs.size l.length)) Q E s :=
      fun q => wpAny_newTuple q (by simpa using z1)
    have en : (newRefs hp.objs.size l.length).map (fun _ => Value.none) = List.replicate l.length .none := by
      rw [List.map_const', len]
    have q3 : ∀ {A' : Around} {E : Value → Shared → Prop} {Q : Value → Shared → Prop} {s : Shared}, Q (.ref s.heap.objs.size) { s with heap := s.heap.push (tupO (List.replicate l.length .none)) } → wpAny (model prog w) A' (newTuple ((newRefs hp.objs.size l.length).map (fun _ => Value.none))) Q E s :=
      fun q => by
        rw [en]
        exact wpAny_newTuple q (by simp; exact Nat.le_of_lt (small1000 hl))
    wp_walk using q1, q2, q3
    refine ⟨_, rfl, ?_⟩
    have e : (l.map (·.2)).length = l.length := List.length_map _
    unfold gzZN gzON gzTN at h
    rw [e] at h
    exact h
theorem zt1 (r : List Value) : checkTypeCall "zip" ⟨r, []⟩ = pure () := by kernel_rfl
theorem zt2 (a : Value) (r : List Value) : checkBuiltinCall "zip.__new__" ⟨.type "zip" :: a :: r, []⟩ = pure () := by kernel_rfl
theorem zt3 (obj : Value) (r : List Value) : argsOk "object.__init__" ⟨obj :: r, []⟩ := by
  unfold argsOk
  kernel_rfl
section
variable {prog : Program} {w : World} {A : Around} {E : Value → Shared → Prop} {s : Shared}
/-- zip of many: its new cells -/
theorem zip_beginsN {l : List (Value × Obj)} {Q : Value → Shared → Prop} (hl0 : 0 < l.length) (hl : l.length ≤ 1000) (B : ∀ p ∈ l, Begins p.1 p.2 fun _ => True)
    (h : ∀ h', IsZip h' (s.heap.objs.size + l.length + 2) (s.heap.objs.size + l.length) (s.heap.objs.size + l.length + 1) .none → h'.get? (s.heap.objs.size + l.length) = some (tupO (newRefs s.heap.objs.size l.length)) →
      h'.get? (s.heap.objs.size + l.length + 1) = some (tupO (List.replicate l.length .none)) → (∀ k p, l[k]? = some p → h'.get? (s.heap.objs.size + k) = some p.2) → h'.objs.size = s.heap.objs.size + l.length + 3 →
      (∀ c o, s.heap.get? c = some o → h'.get? c = some o) → Q (.ref (s.heap.objs.size + l.length + 2)) { s with heap := h' }) :
    wpAny (model prog w) A (call (.type "zip") (l.map (·.1))) Q E s := by
  have hn : checkBuiltinCall "zip.__new__" ⟨.type "zip" :: l.map (·.1), []⟩ = pure () := by
    cases l with
    | nil => exact absurd hl0 (Nat.lt_irrefl _)
    | cons p r => exact zt2 _ _
  refine callType_new PySem.F.called_zip (by decide) (zt1 _) hn (fun obj => zt3 obj _) PySem.F.entry_zip_new (meets_zip_newN hl B) ?_
  have e : (l.map (·.2)).length = l.length := List.length_map _
  have z0 : (pushAll s.heap (l.map (·.2))).objs.size = s.heap.objs.size + l.length := by rw [pushAll_size, e]
  have zT : (gzTN s.heap (l.map (·.2))).objs.size = s.heap.objs.size + l.length + 1 := by rw [Heap.size_push, z0]
  have zO : (gzON s.heap (l.map (·.2))).objs.size = s.heap.objs.size + l.length + 2 := by rw [Heap.size_push, zT]
  have zZ : (gzZN s.heap (l.map (·.2))).objs.size = s.heap.objs.size + l.length + 3 := by rw [Heap.size_push, zO]
  have gZ : (gzZN s.heap (l.map (·.2))).get? (gzON s.heap (l.map (·.2))).objs.size = some { cls := .type "zip", data := .fields #[.none, .bool false, .bool false, .ref (pushAll s.heap (l.map (·.2))).objs.size, .ref (gzTN s.heap (l.map (·.2))).objs.size] } := Heap.get?_push_size _ rfl
  have gO : (gzZN s.heap (l.map (·.2))).get? (gzTN s.heap (l.map (·.2))).objs.size = some (tupO (List.replicate (l.map (·.2)).length .none)) := Heap.get?_push_of_some _ (Heap.get?_push_size _ rfl)
  have gT : (gzZN s.heap (l.map (·.2))).get? (pushAll s.heap (l.map (·.2))).objs.size = some (tupO (newRefs s.heap.objs.size (l.map (·.2)).length)) := Heap.get?_push_of_some _ (Heap.get?_push_of_some _ (Heap.get?_push_size _ rfl))
  have gk : ∀ k p, l[k]? = some p → (gzZN s.heap (l.map (·.2))).get? (s.heap.objs.size + k) = some p.2 := fun k p hp =>
    Heap.get?_push_of_some _ (Heap.get?_push_of_some _ (Heap.get?_push_of_some _ (pushAll_get _ _ k p.2 (by rw [List.getElem?_map, hp]; rfl) (B p (List.mem_of_getElem? hp)).free)))
  rw [zO, zT, z0] at gZ
  rw [zT, e] at gO
  rw [z0, e] at gT
  show _ ∧ _
  rw [zO]
  exact ⟨⟨_, gZ, rfl⟩, h _ gZ gT gO gk zZ fun c o q => Heap.get?_push_of_some _ (Heap.get?_push_of_some _ (Heap.get?_push_of_some _ (pushAll_keep _ q)))⟩
end
end L2X
/-! zip over any number of iterators: a turn while the tuple given out before is held -/
namespace L2X
open PySem PySem.Spec PyProof.Rows L2
section
variable {prog : Program} {w : World} {A : Around} {E : Value → Shared → Prop} {s : Shared} {z TI TO T : Addr} {m i : Nat} {it : Nat → Addr} {fp : Nat → List Addr} {n : Nat → Nat} {Pv : Nat → Nat → Value → Prop} {St : Nat → Nat → Heap → Prop} {oT : Obj} {f : Bool}
structure Hst (m : Nat) (it : Nat → Addr) (Pv : Nat → Nat → Value → Prop) (St : Nat → Nat → Heap → Prop) (z TI TO T : Addr) (i k : Nat) (xs : List Value) (h0 h : Heap) : Prop where
  zz : IsZipHeld h z TI TO T true
  ln : xs.length = k
  lo : ∀ j v, xs[j]? = some v → Pv j i v
  s1 : ∀ j, j < k → j < m → St j (i + 1) h
  s2 : ∀ j, k ≤ j → j < m → St j i h
  sz : h.objs.size = h0.objs.size
  kp : ∀ c o, c ≠ z → (∀ j, j < m → c ≠ it j) → h0.get? c = some o → h.get? c = some o
theorem zipN_next_held {Q : Value → Shared → Prop} (hm : 0 < m) (hm2 : m ≤ 1000) (S : SepN m it fp z TI TO) (D : ∀ k, k < m → Draws prog w A (it k) (fp k) (n k) (Pv k) (St k))
    (hz : IsZipHeld s.heap z TI TO T f) (hT : s.heap.get? T = some oT) (hTI : s.heap.get? TI = some (tupO (itRefs m it))) (st : ∀ k, k < m → St k i s.heap) (hlt : ∀ k, k < m → i < n k)
    (hQ : ∀ (xs : List Value) h' tk, xs.length = m → (∀ j v, xs[j]? = some v → Pv j i v) → IsZipHeld h' z TI TO T true → (∀ k, k < m → St k (i + 1) h') → h'.get? s.heap.objs.size = some (tupO xs) → h'.objs.size = s.heap.objs.size + 1 →
      (∀ c o, c ≠ z → (∀ j, j < m → c ≠ it j) → s.heap.get? c = some o → h'.get? c = some o) → Q (.ref s.heap.objs.size) { s with heap := h', toks := tk }) :
    wpAny (model prog w) A (Builtin.«zip.__next__» ⟨[.ref z], []⟩) (fun fin s' => ∃ v, fin = .done (.ret v) ∧ Q v s') E s := by
  obtain ⟨hp, g, d, tk0, os⟩ := s
  have ne : (itRefs m it).toArray.isEmpty = false := by
    simp [itRefs]
    omega
  show wpAny _ _ (field (.ref z) 2 >>= _) _ _ _
  refine wpAny_bind (wpAny_field hz rfl (x := .bool false) rfl ?_)
  show wpAny _ _ (field (.ref z) 3 >>= _) _ _ _
  refine wpAny_bind (wpAny_field hz rfl (x := .ref TI) rfl ?_)
  refine wpAny_bind (wpAny_seqItems hTI rfl ?_)
  simp only [ne, Bool.false_eq_true, if_false]
  refine wpAny_bind (wpAny_tupleHeld_zip hz hT fun g0 hz0 hs0 => ?_)
  simp only [Bool.false_eq_true, if_false]
  refine wpAny_bind ?_
  rw [← Array.forIn_toList]
  refine wpAny_forIn_list _ (fun rest b s' => b.1 = none ∧ ∃ (k : Nat) (xs : List Value) (h' : Heap) (tk : Nat), s' = ⟨h', g, d, tk, os⟩ ∧ k ≤ m ∧ rest = (itRefs m it).drop k ∧ b.2 = xs.toArray ∧ Hst m it Pv St z TI TO T i k xs hp h') _ ?_ ?_ _ _ ⟨rfl, 0, [], g0, tk0, rfl, Nat.zero_le _, by simp, rfl, ?_⟩
  · rintro v rest ⟨b1, b2⟩ s' ⟨hb, k, xs, h', tk, rfl, hk, hr, hx2, Z⟩
    have hb' : b1 = none := hb
    have hx2' : b2 = xs.toArray := hx2
    subst hb'
    subst hx2'
    have hlen : (itRefs m it).length = m := by simp [itRefs]
    have hkm : k < m := by
      rcases Nat.lt_or_ge k m with q | q
      · exact q
      · rw [List.drop_eq_nil_of_le (by rw [hlen]; exact q)] at hr
        cases hr
    have hd : (itRefs m it).drop k = Value.ref (it k) :: (itRefs m it).drop (k + 1) := by
      rw [List.drop_eq_getElem_cons (by rw [hlen]; exact hkm)]
      simp [itRefs]
    rw [hd] at hr
    have e1 := (List.cons.inj hr).1
    have e2 := (List.cons.inj hr).2
    subst e1
    refine wpAny_bind (wpAny_holding ?_)
    show wpAny _ _ (Builtin.SmallTypes.nextOf (.ref (it k)) >>= _) _ _ ⟨h', g, d, tk, os⟩
    refine wpAny_bind ((D k hkm).item i _ _ _ (hlt k hkm) (Z.s2 k (Nat.le_refl _) hkm) fun x p tk' hx sn hp' => wpAny_pure ?_)
    replace hp' : Heap.SameBut (it k) h' p := hp'
    refine wpAny_pure ?_
    refine ⟨rfl, k + 1, xs ++ [x], p, tk', rfl, hkm, e2, by simp, ?_⟩
    refine ⟨hp'.extBut _ _ (S.zi hkm) Z.zz, by rw [List.length_append, Z.ln]; rfl, fun q v hv => ?_, fun q hq hqm => ?_, fun q hq hqm => ?_, by rw [hp'.1, Z.sz], fun c o c1 c3 e => hp'.extBut _ _ (c3 k hkm) (Z.kp c o c1 c3 e)⟩
    · by_cases hqk : q < xs.length
      · rw [List.getElem?_append_left hqk] at hv
        exact Z.lo q v hv
      · have hq2 : q = xs.length := by
          have := (List.getElem?_eq_some_iff.mp hv).1
          rw [List.length_append, List.length_singleton] at this
          omega
        subst hq2
        rw [List.getElem?_concat_length] at hv
        cases hv
        rw [Z.ln]
        exact hx
    · by_cases eq : q = k
      · subst eq
        exact sn
      · exact (D q hqm).frame _ _ _ (Z.s1 q (by omega) hqm) fun b hb o e => hp'.extBut _ _ (fun y => S.sep k q hkm hqm (fun r => eq r.symm) (y ▸ hb)) e
    · exact (D q hqm).frame _ _ _ (Z.s2 q (by omega) hqm) fun b hb o e => hp'.extBut _ _ (fun y => S.sep k q hkm hqm (by omega) (y ▸ hb)) e
  · rintro ⟨b1, b2⟩ s' ⟨hb, k, xs, h', tk, rfl, hk, hr, hx2, Z⟩
    have hb' : b1 = none := hb
    have hx2' : b2 = xs.toArray := hx2
    subst hb'
    subst hx2'
    have hlen : (itRefs m it).length = m := by simp [itRefs]
    have hkm : k = m := by
      rcases Nat.lt_or_ge k m with q | q
      · rw [List.drop_eq_getElem_cons (by rw [hlen]; exact q)] at hr
        cases hr
      · omega
    subst hkm
    have zl : xs.length ≤ sizeLine := by
      rw [Z.ln]
      exact Nat.le_of_lt (small1000 hm2)
    refine wpAny_bind (wpAny_newTuple ?_ (by simpa using zl))
    refine wpAny_pure ⟨_, rfl, ?_⟩
    show Q (.ref h'.objs.size) ⟨h'.push (tupO xs), g, d, tk, os⟩
    have hz4 : (h'.push (tupO xs)).objs.size = h'.objs.size + 1 := Heap.size_push ..
    have hp4 : (h'.push (tupO xs)).get? h'.objs.size = some (tupO xs) := Heap.get?_push_size _ rfl
    rw [Z.sz] at hz4 hp4 ⊢
    exact hQ xs _ tk Z.ln Z.lo (Heap.get?_push_of_some _ Z.zz) (fun q hq => (D q hq).frame _ _ _ (Z.s1 q hq hq) fun b hb o e => Heap.get?_push_of_some _ e) hp4 hz4 fun c o c1 c3 e => Heap.get?_push_of_some _ (Z.kp c o c1 c3 e)
  · exact ⟨hz0, rfl, (fun j v h => nomatch h), fun j h => absurd h (Nat.not_lt_zero _), fun j _ hj => (D j hj).over (st j hj) hs0 (S.zf j hj), hs0.1, fun c o c1 c3 e => hs0.extBut _ _ c1 e⟩
theorem zipN_end_held {Q : PySem.Fin → Shared → Prop} (hm : 0 < m) (S : SepN m it fp z TI TO) (D : ∀ k, k < m → Draws prog w A (it k) (fp k) (n k) (Pv k) (St k))
    (hz : IsZipHeld s.heap z TI TO T f) (hT : s.heap.get? T = some oT) (hTI : s.heap.get? TI = some (tupO (itRefs m it))) (st : ∀ k, k < m → St k i s.heap) (hend : i = n 0)
    (hE : ∀ h' tk e, (∀ c o, c ≠ z → c ≠ TO → (∀ j, j < m → c ≠ it j) → s.heap.get? c = some o → h'.get? c = some o) → (∃ o, h'.get? e = some o ∧ o.cls = .type "StopIteration") → E (.ref e) { s with heap := h', toks := tk }) :
    wpAny (model prog w) A (Builtin.«zip.__next__» ⟨[.ref z], []⟩) Q E s := by
  obtain ⟨hp, g, d, tk0, os⟩ := s
  have ne : (itRefs m it).toArray.isEmpty = false := by
    simp [itRefs]
    omega
  show wpAny _ _ (field (.ref z) 2 >>= _) _ _ _
  refine wpAny_bind (wpAny_field hz rfl (x := .bool false) rfl ?_)
  show wpAny _ _ (field (.ref z) 3 >>= _) _ _ _
  refine wpAny_bind (wpAny_field hz rfl (x := .ref TI) rfl ?_)
  refine wpAny_bind (wpAny_seqItems hTI rfl ?_)
  simp only [ne, Bool.false_eq_true, if_false]
  refine wpAny_bind (wpAny_tupleHeld_zip hz hT fun g0 hz0 hs0 => ?_)
  simp only [Bool.false_eq_true, if_false]
  refine wpAny_bind ?_
  rw [← Array.forIn_toList]
  replace hs0 : Heap.SameBut z hp g0 := hs0
  have hd : (itRefs m it).toArray.toList = Value.ref (it 0) :: (itRefs m it).drop 1 := by
    have hlen : (itRefs m it).length = m := by simp [itRefs]
    have := List.drop_eq_getElem_cons (l := itRefs m it) (i := 0) (by rw [hlen]; exact hm)
    rw [List.drop_zero] at this
    simp only
    rw [this]
    simp [itRefs]
  rw [hd, List.forIn_cons]
  refine wpAny_bind (wpAny_bind (wpAny_holding ?_))
  show wpAny _ _ (Builtin.SmallTypes.nextOf (.ref (it 0)) >>= _) _ _ ⟨g0, g, d, tk0, os⟩
  refine wpAny_bind ((D 0 hm).done ⟨g0, g, d, tk0, os⟩ _ _ (by rw [← hend]; exact (D 0 hm).over (st 0 hm) hs0 (S.zf 0 hm)) fun q e hq he => ?_)
  replace hq : Heap.ExtBut (it 0) g0 q := hq
  exact hE q tk0 e (fun c o cz cT c1 x => hq _ _ (c1 0 hm) (hs0.extBut _ _ cz x)) he
theorem pyNext_zipN_item_held {Q : Option Value → Shared → Prop} (hm : 0 < m) (hm2 : m ≤ 1000) (S : SepN m it fp z TI TO) (D : ∀ k, k < m → Draws prog w A.in1 (it k) (fp k) (n k) (Pv k) (St k))
    (hz : IsZipHeld s.heap z TI TO T f) (hT : s.heap.get? T = some oT) (hTI : s.heap.get? TI = some (tupO (itRefs m it))) (st : ∀ k, k < m → St k i s.heap) (hlt : ∀ k, k < m → i < n k)
    (hQ : ∀ (xs : List Value) h' tk, xs.length = m → (∀ j v, xs[j]? = some v → Pv j i v) → IsZipHeld h' z TI TO T true → (∀ k, k < m → St k (i + 1) h') → h'.get? s.heap.objs.size = some (tupO xs) → h'.objs.size = s.heap.objs.size + 1 →
      (∀ c o, c ≠ z → (∀ j, j < m → c ≠ it j) → s.heap.get? c = some o → h'.get? c = some o) → Q (some (.ref s.heap.objs.size)) { s with heap := h', toks := tk }) :
    wpAny (model prog w) A (pyNext (.ref z)) Q E s := by
  have hTy : s.TypeIs (.ref z) "zip" := ⟨_, hz, rfl⟩
  unfold pyNext
  exact wpAny_bind (wpAny_attempt (wpAny_callSpecial?_slot (name := Str.ofString "__next__") hTy PySem.F.slot_zip_next
    (wpAny_call_entry PySem.F.slot_zip_next hTy PySem.F.entry_zip_next
      (zipN_next_held hm hm2 S D hz hT hTI st hlt fun xs h' tk y1 y2 b1 b2 b5 b6 b7 => wpAny_pure (hQ xs h' tk y1 y2 b1 b2 b5 b6 b7)) (PySem.F.args_zip_next_1 _))))
theorem pyNext_zipN_end_held {Q : Option Value → Shared → Prop} (hm : 0 < m) (S : SepN m it fp z TI TO) (D : ∀ k, k < m → Draws prog w A.in1 (it k) (fp k) (n k) (Pv k) (St k))
    (hz : IsZipHeld s.heap z TI TO T f) (hT : s.heap.get? T = some oT) (hTI : s.heap.get? TI = some (tupO (itRefs m it))) (st : ∀ k, k < m → St k i s.heap) (hend : i = n 0)
    (hQ : ∀ h' tk, (∀ c o, c ≠ z → c ≠ TO → (∀ j, j < m → c ≠ it j) → s.heap.get? c = some o → h'.get? c = some o) → Q none { s with heap := h', toks := tk }) : wpAny (model prog w) A (pyNext (.ref z)) Q E s := by
  have hTy : s.TypeIs (.ref z) "zip" := ⟨_, hz, rfl⟩
  unfold pyNext
  refine wpAny_bind (wpAny_attempt (wpAny_callSpecial?_slot (name := Str.ofString "__next__") hTy PySem.F.slot_zip_next
    (wpAny_call_entry PySem.F.slot_zip_next hTy PySem.F.entry_zip_next (zipN_end_held hm S D hz hT hTI st hend fun h' tk e hk he => ?_) (PySem.F.args_zip_next_1 _))))
  obtain ⟨o, ho, hc⟩ := he
  refine wpAny_bind (wpAny_isInstance (T := "StopIteration") (b := true) ⟨o, ho, hc⟩ isSubtype_stop ?_)
  exact wpAny_pure (hQ _ _ hk)
end
end L2X
/-! zip(*texts) -/
namespace L2X
open PySem PySem.Spec PyProof.Rows L2
def sgn (z : Str) (i : Nat) : V := .str ⟨#[(z.cps[i]?).getD 0]⟩
/-- what zip(*zs) tells, at each turn a new tuple -/
def ItzN (zs : List Str) : It :=
  ⟨fun i H => ∀ z ∈ zs, i < z.cps.size, fun i H v H' => ∃ T, v = .ref T ∧ H T = none ∧ H' = upd H T (.tup (zs.map fun z => sgn z i)), fun i H => ∃ z r, zs = z :: r ∧ z.cps.size = i⟩
theorem vals_at : ∀ {l : List V} {us : List Value}, l.length = us.length → (∀ (j : Nat) (x : V) (u : Value), l[j]? = some x → us[j]? = some u → RelV x u) → Vals l us
  | [], [], _, _ => .nil
  | [], _ :: _, h, _ => by cases h
  | _ :: _, [], h, _ => by cases h
  | x :: l, u :: us, h, g => .cons (g 0 x u rfl rfl) (vals_at (Nat.succ.inj h) fun j y v a b => g (j + 1) y v a b)
def fpN (z TI TO : Addr) (m N : Nat) : List Addr := z :: TI :: TO :: (List.range m).map fun k => N + k
theorem fpN_mem {z TI TO c : Addr} {m N : Nat} : c ∈ fpN z TI TO m N ↔ c = z ∨ c = TI ∨ c = TO ∨ ∃ k, k < m ∧ c = N + k := by
  unfold fpN
  rw [List.mem_cons, List.mem_cons, List.mem_cons, List.mem_map]
  constructor
  · rintro (h | h | h | ⟨k, hk, h⟩)
    · exact .inl h
    · exact .inr (.inl h)
    · exact .inr (.inr (.inl h))
    · exact .inr (.inr (.inr ⟨k, List.mem_range.mp hk, h.symm⟩))
  · rintro (h | h | h | ⟨k, hk, h⟩)
    · exact .inl h
    · exact .inr (.inl h)
    · exact .inr (.inr (.inl h))
    · exact .inr (.inr (.inr ⟨k, List.mem_range.mpr hk, h.symm⟩))
def tnN (zs : List Str) (z TI TO N : Addr) : Nat → Heap → Prop := fun i h => (IsZ5 h z TI TO .none (.bool false) ∨ ∃ T f, IsZipHeld h z TI TO T f) ∧ h.get? TI = some (tupO (itRefs zs.length fun k => N + k)) ∧ (∃ xs0 : List Value, xs0.length = zs.length ∧ h.get? TO = some (tupO xs0)) ∧
  ∀ k, k < zs.length → ∃ t, h.IsStrIter (N + k) (strIterType (zs.getD k "")) (zs.getD k "") t i
theorem strIter_at {h h' : Heap} {it : Addr} {T : String} {z : Str} {t : Tok} {i : Nat} (e : h.IsStrIter it T z t i) (k : ∀ o, h.get? it = some o → h'.get? it = some o) : h'.IsStrIter it T z t i := by
  obtain ⟨o, e1, e2, d⟩ := e
  exact ⟨o, k _ e1, e2, d⟩
theorem sepN_new {m N : Nat} : SepN m (fun k => (N + k : Nat)) (fun k => [(N + k : Nat)]) (N + m + 2 : Nat) (N + m : Nat) (N + m + 1 : Nat) where
  TIz := (show ¬ ((N + m : Nat) = N + m + 2) by omega)
  TOz := (show ¬ ((N + m + 1 : Nat) = N + m + 2) by omega)
  TITO := (show ¬ ((N + m : Nat) = N + m + 1) by omega)
  TIi := fun k hk => (show ¬ ((N + m : Nat) = N + k) by omega)
  mem := fun k hk => List.mem_singleton.mpr rfl
  zf := fun k hk h => (show ¬ ((N + m + 2 : Nat) = N + k) by omega) (List.mem_singleton.mp h)
  Tf := fun k hk h => (show ¬ ((N + m + 1 : Nat) = N + k) by omega) (List.mem_singleton.mp h)
  sep := fun j k hj hk hne h => (show ¬ ((N + j : Nat) = N + k) by omega) (List.mem_singleton.mp h)
theorem turn_zipN {P : Program} {w : World} {K : PySem.W.Frag} {nm : Str} {npos : Pos} {zs : List Str} {N z TI TO : Addr} (h0 : 0 < zs.length) (h1 : zs.length ≤ 1000) (S : SepN zs.length (fun k => N + k) (fun k => [N + k]) z TI TO) :
    Turn P w K (.Name nm npos) (ItzN zs) (fpN z TI TO zs.length N) z (tnN zs z TI TO N) where
  mem := by simp [fpN]
  obj := fun i h st c hc => by
    obtain ⟨hz, hTI, ⟨xs0, _, hTO⟩, hk⟩ := st
    rcases fpN_mem.mp hc with q | q | q | ⟨k, hkm, q⟩
    · rcases hz with hz | ⟨T, f, hz⟩
      · rw [q]; exact ⟨_, hz, fun v q => nomatch q⟩
      · rw [q]; exact ⟨_, hz, fun v q => nomatch q⟩
    · rw [q]; exact ⟨_, hTI, fun v q => nomatch q⟩
    · rw [q]; exact ⟨_, hTO, fun v q => nomatch q⟩
    · obtain ⟨t, o, e1, _, d⟩ := hk k hkm
      rw [q]
      exact ⟨o, e1, fun v q => by rw [d] at q; cases q⟩
  keep := fun i h h' st kp => by
    obtain ⟨hz, hTI, ⟨xs0, hl, hTO⟩, hk⟩ := st
    have kz := kp z (fpN_mem.mpr (.inl rfl))
    refine ⟨?_, kp TI (fpN_mem.mpr (.inr (.inl rfl))) _ hTI, ⟨xs0, hl, kp TO (fpN_mem.mpr (.inr (.inr (.inl rfl)))) _ hTO⟩, fun k hkm => ?_⟩
    · rcases hz with hz | ⟨T, f, hz⟩
      · exact .inl (kz _ hz)
      · exact .inr ⟨T, f, kz _ hz⟩
    · obtain ⟨t, e⟩ := hk k hkm
      exact ⟨t, strIter_at e fun o q => kp _ (fpN_mem.mpr (.inr (.inr (.inr ⟨k, hkm, rfl⟩)))) o q⟩
  item := by
    intro X hP hw hK hc i pins s σ H E I hf st hg
    subst hP hw hK
    obtain ⟨hz, hTI, ⟨xs0, hl, hTO⟩, hk⟩ := st
    obtain ⟨tf, htf⟩ : ∃ tf : Nat → Tok, ∀ k, k < zs.length → s.heap.IsStrIter (N + k) (strIterType (zs.getD k "")) (zs.getD k "") (tf k) i := by
      refine ⟨fun k => if h : k < zs.length then (hk k h).choose else 0, fun k hkm => ?_⟩
      simp only [hkm, dif_pos]
      exact (hk k hkm).choose_spec
    have hh := I.ok.hd hc
    have D : ∀ k, k < zs.length → Draws X.prog X.w X.A.in1 (N + k) [N + k] (zs.getD k "").cps.size (fun i v => SignAt (zs.getD k "") i v) (fun i h => h.IsStrIter (N + k) (strIterType (zs.getD k "")) (zs.getD k "") (tf k) i) := fun k _ => Draws.text (A := X.A.in1) hh (N + k) (zs.getD k "") (tf k)
    have hlt : ∀ k, k < zs.length → i < (zs.getD k "").cps.size := fun k hkm => by
      rw [List.getD_eq_getElem?_getD, List.getElem?_eq_getElem hkm]
      exact hg _ (List.getElem_mem hkm)
    have hzl : z < s.heap.objs.size := by
      rcases hz with hz | ⟨T, f, hz⟩
      · exact Heap.lt_size hz
      · exact Heap.lt_size hz
    have fin : ∀ (xs : List Value) h' tk, xs.length = zs.length → (∀ j v, xs[j]? = some v → SignAt (zs.getD j "") i v) → (∃ T f, IsZipHeld h' z TI TO T f) → (∃ xs1 : List Value, xs1.length = zs.length ∧ h'.get? TO = some (tupO xs1)) →
        (∀ k, k < zs.length → h'.IsStrIter (N + k) (strIterType (zs.getD k "")) (zs.getD k "") (tf k) (i + 1)) → h'.get? s.heap.objs.size = some (tupO xs) → h'.objs.size = s.heap.objs.size + 1 →
        (∀ c o, c ≠ z → c ≠ TO → (∀ j, j < zs.length → c ≠ N + j) → s.heap.get? c = some o → h'.get? c = some o) →
        ∃ u, (some (Value.ref s.heap.objs.size)) = some u ∧ wpAny (model X.prog X.w) X.A (letOwnedTupleGo (.Name nm npos) (.ref z) u) (fun _ s2 => ∃ x H', Inv X pins σ H' s2 ∧ RelV x u ∧ (ItzN zs).yld i H x H' ∧ tnN zs z TI TO N (i + 1) s2.heap ∧ ∀ b ∈ fpN z TI TO zs.length N, H' b = none) E { s with heap := h', toks := tk } := by
      intro xs h' tk q1 q2 q3 q4 q5 q6 q7 q8
      refine ⟨_, rfl, ?_⟩
      show wpAny _ _ (pure ()) _ _ _
      refine wpAny_pure ?_
      have rvs : Vals (zs.map fun z => sgn z i) xs := vals_at (by rw [List.length_map, q1]) fun j x u hx hu => by
        rw [List.getElem?_map] at hx
        obtain ⟨zj, hzj, rfl⟩ : ∃ zj, zs[j]? = some zj ∧ x = sgn zj i := by
          cases e : zs[j]? with
          | none =>
            rw [e] at hx
            cases hx
          | some y =>
            rw [e] at hx
            exact ⟨y, rfl, (Option.some.inj hx).symm⟩
        obtain ⟨c, u', e1, e2⟩ := q2 j u hu
        rw [List.getD_eq_getElem?_getD, hzj] at e1
        have e1' : zj.cps[i]? = some c := e1
        refine ⟨u', ?_⟩
        rw [e2, e1']
        rfl
      have new : ObjOk X.prog X.w (upd H s.heap.objs.size (.tup (zs.map fun z => sgn z i))) h' s.heap.objs.size (.tup (zs.map fun z => sgn z i)) :=
        ⟨by rw [List.length_map]; exact Nat.le_of_lt (small1000 h1), xs, rvs, ⟨_, q6, rfl, _, rfl⟩⟩
      have I1 : Inv X pins σ (upd H s.heap.objs.size (.tup (zs.map fun z => sgn z i))) { s with heap := h', toks := tk } :=
        I.turnedNew (t' := tk) (ch := fpN z TI TO zs.length N) (fun c o hb q => q8 c o (fun e => hb (fpN_mem.mpr (.inl e))) (fun e => hb (fpN_mem.mpr (.inr (.inr (.inl e))))) (fun j hj e => hb (fpN_mem.mpr (.inr (.inr (.inr ⟨j, hj, e⟩))))) q) hf (Nat.le_refl _) new
      refine ⟨.ref s.heap.objs.size, _, I1, rfl, ⟨_, rfl, I.hok.fresh (Nat.le_refl _), rfl⟩, ⟨.inr q3, q8 _ _ S.TIz S.TITO (fun j hj => S.TIi j hj) hTI, q4, fun k hkm => ⟨tf k, q5 k hkm⟩⟩, fun c hcm => ?_⟩
      have hlt : c < s.heap.objs.size := by
        rcases fpN_mem.mp hcm with q | q | q | ⟨k, hkm, q⟩
        · rw [q]; exact hzl
        · rw [q]; exact Heap.lt_size hTI
        · rw [q]; exact Heap.lt_size hTO
        · obtain ⟨_, e1, _⟩ := htf k hkm
          rw [q]
          exact Heap.lt_size e1
      rw [upd_ne (Nat.ne_of_lt hlt)]
      exact (hf c hcm).1
    rcases hz with hz | ⟨T, f, hz⟩
    · exact pyNext_zipN_item (n := fun k => (zs.getD k "").cps.size) h0 h1 S D hz (free_none hz) hTI hTO hl htf hlt fun xs h' tk y1 y2 b1 b2 d1 b5 b6 b7 => fin xs h' tk y1 y2 ⟨_, _, b1⟩ ⟨xs, y1, b2⟩ d1 b5 b6 b7
    · cases hT : s.heap.get? T with
      | none => exact pyNext_zipN_item (n := fun k => (zs.getD k "").cps.size) h0 h1 S D hz (free_gone hz hT) hTI hTO hl htf hlt fun xs h' tk y1 y2 b1 b2 d1 b5 b6 b7 => fin xs h' tk y1 y2 ⟨_, _, b1⟩ ⟨xs, y1, b2⟩ d1 b5 b6 b7
      | some oT => exact pyNext_zipN_item_held (n := fun k => (zs.getD k "").cps.size) h0 h1 S D hz hT hTI htf hlt fun xs h' tk y1 y2 b1 d1 b5 b6 b7 => fin xs h' tk y1 y2 ⟨_, _, b1⟩ ⟨xs0, hl, b7 _ _ S.TOz (fun j hj => S.Ti hj) hTO⟩ d1 b5 b6 fun c o c1 _ c3 e => b7 c o c1 c3 e
  done := by
    intro X hP hw hK hc i pins s σ H E I hf st hg
    subst hP hw hK
    obtain ⟨hz, hTI, ⟨xs0, hl, hTO⟩, hk⟩ := st
    obtain ⟨tf, htf⟩ : ∃ tf : Nat → Tok, ∀ k, k < zs.length → s.heap.IsStrIter (N + k) (strIterType (zs.getD k "")) (zs.getD k "") (tf k) i := by
      refine ⟨fun k => if h : k < zs.length then (hk k h).choose else 0, fun k hkm => ?_⟩
      simp only [hkm, dif_pos]
      exact (hk k hkm).choose_spec
    have hh := I.ok.hd hc
    have D : ∀ k, k < zs.length → Draws X.prog X.w X.A.in1 (N + k) [N + k] (zs.getD k "").cps.size (fun i v => SignAt (zs.getD k "") i v) (fun i h => h.IsStrIter (N + k) (strIterType (zs.getD k "")) (zs.getD k "") (tf k) i) := fun k _ => Draws.text (A := X.A.in1) hh (N + k) (zs.getD k "") (tf k)
    have hend : i = (zs.getD 0 "").cps.size := by
      obtain ⟨y, r, e, ez⟩ := hg
      rw [e]
      exact ez.symm
    have fin : ∀ (h' : Heap) (tk : Nat), (∀ c o, c ≠ z → c ≠ TO → (∀ j, j < zs.length → c ≠ N + j) → s.heap.get? c = some o → h'.get? c = some o) → (none : Option Value) = none ∧ Inv X pins σ H { s with heap := h', toks := tk } := fun h' tk hk' =>
      ⟨rfl, I.turnedL (t' := tk) (ch := fpN z TI TO zs.length N) (fun c o hb q => hk' c o (fun e => hb (fpN_mem.mpr (.inl e))) (fun e => hb (fpN_mem.mpr (.inr (.inr (.inl e))))) (fun j hj e => hb (fpN_mem.mpr (.inr (.inr (.inr ⟨j, hj, e⟩))))) q) hf⟩
    rcases hz with hz | ⟨T, f, hz⟩
    · exact pyNext_zipN_end (n := fun k => (zs.getD k "").cps.size) h0 S D hz (free_none hz) hTI hTO htf hend fin
    · cases hT : s.heap.get? T with
      | none => exact pyNext_zipN_end (n := fun k => (zs.getD k "").cps.size) h0 S D hz (free_gone hz hT) hTI hTO htf hend fin
      | some oT => exact pyNext_zipN_end_held (n := fun k => (zs.getD k "").cps.size) h0 S D hz hT hTI htf hend fin
  self := fun A i s Q E st h => by
    rcases st.1 with hz | ⟨T, f, hz⟩
    · exact wpAny_pyIter_zip hz h
    · have hTy : s.TypeIs (.ref z) "zip" := ⟨_, hz, rfl⟩
      refine wpAny_pyIter_slot hTy PySem.F.slot_zip_iter (wpAny_call_entry PySem.F.slot_zip_iter hTy PySem.F.entry_zip_iter ?_ (PySem.F.args_zip_iter_1 _))
      show wpAny _ _ (ret (.ref z)) _ _ s
      exact wpAny_pure ⟨_, rfl, "zip", _, hTy, PySem.F.slot_zip_next.lookup, h⟩
/-- zip(*e), e a tuple or a list of texts -/
def iZipS (K : PySem.W.Frag) (te : TE) : TI := fun σ H R => te σ H fun y H1 => ∃ a zs, y = V.ref a ∧ (SqT K H1 a (zs.map V.str) ∨ SqL K H1 a (zs.map V.str)) ∧ 0 < zs.length ∧ zs.length ≤ 1000 ∧ R (ItzN zs) H1
theorem begin_all : ∀ {zs : List Str} {us : List Value}, Vals (zs.map V.str) us → ∃ l : List (Value × Obj), l.map (·.1) = us ∧ l.length = zs.length ∧ (∀ p ∈ l, Begins p.1 p.2 fun _ => True) ∧
    ∀ (k : Nat) (z : Str), zs[k]? = some z → ∃ p : Value × Obj, l[k]? = some p ∧ ∀ (h' : Heap) (it : Addr), h'.get? it = some p.2 → ∃ t, h'.IsStrIter it (strIterType z) z t 0
  | [], [], _ => ⟨[], rfl, rfl, (fun _ h => nomatch h), fun k z h => nomatch h⟩
  | [], _ :: _, h => nomatch h.length
  | _ :: _, [], h => nomatch h.length
  | z :: zs, u :: us, rv => by
    obtain ⟨r, rr⟩ : RelV (.str z) u ∧ Vals (zs.map V.str) us := by cases rv with | cons r rr => exact ⟨r, rr⟩
    obtain ⟨l, e1, e2, e3, e4⟩ := begin_all rr
    obtain ⟨t, rfl⟩ := r
    obtain ⟨o, B, hit⟩ : ∃ o, Begins (Value.str z t) o (fun _ => True) ∧ ∀ (h' : Heap) (it : Addr), h'.get? it = some o → ∃ t', h'.IsStrIter it (strIterType z) z t' 0 := ⟨_, begins_text z t, fun h' it e => ⟨t, _, e, rfl, rfl⟩⟩
    refine ⟨(Value.str z t, o) :: l, by rw [List.map_cons, e1], by rw [List.length_cons, e2]; rfl, fun p hp => ?_, fun k y hy => ?_⟩
    · rcases List.mem_cons.mp hp with q | q
      · rw [q]
        exact B
      · exact e3 p q
    · cases k with
      | zero =>
        cases hy
        exact ⟨_, rfl, hit⟩
      | succ k => exact e4 k y hy
theorem callWith_typeS {M : Model} {A : Around} {E : Value → Shared → Prop} {s : Shared} {env : Env} {pos p : Pos} {T : String} {e : Expr} {Q : Value → Shared → Prop}
    (h : wpAny M A (eval e env) (fun v s₁ => PySem.W.StarOf M A E v (fun vs s₂ => wpAny M A (call (.type T) vs) Q E s₂) s₁) E s) (he : starEach [.Starred e p] env = [(true, eval e env)]) :
    wpAny M A (callWith pos (.type T) [] (backTo pos (starEach [.Starred e p] env)) []) Q E s := by
  rw [he]
  have h2 := PySem.W.ks_lone (f := .type T) (pos := pos) (Q := fun a s₁ => wpAny M A (call (.type T) ([] ++ a.pos) a.kw) Q E s₁) h
  unfold callWith
  refine wpAny_bind (wpAny_holding (wpAny_mono h2 (fun a s₁ h₁ => wpAny_bind (wpAny_standAt ?_)) fun _ _ x => x))
  refine wpAny_bind (wpAny_pure ?_)
  exact wpAny_bind (wpAny_mono (wpAny_operating h₁) (fun r s₂ hr => wpAny_bind (wpAny_holding (wpAny_point (wpAny_pure hr)))) fun _ _ x => x)
theorem pi_zipS {X : Cx} {e : Expr} {te : TE} {p sp pos npos : Pos} {nm : Str} (hg : Gl X "zip") (hm : X.mg "zip" = none) (he : PE X e te) (hst : starEach [.Starred e sp] X.env = [(true, eval e X.env)] := by rfl) :
    PI X (.Name nm npos) (.Call (.Name "zip" p) [.Starred e sp] [] pos) (iZipS X.K te) := by
  refine ⟨fun pins s σ H R I h => ?_⟩
  refine Call_ (ld_blt I hg hm PyProof.Rows.boot_zip (callWith_typeS (thn (he.run pins s σ H _ I h) fun v s1 ⟨y, H1, I1, ry, a, zs, ey, hx, z0, z1, q⟩ => ?_) hst))
  subst ey
  obtain rfl : v = Value.ref a := ry
  refine StX.star_any I1 hx fun us s2 I2 rv => ?_
  obtain ⟨l, e1, e2, e3, e4⟩ := begin_all rv
  rw [← e1]
  refine zip_beginsN (by omega) (by omega) e3 fun h' hz hTI hTO hk hsz kp => wpAny_pyIter_zip hz ?_
  have I3 : Inv X pins σ H1 { s2 with heap := h' } := I2.kept (t' := s2.toks) kp
  rw [e2] at hz hTI hTO
  refine ⟨_, fpN (s2.heap.objs.size + zs.length + 2) (s2.heap.objs.size + zs.length) (s2.heap.objs.size + zs.length + 1) zs.length s2.heap.objs.size, tnN zs (s2.heap.objs.size + zs.length + 2) (s2.heap.objs.size + zs.length) (s2.heap.objs.size + zs.length + 1) s2.heap.objs.size, _, H1, by rw [e2], I3, turn_zipN z0 z1 sepN_new, ⟨.inl hz, hTI, ⟨_, by rw [List.length_replicate], hTO⟩, fun k hkm => ?_⟩, fun c hcm => ?_, q⟩
  · obtain ⟨p, hp, hit⟩ := e4 k zs[k] (List.getElem?_eq_getElem hkm)
    have z := hit h' _ (hk k p hp)
    rw [List.getD_eq_getElem?_getD, List.getElem?_eq_getElem hkm]
    exact z
  · have hle : s2.heap.objs.size ≤ c := by
      have h3 : ∀ a : Nat, @Eq Nat c (s2.heap.objs.size + a) → s2.heap.objs.size ≤ c := fun a e => by
        have e' : (c : Nat) = s2.heap.objs.size + a := e
        exact e' ▸ Nat.le_add_right _ _
      rcases fpN_mem.mp hcm with z | z | z | ⟨k, _, z⟩
      · exact h3 (zs.length + 2) z
      · exact h3 zs.length z
      · exact h3 (zs.length + 1) z
      · exact h3 k z
    exact I2.fpOk hle (I2.hok.fresh hle)
/-- a comprehension over it -/
theorem lc_zipN {zs : List Str} {n : Nat} {g : TG} {tt : TT} {te : TE} {vs : List Nat} {σ : L2.St} {H1 : Hp} {D : Addr} {Qd : Hp → Prop} (h0 : 0 < zs.length) (hn : ∀ z ∈ zs, z.cps.size = n) (Pv : Nat → Hp → Prop) (hP : Pv 0 (upd H1 D (.lst [])))
    (hs : ∀ i H T, i < n → Pv i H → H T = none → g (.ref T) (wipe σ vs) (upd H T (.tup (zs.map fun z => sgn z i))) fun σ2 H2 => wipe σ2 vs = wipe σ vs ∧ tt σ2 H2 fun b H3 =>
      if b = true then te σ2 H3 fun z H4 => ∃ acc, H4 D = some (.lst acc) ∧ acc.length < sizeLine ∧ Pv (i + 1) (upd H4 D (.lst (acc ++ [z]))) else Pv (i + 1) H3) (hd : ∀ H, Pv n H → Qd H) :
    ∃ W : Nat → Nat → Hp → Prop, (∃ m, W 0 m (upd H1 D (.lst []))) ∧ ∀ i m H, W i m H →
      ((ItzN zs).stop i H ∧ Qd H) ∨ ((ItzN zs).go i H ∧ ∃ Nx : Hp → Prop, (∀ H', Nx H' → ∃ m', m' < m ∧ W (i + 1) m' H') ∧ ∀ x H', (ItzN zs).yld i H x H' → g x (wipe σ vs) H' fun σ2 H2 => wipe σ2 vs = wipe σ vs ∧ tt σ2 H2 fun b H3 =>
        if b = true then te σ2 H3 fun y H4 => ∃ acc, H4 D = some (.lst acc) ∧ acc.length < sizeLine ∧ Nx (upd H4 D (.lst (acc ++ [y]))) else Nx H3) := by
  refine ⟨fun i m H => m = n - i ∧ i ≤ n ∧ Pv i H, ⟨n, by simp, Nat.zero_le _, hP⟩, ?_⟩
  rintro i m H ⟨rfl, hi, p⟩
  by_cases hlt : i < n
  · refine .inr ⟨fun z hz => by rw [hn z hz]; exact hlt, Pv (i + 1), fun H' p' => ⟨n - (i + 1), by omega, rfl, hlt, p'⟩, fun x H' y => ?_⟩
    obtain ⟨T, rfl, nT, rfl⟩ := y
    exact hs i H T hlt p nT
  · have e : i = n := by omega
    subst e
    refine .inl ⟨?_, hd H p⟩
    cases zs with
    | nil => exact absurd h0 (Nat.lt_irrefl _)
    | cons z r => exact ⟨z, r, rfl, hn z List.mem_cons_self⟩
end L2X
namespace Dt
open PySem PySem.Spec PyProof.Rows L2 L2X
open SX (S)
/-! ### the law's own columns -/
def colR (ss : List Sh) (high : Nat) (ws : List (Nat × Nat)) (c : Nat) : List Nat := (List.range high).map fun r => pix ss ws r c
def colsR (ss : List Sh) (high wide : Nat) (ws : List (Nat × Nat)) : List (List Nat) := (List.range wide).map (colR ss high ws)
def newC (ss : List Sh) (high : Nat) (p : Nat × Nat) (c : Nat) : List Nat := (List.range high).map fun r => (rowAt ss p.2 r).getD (c - p.1) 0
def midC (ss : List Sh) (high wide : Nat) (ws : List (Nat × Nat)) (p : Nat × Nat) (k : Nat) : List (List Nat) := (List.range wide).map fun c => if p.1 ≤ c ∧ c < p.1 + k then newC ss high p c else colR ss high ws c
theorem mid_0 {ss : List Sh} {high wide : Nat} {ws : List (Nat × Nat)} {p : Nat × Nat} : midC ss high wide ws p 0 = colsR ss high wide ws := by
  unfold midC colsR
  refine List.map_congr_left fun c _ => ?_
  rw [if_neg (by omega)]
theorem mid_w {ss : List Sh} {high wide : Nat} {ws : List (Nat × Nat)} {p : Nat × Nat} : midC ss high wide ws p (wdt ss p.2) = colsR ss high wide (ws ++ [p]) := by
  unfold midC colsR
  refine List.map_congr_left fun c _ => ?_
  unfold colR newC
  split
  · rename_i h
    refine List.map_congr_left fun r _ => ?_
    rw [pix_snoc]
    unfold pixS
    rw [if_pos h]
  · rename_i h
    refine List.map_congr_left fun r _ => ?_
    rw [pix_snoc]
    unfold pixS
    rw [if_neg h]
theorem set_range {α : Type} {f : Nat → α} {n j : Nat} {v : α} : ((List.range n).map f).set j v = (List.range n).map fun c => if c = j then v else f c := by
  apply List.ext_getElem?
  intro c
  rw [List.getElem?_set, List.getElem?_map, List.getElem?_map]
  by_cases e : j = c
  · subst e
    rw [if_pos rfl]
    by_cases h : j < n
    · rw [if_pos (by rw [List.length_map, List.length_range]; exact h), List.getElem?_range h]
      show some v = some (if j = j then v else f j)
      rw [if_pos rfl]
    · rw [if_neg (by rw [List.length_map, List.length_range]; exact h), List.getElem?_eq_none (by rw [List.length_range]; omega)]
      rfl
  · rw [if_neg e]
    by_cases h : c < n
    · rw [List.getElem?_range h]
      show some (f c) = some (if c = j then v else f c)
      rw [if_neg (fun z => e z.symm)]
    · rw [List.getElem?_eq_none (by rw [List.length_range]; omega)]
      rfl
theorem mid_s {ss : List Sh} {high wide k : Nat} {ws : List (Nat × Nat)} {p : Nat × Nat} : (midC ss high wide ws p k).set (p.1 + k) (newC ss high p (p.1 + k)) = midC ss high wide ws p (k + 1) := by
  unfold midC
  rw [set_range]
  refine List.map_congr_left fun c _ => ?_
  by_cases e : c = p.1 + k
  · subst e
    rw [if_pos rfl, if_pos (by omega)]
  · rw [if_neg e]
    by_cases h : p.1 ≤ c ∧ c < p.1 + k
    · rw [if_pos h, if_pos (by omega)]
    · rw [if_neg h, if_neg (by omega)]
theorem cols_nil {ss : List Sh} {high wide : Nat} : colsR ss high wide [] = List.replicate wide (List.replicate high 46) := by
  unfold colsR colR
  have e : ∀ (n : Nat) {α : Type} (x : α), (List.range n).map (fun _ => x) = List.replicate n x := fun n α x => by
    rw [List.map_const', List.length_range]
  show (List.range wide).map (fun _ => (List.range high).map fun _ => 46) = _
  rw [e, e]
theorem len_cols {ss : List Sh} {high wide : Nat} {ws : List (Nat × Nat)} : (colsR ss high wide ws).length = wide := by
  unfold colsR
  rw [List.length_map, List.length_range]
theorem len_mid {ss : List Sh} {high wide k : Nat} {ws : List (Nat × Nat)} {p : Nat × Nat} : (midC ss high wide ws p k).length = wide := by
  unfold midC
  rw [List.length_map, List.length_range]
section
variable {P : Program} {w : World} {K : PySem.W.Frag} {mg : Str → Option Value} {base : Heap}
end
end Dt
namespace Dt
open PySem PySem.Spec PyProof.Rows L2 L2X
open SX (S)
def colD (rs : List (List Nat)) (ss : List Sh) (high : Nat) (ws : List (Nat × Nat)) (c : Nat) : Nat := ((List.range high).map fun r => dif rs (pix ss ws) r c).sum
theorem sum_succ (f : Nat → Nat) (k : Nat) : ((List.range (k + 1)).map f).sum = ((List.range k).map f).sum + f k := by
  rw [List.range_succ, List.map_append, List.sum_append]
  simp
theorem colD_le {rs : List (List Nat)} {ss : List Sh} {high : Nat} {ws : List (Nat × Nat)} {c : Nat} : colD rs ss high ws c ≤ high := by
  unfold colD
  have key : ∀ l : List Nat, (l.map fun r => dif rs (pix ss ws) r c).sum ≤ l.length := by
    intro l
    induction l with
    | nil => exact Nat.le_refl 0
    | cons x r ih =>
      rw [List.map_cons, List.sum_cons, List.length_cons]
      have : dif rs (pix ss ws) x c ≤ 1 := by
        unfold dif
        split <;> omega
      omega
  have := key (List.range high)
  rw [List.length_range] at this
  exact this
section
variable {P : Program} {w : World} {K : PySem.W.Frag} {mg : Str → Option Value} {base : Heap}
end
end Dt
namespace Dt
open PySem PySem.Spec PyProof.Rows L2 L2X
open SX (S)
/-- rows of signs, of any size that may come -/
structure BigR (high wide : Nat) (rs : List (List Nat)) : Prop where
  r : RowsR high wide rs
  h0 : 1 ≤ high
  h1 : high ≤ 120
  w0 : 1 ≤ wide
  w1 : wide ≤ 120
theorem PicR.big {high wide : Nat} {rs : List (List Nat)} (p : PicR high wide rs) : BigR high wide rs := ⟨p.rows, p.h0, Nat.le_trans p.h1 (by decide), p.w0, p.w1⟩
theorem BigR.head {high wide : Nat} {rs : List (List Nat)} (b : BigR high wide rs) : (rs.headD []).length = wide := by
  cases rs with
  | nil =>
    have := b.r.len
    have := b.h0
    simp at *
    omega
  | cons l r => exact (b.r.row l List.mem_cons_self).len
theorem getD_mem {l : List Nat} {c : Nat} (h : c < l.length) : l.getD c 0 ∈ l := by
  rw [getD_at (List.getElem?_eq_getElem h)]
  exact List.getElem_mem h
def colsW (w : Nat) (rs : List (List Nat)) : List (List Nat) := (List.range w).map fun c => rs.map fun l => l.getD c 0
abbrev sCO : Stmt := topS 24
theorem scCO : FnScope ["rows", "signs"] ["rows"] (defScope sCO) := ⟨rfl, rfl, rfl, by decide +kernel, rfl, by decide +kernel, by decide +kernel⟩
def spCO : Sp := fun vs H Q _ => ∃ (a : Addr) (high wide : Nat) (rs : List (List Nat)), vs = [.ref a] ∧ H a = some (.tup (rs.map rv)) ∧ BigR high wide rs ∧ ∀ p H', Same H H' → H p = none → H' p = some (.lst ((colsW wide rs).map rv)) → Q (.ref p) H'
section
variable {P : Program} {w : World} {K : PySem.W.Frag} {mg : Str → Option Value} {base : Heap} {C CP : Addr}
theorem sgn_S (l : List Nat) (i : Nat) : sgn (S l) i = .str ⟨#[l.getD i 0]⟩ := by
  unfold sgn
  rw [List.getD_eq_getElem?_getD]
  simp [S]
theorem ok_CO {f : Addr} {fd : FuncData} {k : Nat} (F : Fun K "columns_of" "columns_of" sCO f fd) (X : Tx mg) (hz : mg "zip" = none) : FnOk P w K mg base CX0 (k + 1) f fd ["rows"] spCO := by
  refine F.ok scCO (fun vs H Q E h => ?_) (fun cdv A outer s H vs Q E hr h => ?_)
  · obtain ⟨a, _, _, _, rfl, _⟩ := h
    rfl
  · obtain ⟨a, high, wide, rs, rfl, ha, b, q⟩ := h
    have nd := scCO.nd
    refine ⟨_, pss_one (ps_ret (pe_lc (own := [("signs", 1)]) (g := gName 1) (tt := tYes) rfl nd (pi_zipS (by rfl) hz (pv 0)) (blkOk_by (N := ["rows", "signs"]) (sc := defScope sCO) (by decide +kernel)) (fun _ _ _ _ _ => pg_name (i := 1) nd rfl (Or.inl rfl)) (fun _ _ _ _ _ => pts_nil)
        (fun _ _ _ _ _ => pe_joinK (K := K) rfl pe_str (pv 1)))), ?_⟩
    have hp1 : H a = some (.tup ((rs.map S).map V.str)) := by
      rw [ha, List.map_map]
      rfl
    have hlen := b.r.len
    have h0 := b.h0
    have h1 := b.h1
    have w1 := b.w1
    have cl : (colsW wide rs).length = wide := by unfold colsW; rw [List.length_map, List.length_range]
    refine ⟨.ref a, rfl, a, rs.map S, rfl, .inl (SqT.of hp1), by rw [List.length_map]; omega, by rw [List.length_map]; omega, fun D hD => lc_zipN (n := wide) (by rw [List.length_map]; omega) (fun z hz' => ?_)
      (fun i H2 => Same H H2 ∧ H2 D = some (.lst (((colsW wide rs).take i).map rv))) ⟨same_upd hD, upd_same⟩ ?_ ?_⟩
    · obtain ⟨l, hl, rfl⟩ := List.mem_map.mp hz'
      have := (b.r.row l hl).len
      show (S l).length = wide
      rw [SX.S_len, this]
    · rintro i H2 T hi ⟨sm, h2⟩ nT
      have sT := same_upd (o := .tup ((rs.map S).map fun z => sgn z i)) nT
      have el : (colsW wide rs)[i]? = some (rs.map fun l => l.getD i 0) := by
        unfold colsW
        rw [List.getElem?_map, List.getElem?_range hi]
        rfl
      refine ⟨rfl, ⟨"", rfl⟩, .ref T, rfl, "", T, (rs.map fun l => l.getD i 0).map fun c => (⟨#[c]⟩ : Str), rfl, rfl, .inr (SqT.of ?_), ?_, ?_⟩
      · rw [upd_same, List.map_map, List.map_map, List.map_map]
        congr 2
        apply List.map_congr_left
        intro l _
        exact sgn_S l i
      · rw [lens_rows, List.length_map]
        show rs.length + _ * 0 ≤ 16777216
        omega
      · rw [join_row]
        refine ⟨_, sT _ _ h2, ?_, same_over (sm.trans sT) hD, ?_⟩
        · rw [List.length_map, List.length_take]
          exact smallT (by omega)
        · rw [upd_same, take_snoc el, List.map_append]
          rfl
    · rintro H2 ⟨sm, h2⟩
      have e : (colsW wide rs).take wide = colsW wide rs := List.take_of_length_le (by rw [cl]; exact Nat.le_refl _)
      rw [e] at h2
      exact q D _ sm hD h2
end
/-! ### the ones of a number, and columns as numbers -/
def pc (n : Nat) : Nat := if h : n = 0 then 0 else pc (n / 2) + n % 2
decreasing_by omega
theorem pc_eq (n : Nat) : pc n = pc (n / 2) + n % 2 := by
  by_cases h : n = 0
  · subst h
    rw [pc]
    simp
  · rw [pc, dif_neg h]
theorem pc_two (n : Nat) : pc (2 * n) = pc n := by
  rw [pc_eq, Nat.mul_div_cancel_left _ (by decide), Nat.mul_mod_right]
  rfl
theorem pc_odd (n : Nat) : pc (2 * n + 1) = pc n + 1 := by
  rw [pc_eq]
  have e1 : (2 * n + 1) / 2 = n := by omega
  have e2 : (2 * n + 1) % 2 = 1 := by omega
  rw [e1, e2]
theorem pc_high : ∀ (h n : Nat), n < 2 ^ h → pc (2 ^ h + n) = pc n + 1
  | 0, n, l => by
    have e : n = 0 := by omega
    subst e
    rw [pc_eq]
  | h + 1, n, l => by
    have e0 : 2 ^ (h + 1) = 2 * 2 ^ h := by rw [Nat.pow_succ, Nat.mul_comm]
    rw [pc_eq (2 ^ (h + 1) + n), pc_eq n, e0]
    have e1 : (2 * 2 ^ h + n) / 2 = 2 ^ h + n / 2 := by omega
    have e2 : (2 * 2 ^ h + n) % 2 = n % 2 := by omega
    rw [e1, e2, pc_high h (n / 2) (by omega)]
    omega
theorem pc_small : ∀ (h n : Nat), n < 2 ^ h → pc n ≤ h
  | 0, n, l => by
    have e : n = 0 := by omega
    subst e
    rw [pc]
    simp
  | h + 1, n, l => by
    have e0 : 2 ^ (h + 1) = 2 * 2 ^ h := by rw [Nat.pow_succ, Nat.mul_comm]
    have := pc_small h (n / 2) (by omega)
    rw [pc_eq]
    omega
/-- a column as a number -/
def numN (l : List Nat) : Nat := l.foldl (fun n c => n * 2 + if c = 35 then 1 else 0) 0
theorem numN_snoc (l : List Nat) (c : Nat) : numN (l ++ [c]) = numN l * 2 + if c = 35 then 1 else 0 := by
  unfold numN
  rw [List.foldl_append]
  rfl
theorem snoc_ind {α : Type} {p : List α → Prop} (h0 : p []) (h1 : ∀ l x, p l → p (l ++ [x])) : ∀ l, p l := fun l => by
  have key : ∀ n (l : List α), l.length = n → p l := fun n => by
    induction n with
    | zero =>
      intro l hl
      rw [List.eq_nil_of_length_eq_zero hl]
      exact h0
    | succ n ih =>
      intro l hl
      have hne : l ≠ [] := by
        intro e
        rw [e] at hl
        cases hl
      have e := List.dropLast_concat_getLast hne
      rw [← e]
      exact h1 _ _ (ih _ (by rw [List.length_dropLast, hl]; rfl))
  exact key _ l rfl
theorem numN_lt : ∀ l : List Nat, numN l < 2 ^ l.length := snoc_ind (by decide) fun l x ih => by
  rw [numN_snoc, List.length_append, List.length_singleton, Nat.pow_succ]
  by_cases h : x = 35
  · rw [if_pos h]
    omega
  · rw [if_neg h]
    omega
def cnt35 (l : List Nat) : Nat := (l.filter fun c => decide (c = 35)).length
theorem cnt_snoc (l : List Nat) (c : Nat) : cnt35 (l ++ [c]) = cnt35 l + if c = 35 then 1 else 0 := by
  unfold cnt35
  rw [List.filter_append, List.length_append]
  by_cases h : c = 35
  · rw [if_pos h]
    simp [h]
  · rw [if_neg h]
    simp [h]
theorem pc_num : ∀ l : List Nat, pc (numN l) = cnt35 l := snoc_ind (by rw [show numN [] = 0 from rfl, pc]; rfl) fun l x ih => by
  rw [numN_snoc, cnt_snoc, ← ih]
  by_cases h : x = 35
  · rw [if_pos h, Nat.mul_comm, pc_odd]
  · rw [if_neg h, Nat.mul_comm, Nat.add_zero, pc_two, Nat.add_zero]
theorem misZ_snoc {l m : List Nat} {a b : Nat} (h : l.length = m.length) : misZ (l ++ [a]) (m ++ [b]) = misZ l m + if a = b then 0 else 1 := by
  unfold misZ
  rw [List.zip_append h, List.filter_append, List.length_append]
  by_cases e : a = b
  · rw [if_pos e]
    simp [e]
  · rw [if_neg e]
    simp [e]
theorem pc_xor : ∀ (l m : List Nat), l.length = m.length → (∀ c ∈ l, c = 35 ∨ c = 46) → (∀ c ∈ m, c = 35 ∨ c = 46) → pc (numN l ^^^ numN m) = misZ l m := fun l => by
  refine snoc_ind (p := fun l => ∀ m : List Nat, l.length = m.length → (∀ c ∈ l, c = 35 ∨ c = 46) → (∀ c ∈ m, c = 35 ∨ c = 46) → pc (numN l ^^^ numN m) = misZ l m) ?_ ?_ l
  · intro m h _ _
    have e : m = [] := List.eq_nil_of_length_eq_zero h.symm
    subst e
    rw [show numN [] = 0 from rfl, Nat.xor_self, pc]
    rfl
  · intro l a ih m h h1 h2
    have hne : m ≠ [] := by
      intro e
      rw [e, List.length_append] at h
      cases h
    obtain ⟨m', b, rfl⟩ : ∃ m' b, m = m' ++ [b] := ⟨_, _, (List.dropLast_concat_getLast hne).symm⟩
    have hl : l.length = m'.length := by
      rw [List.length_append, List.length_append] at h
      exact Nat.succ.inj h
    have I := ih m' hl (fun c hc => h1 c (List.mem_append_left _ hc)) fun c hc => h2 c (List.mem_append_left _ hc)
    have ha := h1 a (List.mem_append_right _ (List.mem_singleton.mpr rfl))
    have hb := h2 b (List.mem_append_right _ (List.mem_singleton.mpr rfl))
    rw [misZ_snoc hl, numN_snoc, numN_snoc, pc_eq, Nat.xor_div_two]
    have d : ∀ (x c : Nat), (x * 2 + if c = 35 then 1 else 0) / 2 = x := fun x c => by
      by_cases h : c = 35
      · rw [if_pos h]
        omega
      · rw [if_neg h]
        omega
    have x2 : ∀ x y : Nat, (x ^^^ y) % 2 = (x % 2) ^^^ (y % 2) := fun x y => Nat.xor_mod_two_pow (n := 1)
    have m2 : ∀ (x c : Nat), (x * 2 + if c = 35 then 1 else 0) % 2 = if c = 35 then 1 else 0 := fun x c => by
      by_cases h : c = 35
      · rw [if_pos h]
        omega
      · rw [if_neg h]
        omega
    rw [d, d, I, x2, m2, m2]
    rcases ha with rfl | rfl <;> rcases hb with rfl | rfl <;> simp
/-- how many ones each number has -/
def cntL (h : Nat) : List Nat := (List.range (2 ^ h)).map pc
theorem cntL_succ (h : Nat) : cntL (h + 1) = cntL h ++ (cntL h).map (· + 1) := by
  unfold cntL
  have e0 : 2 ^ (h + 1) = 2 ^ h + 2 ^ h := by omega
  rw [e0, List.range_add, List.map_append, List.map_map, List.map_map]
  congr 1
  apply List.map_congr_left
  intro n hn
  exact pc_high h n (List.mem_range.mp hn)
theorem cntL_len (h : Nat) : (cntL h).length = 2 ^ h := by
  unfold cntL
  rw [List.length_map, List.length_range]
theorem cntL_0 : cntL 0 = [0] := by
  unfold cntL
  simp [pc]
theorem cntL_at {h n : Nat} (l : n < 2 ^ h) : (cntL h)[n]? = some (pc n) := by
  unfold cntL
  rw [List.getElem?_map, List.getElem?_range l]
  rfl
theorem cnt_c35 : ∀ l : List Nat, cnt 35 l = (cnt35 l : Int)
  | [] => by
    rw [cnt_nil]
    rfl
  | n :: r => by
    rw [cnt_cons, cnt_c35 r]
    unfold cnt35
    by_cases h : n = 35
    · rw [if_pos h, List.filter_cons_of_pos (by simp [h]), List.length_cons]
      omega
    · rw [if_neg h, List.filter_cons_of_neg (by simp [h])]
      omega
abbrev sNO : Stmt := topS 36
theorem scNO : FnScope ["column", "number", "sign"] ["column"] (defScope sNO) := ⟨rfl, rfl, rfl, by decide +kernel, rfl, by decide +kernel, by decide +kernel⟩
def spNO : Sp := fun vs H Q _ => ∃ (l : List Nat), vs = [rv l] ∧ l.length ≤ 60 ∧ ∀ H', Same H H' → Q (.int (numN l)) H'
abbrev sCN : Stmt := topS 35
theorem scCN : FnScope ["picture", "column"] ["picture"] (defScope sCN) := ⟨rfl, rfl, rfl, by decide +kernel, rfl, by decide +kernel, by decide +kernel⟩
def nums (wide : Nat) (rs : List (List Nat)) : List Nat := (colsW wide rs).map numN
def iv (n : Nat) : V := .int n
def spCN : Sp := fun vs H Q _ => ∃ (a : Addr) (high wide : Nat) (rs : List (List Nat)), vs = [.ref a] ∧ H a = some (.tup (rs.map rv)) ∧ PicR high wide rs ∧ ∀ p H', Same H H' → H p = none → H' p = some (.lst ((nums wide rs).map iv)) → Q (.ref p) H'
abbrev sDC : Stmt := topS 37
theorem scDC : FnScope ["high", "counts", "_", "dots"] ["high"] (defScope sDC) := ⟨rfl, rfl, rfl, by decide +kernel, rfl, by decide +kernel, by decide +kernel⟩
def spDC : Sp := fun vs H Q _ => ∃ (h : Nat), vs = [.int h] ∧ h ≤ 9 ∧ ∀ p H', Same H H' → H p = none → H' p = some (.lst ((cntL h).map iv)) → Q (.ref p) H'
abbrev sWC : Stmt := topS 32
theorem scWC : FnScope ["line", "row"] ["line"] (defScope sWC) := ⟨rfl, rfl, rfl, by decide +kernel, rfl, by decide +kernel, by decide +kernel⟩
def whiteN (rs : List (List Nat)) : Nat := (rs.map cnt35).sum
def spWC : Sp := fun vs H Q _ => ∃ (a : Addr) (high wide : Nat) (rs : List (List Nat)), vs = [.ref a] ∧ H a = some (.tup (rs.map rv)) ∧ PicR high wide rs ∧ ∀ H', Same H H' → Q (.int (whiteN rs)) H'
section
variable {P : Program} {w : World} {K : PySem.W.Frag} {mg : Str → Option Value} {base : Heap} {C CP : Addr}
theorem ok_no {f : Addr} {fd : FuncData} {k : Nat} (F : Fun K "_number_of" "_number_of" sNO f fd) : FnOk P w K mg base CX0 (k + 1) f fd ["column"] spNO := by
  refine F.ok scNO (fun vs H Q E h => ?_) (fun cdv A outer s H vs Q E hr h => ?_)
  · obtain ⟨l, rfl, _⟩ := h
    rfl
  · obtain ⟨l, rfl, hl, q⟩ := h
    have nd := scNO.nd
    refine ⟨_, pss_cons (ps_set (i := 1) nd rfl (.inl rfl) pe_int)
      (pss_cons (ps_for PassesOwn.never rfl (pi_str (pv 0)) (pg_name (i := 2) nd rfl (Or.inl rfl))
        (pss_one (ps_set (i := 1) nd rfl (.inl rfl) (pe_op op_add (pe_op op_mul (pv 1) pe_int) (pe_ifExp (pt_cmpR op_eq (pv 2) pe_str (nomark _)) pe_int pe_int)))))
      (pss_one (ps_ret (pv 1)))), ?_⟩
    refine ⟨rv l, rfl, S l, rfl, for_it walk_str (fun i σ H2 => ∃ y, σ = [some (rv l), some (.int (numN (l.take i))), y] ∧ Same H H2) ⟨none, rfl, Same.refl H⟩ (fun _ _ _ _ _ => trivial) ?_ ?_⟩
    · rintro i x σ H2 H' hi ⟨y, rfl, sm⟩ ⟨rfl, c, hc, rfl⟩
      have hc' : l[i]? = some c := by simpa [S] using hc
      have en : numN (l.take (i + 1)) = numN (l.take i) * 2 + if c = 35 then 1 else 0 := by
        rw [take_snoc hc', numN_snoc]
      have eb : decide (V.str ⟨#[c]⟩ = V.str ("#" : Str)) = decide (c = 35) := by
        rw [s_hash]
        exact ch_dec c 35
      refine ⟨.int _, rfl, _, _, rfl, rfl, .inr ⟨by decide, by decide⟩, .str ⟨#[c]⟩, rfl, rfl, _, rfl, ?_⟩
      rw [eb]
      by_cases h : c = 35
      · rw [decide_eq_true h]
        refine iteT ⟨_, _, rfl, rfl, some (.str ⟨#[c]⟩), ?_, sm⟩
        rw [en, if_pos h]
        rfl
      · rw [decide_eq_false h]
        refine iteF ⟨_, _, rfl, rfl, some (.str ⟨#[c]⟩), ?_, sm⟩
        rw [en, if_neg h]
        rfl
    · rintro σ H2 ⟨y, rfl, sm⟩
      have e : (S l).cps.size = l.length := by simp [S]
      rw [e, List.take_length]
      exact ⟨_, rfl, q _ sm⟩
theorem ok_cn {f : Addr} {fd : FuncData} {k : Nat} (F : Fun K "column_numbers" "column_numbers" sCN f fd) (GC : Pm P w K mg base CX0 (k + 1) "columns_of" ["rows"] spCO) (GN : Pm P w K mg base CX0 (k + 1) "_number_of" ["column"] spNO) : FnOk P w K mg base CX0 (k + 2) f fd ["picture"] spCN := by
  obtain ⟨fC, fdC, GC, mC, kC, bC⟩ := GC.ex
  obtain ⟨fN, fdN, GN, mN, kN, bN⟩ := GN.ex
  refine F.ok scCN (fun vs H Q E h => ?_) (fun cdv A outer s H vs Q E hr h => ?_)
  · obtain ⟨a, _, _, _, rfl, _⟩ := h
    rfl
  · obtain ⟨a, high, wide, rs, rfl, ha, pr, q⟩ := h
    have nd := scCN.nd
    refine ⟨_, pss_one (ps_ret (pe_lc (own := [("column", 1)]) (g := gName 1) (tt := tYes) rfl nd (pi_list (pe_call GC hr (by rfl) mC kC bC .nil pass0 (pa_cons (pv 0) pa_nil))) (blkOk_by (N := ["picture", "column"]) (sc := defScope sCN) (by decide +kernel)) (fun _ _ _ _ _ => pg_name (i := 1) nd rfl (Or.inl rfl)) (fun _ _ _ _ _ => pts_nil)
        (fun _ _ _ _ _ => pe_call GN hr (by rfl) mN kN bN .nil pass0 (pa_cons (pv 1) pa_nil)))), ?_⟩
    have hw : (colsW wide rs).length = wide := by unfold colsW; rw [List.length_map, List.length_range]
    refine ⟨.ref a, rfl, a, high, wide, rs, rfl, ha, pr.big, fun p H1 s1 np hp => ⟨p, rfl, ⟨_, SqL.of hp⟩, fun D hD => lc_list (K := K) (a := p) (xs := (colsW wide rs).map rv)
      (fun i H2 => Same H1 H2 ∧ H2 D = some (.lst (((nums wide rs).take i).map iv))) ⟨same_upd hD, upd_same⟩ (fun i H2 _ z => SqL.of (z.1 _ _ hp)) ?_ ?_⟩⟩
    · rintro i x H2 hx ⟨sm, h2⟩
      rw [List.getElem?_map] at hx
      obtain ⟨l, hl, rfl⟩ := Option.map_eq_some_iff.mp hx
      have lm := List.mem_of_getElem? hl
      unfold colsW at lm
      obtain ⟨c, _, rfl⟩ := List.mem_map.mp lm
      have en : (nums wide rs)[i]? = some (numN (rs.map fun l => l.getD c 0)) := by
        unfold nums
        rw [List.getElem?_map, hl]
        rfl
      have il : i < wide := by
        rw [← hw]
        exact (List.getElem?_eq_some_iff.mp hl).1
      refine ⟨rfl, rv _, rfl, _, rfl, ?_, fun H3 s3 => ⟨_, s3 _ _ h2, ?_, same_over (sm.trans s3) hD, ?_⟩⟩
      · rw [List.length_map, pr.len]
        exact pr.h1
      · rw [List.length_map, List.length_take]
        have := pr.w1
        exact small1000 (by omega)
      · rw [upd_same, take_snoc en, List.map_append]
        rfl
    · rintro H2 ⟨sm, h2⟩
      have e : (nums wide rs).take ((colsW wide rs).map rv).length = nums wide rs := List.take_of_length_le (by unfold nums; rw [List.length_map, List.length_map]; exact Nat.le_refl _)
      rw [e] at h2
      exact q D _ (s1.trans sm) (s1.free hD) h2
theorem ok_dc {f : Addr} {fd : FuncData} {k : Nat} (F : Fun K "dot_counts" "dot_counts" sDC f fd) (T : Tx mg) : FnOk P w K mg base CX0 (k + 1) f fd ["high"] spDC := by
  refine F.ok scDC (fun vs H Q E h => ?_) (fun cdv A outer s H vs Q E hr h => ?_)
  · obtain ⟨a, rfl, _⟩ := h
    rfl
  · obtain ⟨high, rfl, h9, q⟩ := h
    have nd := scDC.nd
    refine ⟨_, pss_cons (ps_set (i := 1) nd rfl (.inl rfl) (pe_lst (pa_cons pe_int pa_nil)))
      (pss_cons (ps_for PassesOwn.never rfl (pi_range1 rfl T.range (pa_cons (pv 0) pa_nil)) (pg_name (i := 2) nd rfl (Or.inl rfl))
        (pss_one (ps_set (i := 1) nd rfl (.inl rfl) (pe_op op_cat (pv 1) (pe_lc (own := [("dots", 3)]) (g := gName 3) (tt := tYes) rfl nd (pi_list (pv 1)) (blkOk_by (N := ["high", "counts", "_", "dots"]) (sc := defScope sDC) (by decide +kernel)) (fun _ _ _ _ _ => pg_name (i := 3) nd rfl (Or.inl rfl)) (fun _ _ _ _ _ => pts_nil)
          (fun _ _ _ _ _ => pe_op op_add (pv 3) pe_int))))))
      (pss_one (ps_ret (pv 1)))), ?_⟩
    refine ⟨by show 1 ≤ sizeLine; decide, fun l hl => ⟨.int (high : Int), rfl, high, rfl, by omega, by omega, for_range (lo := 0) (n := high) (fun i σ H2 => ∃ c y, σ = [some (.int (high : Int)), some (.ref c), y, none] ∧ Same H H2 ∧ H c = none ∧ H2 c = some (.lst ((cntL i).map iv))) ⟨l, none, rfl, same_upd hl, hl, by rw [cntL_0]; exact upd_same⟩ ?_ ?_⟩⟩
    · rintro i σ H2 hi ⟨c, y, rfl, sm, nc, hc⟩
      have two : 2 ^ i ≤ 2 ^ 8 := Nat.pow_le_pow_right (by decide) (by omega)
      refine ⟨.ref c, rfl, .ref c, rfl, c, rfl, ⟨_, SqL.of hc⟩, fun D hD => lc_list (K := K) (a := c) (xs := (cntL i).map iv)
        (fun j H3 => Same H2 H3 ∧ H3 D = some (.lst ((((cntL i).map (· + 1)).take j).map iv))) ⟨same_upd hD, upd_same⟩ (fun j H3 _ z => SqL.of (z.1 _ _ hc)) ?_ ?_⟩
      · rintro j x H3 hx ⟨sm3, h3⟩
        rw [List.getElem?_map] at hx
        obtain ⟨n, hn, rfl⟩ := Option.map_eq_some_iff.mp hx
        have en : ((cntL i).map (· + 1))[j]? = some (n + 1) := by
          rw [List.getElem?_map, hn]
          rfl
        refine ⟨rfl, iv n, rfl, n, 1, rfl, rfl, _, h3, ?_, same_over sm3 hD, ?_⟩
        · rw [List.length_map, List.length_take, List.length_map, cntL_len]
          exact small1000 (by omega)
        · rw [upd_same, take_snoc en, List.map_append]
          rfl
      · rintro H3 ⟨sm3, h3⟩
        have e : ((cntL i).map (· + 1)).take ((cntL i).map iv).length = (cntL i).map (· + 1) := List.take_of_length_le (by rw [List.length_map, List.length_map]; exact Nat.le_refl _)
        rw [e] at h3
        refine ⟨c, D, _, _, rfl, rfl, sm3 _ _ hc, h3, ?_, fun p hp => ⟨p, _, rfl, (sm.trans sm3).trans (same_upd hp), (sm.trans sm3).free hp, ?_⟩⟩
        · simp only [List.length_map, cntL_len]
          exact Nat.le_of_lt (small1000 (by omega))
        · rw [upd_same, cntL_succ, List.map_append]
    · rintro σ H2 ⟨c, y, rfl, sm, nc, hc⟩
      exact ⟨_, rfl, q c _ sm nc hc⟩
theorem ok_wc {f : Addr} {fd : FuncData} {k : Nat} (F : Fun K "white_cost" "white_cost" sWC f fd) (su : mg "sum" = none) : FnOk P w K mg base CX0 (k + 1) f fd ["line"] spWC := by
  refine F.ok scWC (fun vs H Q E h => ?_) (fun cdv A outer s H vs Q E hr h => ?_)
  · obtain ⟨a, _, _, _, rfl, _⟩ := h
    rfl
  · obtain ⟨a, high, wide, rs, rfl, ha, pr, q⟩ := h
    have nd := scWC.nd
    refine ⟨_, pss_one (ps_ret (pe_callB (cr_sum rfl) (by rfl) su (by decide +kernel) (pa_cons (pe_lc (own := [("row", 1)]) (g := gName 1) (tt := tYes) rfl nd (pi_tup (pv 0)) (blkOk_by (N := ["line", "row"]) (sc := defScope sWC) (by decide +kernel)) (fun _ _ _ _ _ => pg_name (i := 1) nd rfl (Or.inl rfl)) (fun _ _ _ _ _ => pts_nil)
      (fun _ _ _ _ _ => pe_m1 PySem.F.slot_str_count PySem.F.type_str_count mt_count (pv 1) pe_str)) pa_nil))), ?_⟩
    refine ⟨.ref a, rfl, a, rfl, ⟨_, SqT.of ha⟩, fun D hD => lc_tup (K := K) (a := a) (xs := rs.map rv)
      (fun i H2 => Same H H2 ∧ H2 D = some (.lst (((rs.map cnt35).take i).map iv))) ⟨same_upd hD, upd_same⟩ (fun i H2 _ z => SqT.of (z.1 _ _ ha)) ?_ ?_⟩
    · rintro i x H2 hx ⟨sm, h2⟩
      rw [List.getElem?_map] at hx
      obtain ⟨l, hl, rfl⟩ := Option.map_eq_some_iff.mp hx
      have en : (rs.map cnt35)[i]? = some (cnt35 l) := by
        rw [List.getElem?_map, hl]
        rfl
      have il : i < rs.length := (List.getElem?_eq_some_iff.mp hl).1
      refine ⟨rfl, rv l, rfl, ⟨S l, rfl⟩, S l, "#", rfl, rfl, _, h2, ?_, same_over sm hD, ?_⟩
      · rw [List.length_map, List.length_take]
        have := pr.h1
        have := pr.len
        exact small1000 (by omega)
      · rw [upd_same, take_snoc en, List.map_append, s_hash, count_cnt, cnt_c35]
        rfl
    · rintro H2 ⟨sm, h2⟩
      have e : (rs.map cnt35).take (rs.map rv).length = rs.map cnt35 := List.take_of_length_le (by rw [List.length_map, List.length_map]; exact Nat.le_refl _)
      rw [e] at h2
      refine ⟨D, (rs.map cnt35).map fun n : Nat => (n : Int), rfl, SqL.of ?_, ?_⟩
      · rw [h2]
        generalize rs.map cnt35 = lz
        rw [List.map_map]
        rfl
      · have es : ((rs.map cnt35).map fun n : Nat => (n : Int)).sum = (whiteN rs : Int) := by
          unfold whiteN
          generalize rs.map cnt35 = l
          induction l with
          | nil => rfl
          | cons x r ih =>
            rw [List.map_cons, List.sum_cons, List.sum_cons, ih]
            omega
        rw [es]
        exact q _ ((sm : Same H H2))
end
end Dt
namespace Dt
open PySem PySem.Spec PyProof.Rows L2 L2X
open SX (S)
/-! ### what each window weighs -/
def colAt (rs : List (List Nat)) (j : Nat) : List Nat := rs.map fun l => l.getD j 0
def wgt (ss : List Sh) (rs : List (List Nat)) (col k j : Nat) : Int := match ss[k]? with
  | some s => (misZ (colAt s.rs j) (colAt rs (col + j)) : Int) - (cnt35 (colAt rs (col + j)) : Int)
  | none => 0
def moreZ (ss : List Sh) (rs : List (List Nat)) (col k : Nat) : Int := ((List.range (wdt ss k)).map (wgt ss rs col k)).sum
def fitN (ss : List Sh) (wide col n : Nat) : List Nat := (List.range n).filter fun k => decide (col + wdt ss k ≤ wide)
theorem fitN_yes {ss : List Sh} {wide col n : Nat} (h : col + wdt ss n ≤ wide) : fitN ss wide col (n + 1) = fitN ss wide col n ++ [n] := by
  unfold fitN
  rw [List.range_succ, List.filter_append, List.filter_cons_of_pos (by simpa using h)]
  rfl
theorem fitN_no {ss : List Sh} {wide col n : Nat} (h : ¬ col + wdt ss n ≤ wide) : fitN ss wide col (n + 1) = fitN ss wide col n := by
  unfold fitN
  rw [List.range_succ, List.filter_append, List.filter_cons_of_neg (by simpa using h)]
  simp
theorem fitN_len {ss : List Sh} {wide col n : Nat} : (fitN ss wide col n).length ≤ n := by
  unfold fitN
  refine Nat.le_trans (List.length_filter_le _ _) ?_
  rw [List.length_range]
  exact Nat.le_refl n
theorem fitN_mem {ss : List Sh} {wide col n k : Nat} (h : k ∈ fitN ss wide col n) : k < n ∧ col + wdt ss k ≤ wide := by
  unfold fitN at h
  obtain ⟨a, b⟩ := List.mem_filter.mp h
  exact ⟨List.mem_range.mp a, of_decide_eq_true b⟩
/-- a window with what it weighs -/
def WnAt (ss : List Sh) (rs : List (List Nat)) (H : Hp) (col : Nat) (x : V) (k : Nat) : Prop := ∃ t p, x = .ref t ∧ H t = some (.tup [.ref p, .int (wdt ss k), .int (moreZ ss rs col k)]) ∧ H p = some (.tup [.int col, .int k])
structure Wns (ss : List Sh) (rs : List (List Nat)) (H : Hp) (col : Nat) (xs : List V) (ks : List Nat) : Prop where
  len : xs.length = ks.length
  at_ : ∀ (i : Nat) (x : V) (k : Nat), xs[i]? = some x → ks[i]? = some k → WnAt ss rs H col x k
theorem WnAt.ext {ss : List Sh} {rs : List (List Nat)} {H H' : Hp} {col : Nat} {x : V} {k : Nat} (h : WnAt ss rs H col x k) (s : ∀ b o, (∃ zs, o = .tup zs) → H b = some o → H' b = some o) : WnAt ss rs H' col x k := by
  obtain ⟨t, p, e, h1, h2⟩ := h
  exact ⟨t, p, e, s _ _ ⟨_, rfl⟩ h1, s _ _ ⟨_, rfl⟩ h2⟩
theorem Wns.ext {ss : List Sh} {rs : List (List Nat)} {H H' : Hp} {col : Nat} {xs : List V} {ks : List Nat} (h : Wns ss rs H col xs ks) (s : ∀ b o, (∃ zs, o = .tup zs) → H b = some o → H' b = some o) : Wns ss rs H' col xs ks :=
  ⟨h.len, fun i x k a b => (h.at_ i x k a b).ext s⟩
theorem Wns.same {ss : List Sh} {rs : List (List Nat)} {H H' : Hp} {col : Nat} {xs : List V} {ks : List Nat} (h : Wns ss rs H col xs ks) (s : Same H H') : Wns ss rs H' col xs ks := h.ext fun b o _ e => s b o e
theorem Wns.nil {ss : List Sh} {rs : List (List Nat)} {H : Hp} {col : Nat} : Wns ss rs H col [] [] := ⟨rfl, fun i x k h => nomatch h⟩
theorem Wns.add {ss : List Sh} {rs : List (List Nat)} {H : Hp} {col : Nat} {xs : List V} {ks : List Nat} {x : V} {k : Nat} (h : Wns ss rs H col xs ks) (hx : WnAt ss rs H col x k) : Wns ss rs H col (xs ++ [x]) (ks ++ [k]) := by
  refine ⟨by rw [List.length_append, List.length_append, h.len]; rfl, fun i y n a b => ?_⟩
  by_cases hi : i < xs.length
  · rw [List.getElem?_append_left hi] at a
    rw [List.getElem?_append_left (by rw [← h.len]; exact hi)] at b
    exact h.at_ i y n a b
  · rw [List.getElem?_append_right (by omega)] at a
    rw [List.getElem?_append_right (by rw [← h.len]; omega), ← h.len] at b
    cases e : i - xs.length with
    | zero =>
      rw [e] at a b
      cases a
      cases b
      exact hx
    | succ j =>
      rw [e] at a
      simp at a
/-- the columns of each shape as numbers -/
def ShN (H : Hp) (ys : List V) (ss : List Sh) : Prop := ys.length = ss.length ∧ ∀ (i : Nat) (y : V) (s : Sh), ys[i]? = some y → ss[i]? = some s → ∃ l, y = .ref l ∧ H l = some (.lst ((nums s.w s.rs).map iv))
theorem ShN.same {H H' : Hp} {ys : List V} {ss : List Sh} (h : ShN H ys ss) (s : Same H H') : ShN H' ys ss := ⟨h.1, fun i y z a b => let ⟨l, e, q⟩ := h.2 i y z a b; ⟨l, e, s _ _ q⟩⟩
theorem nums_len {w : Nat} {rs : List (List Nat)} : (nums w rs).length = w := by
  unfold nums colsW
  rw [List.length_map, List.length_map, List.length_range]
theorem nums_at {w j : Nat} {rs : List (List Nat)} (h : j < w) : (nums w rs)[j]? = some (numN (colAt rs j)) := by
  unfold nums colsW
  rw [List.getElem?_map, List.getElem?_map, List.getElem?_range h]
  rfl
theorem colAt_len {high wide j : Nat} {rs : List (List Nat)} (p : PicR high wide rs) : (colAt rs j).length = high := by
  unfold colAt
  rw [List.length_map, p.len]
theorem colAt_sg {high wide j : Nat} {rs : List (List Nat)} (p : PicR high wide rs) (h : j < wide) : ∀ c ∈ colAt rs j, c = 35 ∨ c = 46 := by
  intro c hc
  unfold colAt at hc
  obtain ⟨l, hl, rfl⟩ := List.mem_map.mp hc
  have r := p.row l hl
  exact r.sg _ (getD_mem (by rw [r.len]; exact h))
abbrev sWT : Stmt := topS 34
abbrev nWT : List Str := ["column", "drawn", "shapes", "counts", "windows", "number", "shape", "behind", "more", "one", "other"]
theorem scWT : FnScope nWT ["column", "drawn", "shapes", "counts"] (defScope sWT) := ⟨rfl, rfl, rfl, by decide +kernel, rfl, by decide +kernel, by decide +kernel⟩
def spWT : Sp := fun vs H Q _ => ∃ (d sh ct : Addr) (high wide col : Nat) (ys : List V) (ss : List Sh) (rs : List (List Nat)), vs = [.int col, .ref d, .ref sh, .ref ct] ∧ H d = some (.lst ((nums wide rs).map iv)) ∧ H sh = some (.lst ys) ∧ ShN H ys ss ∧ H ct = some (.lst ((cntL high).map iv)) ∧
  (∀ s ∈ ss, PicR high s.w s.rs) ∧ PicR high wide rs ∧ high ≤ 9 ∧ wide ≤ 60 ∧ ss.length ≤ 16 ∧ col < wide ∧ ∀ p xs H', Same H H' → H p = none → H' p = some (.lst xs) → Wns ss rs H' col xs (fitN ss wide col ss.length) → Q (.ref p) H'
section
variable {P : Program} {w : World} {K : PySem.W.Frag} {mg : Str → Option Value} {base : Heap} {C CP : Addr}
theorem ok_wt {f : Addr} {fd : FuncData} {k : Nat} (F : Fun K "_windows_at" "_windows_at" sWT f fd) (T : Tx mg) (en : mg "enumerate" = none) (su : mg "sum" = none) (hz : mg "zip" = none) : FnOk P w K mg base CX0 (k + 1) f fd ["column", "drawn", "shapes", "counts"] spWT := by
  refine F.ok scWT (fun vs H Q E h => ?_) (fun cdv A outer s H vs Q E hr h => ?_)
  · obtain ⟨d, sh, ct, _, _, _, _, _, _, rfl, _⟩ := h
    rfl
  · obtain ⟨d, sh, ct, high, wide, col, ys, ss, rs, rfl, hd, hsh, N, hct, pr, pl, h9, w60, s16, cw, q⟩ := h
    have nd := scWT.nd
    refine ⟨_, pss_cons (ps_set (i := 4) nd rfl (.inl rfl) (pe_lst pa_nil))
      (pss_cons (ps_for PassesOwn.never rfl (pi_enumG (by rfl) en (pa_cons (pv 2) pa_nil)) (pg_tup rfl (pgs_cons (pg_name (i := 5) nd rfl (Or.inl rfl)) (pgs_cons (pg_name (i := 6) nd rfl (Or.inl rfl)) pgs_nil)))
        (C8.pss_cut (ps_set (i := 7) nd rfl (.inl rfl) (pe_op op_add (pv 0) (pe_callB call_len_seq (by rfl) T.len PySem.boot_len (pa_cons (pv 6) pa_nil))))
        (pss_one (ps_if (pt_cmpR op_le (pv 7) (pe_callB call_len_seq (by rfl) T.len PySem.boot_len (pa_cons (pv 1) pa_nil)) (nomark _))
          (C8.pss_cut (ps_set (i := 8) nd rfl (.inl rfl) (pe_callB (cr_sum rfl) (by rfl) su (by decide +kernel) (pa_cons (pe_lc (own := [("one", 9), ("other", 10)]) (g := gTup K 2 (gCons (gName 9) (gCons (gName 10) gNil))) (tt := tYes) rfl nd (pi_zipG (by rfl) hz (pa_cons (pv 6) (pa_cons (pe_slice sl_list (pv 1) (po_some (pv 0)) (po_some (pv 7))) pa_nil))) (blkOk_by (N := nWT) (sc := defScope sWT) (by decide +kernel))
            (fun _ _ _ _ _ => pg_tup rfl (pgs_cons (pg_name (i := 9) nd rfl (Or.inl rfl)) (pgs_cons (pg_name (i := 10) nd rfl (Or.inl rfl)) pgs_nil))) (fun _ _ _ _ _ => pts_nil)
            (fun _ _ _ _ _ => pe_op op_sub (pe_ix (r := rIxL K) ix_list (pv 3) (pe_op op_xor (pv 9) (pv 10)) (fun _ _ => rfl)) (pe_ix (r := rIxL K) ix_list (pv 3) (pv 10) (fun _ _ => rfl)))) pa_nil)))
          (pss_one (ps_expr (pe_bm PySem.F.plainAttrs_list PySem.F.slot_list_append PySem.F.type_list_append mt_append (pv 4) (pa_cons (pe_tup (pa_cons (pe_tup (pa_cons (pv 0) (pa_cons (pv 5) pa_nil))) (pa_cons (pe_callB call_len_seq (by rfl) T.len PySem.boot_len (pa_cons (pv 6) pa_nil)) (pa_cons (pv 8) pa_nil)))) pa_nil))))) pss_nil))))
      (pss_one (ps_ret (pv 4)))), ?_⟩
    refine ⟨by show 0 ≤ sizeLine; decide, fun g hg => ⟨.ref sh, rfl, .lst sh, ys, rfl, SqL.of (same_upd hg _ _ hsh), for_enumG (K := K) (A := .lst sh) (xs := ys) (fun i σ H2 => ∃ (y5 y6 y7 y8 y9 y10 : Option V) (xs : List V), σ = [some (.int col), some (.ref d), some (.ref sh), some (.ref ct), some (.ref g), y5, y6, y7, y8, y9, y10] ∧ Same H H2 ∧ H2 g = some (.lst xs) ∧ Wns ss rs H2 col xs (fitN ss wide col i)) ⟨none, none, none, none, none, none, [], rfl, same_upd hg, upd_same, Wns.nil⟩ (fun i σ H2 _ z => by
      obtain ⟨_, _, _, _, _, _, _, _, sm, _⟩ := z
      exact SqL.of (sm _ _ hsh)) ?_ ?_⟩⟩
    · rintro i y σ H2 T' hy ⟨y5, y6, y7, y8, y9, y10, xs, rfl, sm, hxs, W⟩ hT
      have hi : i < ss.length := by
        rw [← N.1]
        exact (List.getElem?_eq_some_iff.mp hy).1
      have es : ss[i]? = some ss[i] := List.getElem?_eq_getElem hi
      obtain ⟨l, rfl, hl⟩ := N.2 i y _ hy es
      have ps := pr ss[i] (List.getElem_mem hi)
      have ew : wdt ss i = (ss[i]).w := wdt_at es
      have sT := same_upd (o := .tup [V.int (i : Nat), V.ref l]) hT
      have hl2 := sT _ _ (sm _ _ hl)
      have hd2 := sT _ _ (sm _ _ hd)
      have hg2 := sT _ _ hxs
      have ct2 := sT _ _ (sm _ _ hct)
      have W2 := W.same sT
      have sm2 := sm.trans sT
      generalize eH : upd H2 T' (.tup [V.int (i : Nat), V.ref l]) = H3 at sT hl2 hd2 hg2 ct2 W2 sm2
      have e1 : ((nums (ss[i]).w (ss[i]).rs).map iv).length = (ss[i]).w := by rw [List.length_map, nums_len]
      have e2 : ((nums wide rs).map iv).length = wide := by rw [List.length_map, nums_len]
      refine ⟨T', _, rfl, SqT.of (by rw [← eH]; exact upd_same), rfl, _, _, rfl, _, _, rfl, rfl, ?_⟩
      refine ⟨fun σ' H' => σ' = [some (.int col), some (.ref d), some (.ref sh), some (.ref ct), some (.ref g), some (.int (i : Nat)), some (.ref l), some (.int ((col + (ss[i]).w : Nat) : Int)), y8, y9, y10] ∧ H3 = H', ?_, ?_⟩
      · refine ⟨.int col, rfl, .ref l, rfl, l, _, rfl, .inl (SqL.of hl2), _, _, rfl, rfl, ?_, rfl⟩
        rw [e1]
        rfl
      rintro _ _ ⟨rfl, rfl⟩
      refine ⟨.int _, rfl, .ref d, rfl, d, _, rfl, .inl (SqL.of hd2), ?_⟩
      rw [e2]
      refine ⟨_, _, rfl, rfl, _, rfl, ?_⟩
      by_cases hw : col + (ss[i]).w ≤ wide
      · refine iteY (decide_eq_true (by omega)) ?_
        have Hm : ∀ j, j < (ss[i]).w → wgt ss rs col i j = (misZ (colAt (ss[i]).rs j) (colAt rs (col + j)) : Int) - (cnt35 (colAt rs (col + j)) : Int) := fun j _ => by
          unfold wgt
          rw [es]
        refine ⟨fun σ' H' => σ' = [some (.int col), some (.ref d), some (.ref sh), some (.ref ct), some (.ref g), some (.int (i : Nat)), some (.ref l), some (.int ((col + (ss[i]).w : Nat) : Int)), some (.int (moreZ ss rs col i)), y9, y10] ∧ Same H3 H', ?_, ?_⟩
        · refine ⟨.ref l, rfl, .ref d, rfl, .int col, rfl, _, rfl, .int _, rfl, _, rfl, d, _, rfl, SqL.of hd2, fun p2 hp2 => ?_⟩
          have sp := same_upd (o := .lst (cutV ((nums wide rs).map iv) (some (col : Int)) (some ((col + (ss[i]).w : Nat) : Int)))) hp2
          have ec : cutV ((nums wide rs).map iv) (some (col : Int)) (some ((col + (ss[i]).w : Nat) : Int)) = (((nums wide rs).map iv).drop col).take (ss[i]).w := by
            rw [Int.natCast_add]
            exact cutV_mid _ _ _ (by rw [e2]; exact hw)
          refine ⟨.lst l, .lst p2, _, _, rfl, SqL.of (sp _ _ hl2), SqL.of upd_same, fun D hD => lc_zipG (K := K) (A := .lst l) (B := .lst p2) (xs := (nums (ss[i]).w (ss[i]).rs).map iv) (ys := cutV ((nums wide rs).map iv) (some (col : Int)) (some ((col + (ss[i]).w : Nat) : Int))) ?_
            (fun j H4 => Same (upd H3 p2 (.lst (cutV ((nums wide rs).map iv) (some (col : Int)) (some ((col + (ss[i]).w : Nat) : Int))))) H4 ∧ H4 D = some (.lst ((((List.range (ss[i]).w).map (wgt ss rs col i)).take j).map V.int))) ⟨same_upd hD, upd_same⟩ (fun j H4 _ z => ⟨SqL.of (z.1 _ _ (sp _ _ hl2)), SqL.of (z.1 _ _ upd_same)⟩) ?_ ?_⟩
          · rw [ec, e1, List.length_take, List.length_drop, e2]
            omega
          · rintro j x y H4 T4 hx hy4 ⟨sm4, h4⟩ nT4
            have hj : j < (ss[i]).w := by
              rw [← e1]
              exact (List.getElem?_eq_some_iff.mp hx).1
            rw [List.getElem?_map, nums_at hj] at hx
            cases hx
            rw [ec, List.getElem?_take_of_lt hj, List.getElem?_drop, List.getElem?_map, nums_at (by omega)] at hy4
            cases hy4
            have cl1 := colAt_len (j := j) ps
            have cl2 := colAt_len (j := col + j) pl
            have cg1 := colAt_sg ps hj
            have cg2 := colAt_sg pl (j := col + j) (by omega)
            have b1 := numN_lt (colAt (ss[i]).rs j)
            have b2 := numN_lt (colAt rs (col + j))
            rw [cl1] at b1
            rw [cl2] at b2
            have s4 := same_upd (o := .tup [iv (numN (colAt (ss[i]).rs j)), iv (numN (colAt rs (col + j)))]) nT4
            have ct4 := s4 _ _ (sm4 _ _ (sp _ _ ct2))
            refine ⟨T4, _, rfl, SqT.of upd_same, rfl, _, _, rfl, _, _, rfl, rfl, rfl, ?_⟩
            refine ⟨.ref ct, rfl, iv _, rfl, iv _, rfl, _, _, rfl, rfl, ct, _, _, iv (misZ (colAt (ss[i]).rs j) (colAt rs (col + j))), rfl, rfl, SqL.of ct4, ?_, .ref ct, rfl, iv _, rfl, ct, _, _, iv (cnt35 (colAt rs (col + j))), rfl, rfl, SqL.of ct4, ?_, _, _, rfl, rfl, _, s4 _ _ h4, ?_, same_over (sm4.trans s4) hD, ?_⟩
            · have e : Builtin.bitXor (numN (colAt (ss[i]).rs j) : Int) (numN (colAt rs (col + j)) : Int) = ((numN (colAt (ss[i]).rs j) ^^^ numN (colAt rs (col + j)) : Nat) : Int) := Bits.bitXor_pp (Int.natCast_nonneg _) (Int.natCast_nonneg _)
              rw [e]
              exact atI_nat (by rw [List.getElem?_map, cntL_at (Nat.xor_lt_two_pow b1 b2), pc_xor _ _ (by rw [cl1, cl2]) cg1 cg2]; rfl)
            · exact atI_nat (by rw [List.getElem?_map, cntL_at b2, pc_num]; rfl)
            · rw [List.length_map, List.length_take, List.length_map, List.length_range]
              have := ps.w1
              exact small1000 (by omega)
            · have en : ((List.range (ss[i]).w).map (wgt ss rs col i))[j]? = some (wgt ss rs col i j) := by
                rw [List.getElem?_map, List.getElem?_range hj]
                rfl
              rw [upd_same, take_snoc en, List.map_append, Hm j hj]
              rfl
          · rintro H4 ⟨sm4, h4⟩
            have e : ((List.range (ss[i]).w).map (wgt ss rs col i)).take ((nums (ss[i]).w (ss[i]).rs).map iv).length = (List.range (ss[i]).w).map (wgt ss rs col i) := List.take_of_length_le (by rw [e1, List.length_map, List.length_range]; exact Nat.le_refl _)
            rw [e] at h4
            refine ⟨D, (List.range (ss[i]).w).map (wgt ss rs col i), rfl, SqL.of h4, ?_, sp.trans sm4⟩
            unfold moreZ
            rw [ew]
            rfl
        rintro _ H5 ⟨rfl, s5⟩
        have hl5 := s5 _ _ hl2
        have hg5 := s5 _ _ hg2
        refine ⟨.ref g, rfl, .inl ⟨rfl, _, SqL.of hg5⟩, .int col, rfl, .int (i : Nat), rfl, by show 2 ≤ sizeLine; decide, fun p hp => ⟨.ref l, rfl, l, _, rfl, .inl (SqL.of (same_upd hp _ _ hl5)), .int (moreZ ss rs col i), rfl, by show 3 ≤ sizeLine; decide, fun t ht => ?_⟩⟩
        have s6 := same_upd (o := .tup [V.int (col : Nat), V.int (i : Nat)]) hp
        have s7 := same_upd (o := .tup [V.ref p, V.int (((nums (ss[i]).w (ss[i]).rs).map iv).length : Int), V.int (moreZ ss rs col i)]) ht
        have sA := (s5.trans s6).trans s7
        have hg7 := sA _ _ hg2
        have ng : ∀ b o, (∃ zs, o = HO.tup zs) → ∀ Hz : Hp, Hz g = some (.lst xs) → Hz b = some o → b ≠ g := by
          rintro b o ⟨zs, rfl⟩ Hz z1 z2 rfl
          rw [z1] at z2
          cases z2
        refine ⟨g, xs, .ref t, rfl, rfl, hg7, ?_, some (.int (i : Nat)), some (.ref l), some (.int ((col + (ss[i]).w : Nat) : Int)), some (.int (moreZ ss rs col i)), y9, y10, xs ++ [.ref t], rfl, ?_, upd_same, ?_⟩
        · have := fitN_len (ss := ss) (wide := wide) (col := col) (n := i)
          rw [W2.len]
          exact small1000 (by omega)
        · intro b o eb
          have hb := sA _ _ (sm2 _ _ eb)
          rw [upd_ne (fun z => ?_)]
          · exact hb
          · subst z
            rw [hg] at eb
            cases eb
        · rw [fitN_yes (by rw [ew]; exact hw)]
          have W7 := (W2.same sA).ext (H' := upd _ g (.lst (xs ++ [V.ref t]))) fun b o z e => by
            rw [upd_ne (ng b o z _ hg7 e)]
            exact e
          refine W7.add ⟨t, p, rfl, ?_, ?_⟩
          · rw [upd_ne (ng t _ ⟨_, rfl⟩ _ hg7 upd_same), upd_same, ew, e1]
          · rw [upd_ne (ng p _ ⟨_, rfl⟩ _ hg7 (s7 _ _ upd_same))]
            exact s7 _ _ upd_same
      · refine iteE (decide_eq_false (by omega)) ⟨_, _, _, y8, y9, y10, xs, rfl, sm2, hg2, ?_⟩
        rw [fitN_no (by rw [ew]; exact hw)]
        exact W2
    · rintro σ H2 ⟨y5, y6, y7, y8, y9, y10, xs, rfl, sm, hxs, W⟩
      rw [N.1] at W
      exact ⟨_, rfl, q g xs _ sm hg hxs W⟩
end
end Dt
namespace Dt
open PySem PySem.Spec PyProof.Rows L2 L2X
open SX (S)
/-! ### all windows of a line -/
structure AlpG (C : Addr) (H : Hp) (o : Addr) (high : Nat) (ss : List Sh) : Prop where
  al : AlpAt C H o high ss
  pr : ∀ s ∈ ss, PicR high s.w s.rs
  l1 : 0 < ss.length
  l16 : ss.length ≤ 16
theorem AlpG.same {C : Addr} {H H' : Hp} {o : Addr} {high : Nat} {ss : List Sh} (h : AlpG C H o high ss) (s : Same H H') : AlpG C H' o high ss := ⟨h.al.same s, h.pr, h.l1, h.l16⟩
/-- the windows of each column -/
def WinT (ss : List Sh) (rs : List (List Nat)) (wide : Nat) (H : Hp) (xs : List V) (n : Nat) : Prop := xs.length = n ∧ ∀ (c : Nat) (x : V), xs[c]? = some x → ∃ l ys, x = .ref l ∧ H l = some (.lst ys) ∧ Wns ss rs H c ys (fitN ss wide c ss.length)
theorem WinT.same {ss : List Sh} {rs : List (List Nat)} {wide n : Nat} {H H' : Hp} {xs : List V} (h : WinT ss rs wide H xs n) (s : Same H H') : WinT ss rs wide H' xs n :=
  ⟨h.1, fun c x e => let ⟨l, ys, e1, e2, W⟩ := h.2 c x e; ⟨l, ys, e1, s _ _ e2, W.same s⟩⟩
abbrev sWW : Stmt := topS 33
abbrev nWW : List Str := ["alphabet", "line", "counts", "drawn", "shapes", "_", "picture", "column"]
theorem scWW : FnScope nWW ["alphabet", "line"] (defScope sWW) := ⟨rfl, rfl, rfl, by decide +kernel, rfl, by decide +kernel, by decide +kernel⟩
def spWW (C : Addr) : Sp := fun vs H Q _ => ∃ (o a : Addr) (high wide : Nat) (ss : List Sh) (rs : List (List Nat)), vs = [.ref o, .ref a] ∧ AlpG C H o high ss ∧ H a = some (.tup (rs.map rv)) ∧ PicR high wide rs ∧ high ≤ 9 ∧ wide ≤ 60 ∧
  ∀ p xs H', Same H H' → H p = none → H' p = some (.lst xs) → WinT ss rs wide H' xs wide → Q (.ref p) H'
section
variable {P : Program} {w : World} {K : PySem.W.Frag} {mg : Str → Option Value} {base : Heap} {CA : Addr}
theorem ok_ww {f : Addr} {fd : FuncData} {k : Nat} (F : Fun K "window_costs" "window_costs" sWW f fd) (T : Tx mg) (TA : Tal K mg CA) (GS : Mm P w K mg base (k + 1) CA "shapes" ["self"] (spAS CA)) (GH : Mm P w K mg base (k + 1) CA "high" ["self"] (spAH CA))
    (GC : Pm P w K mg base CX0 (k + 1) "dot_counts" ["high"] spDC) (GN : Pm P w K mg base CX0 (k + 1) "column_numbers" ["picture"] spCN) (GW : Pm P w K mg base CX0 (k + 1) "_windows_at" ["column", "drawn", "shapes", "counts"] spWT) :
    FnOk P w K mg base CX0 (k + 2) f fd ["alphabet", "line"] (spWW CA) := by
  obtain ⟨fS, fdS, GS, mS, bS⟩ := GS.ex
  obtain ⟨fH, fdH, GH, mH, bH⟩ := GH.ex
  obtain ⟨fC, fdC, GC, mC, kC, bC⟩ := GC.ex
  obtain ⟨fN, fdN, GN, mN, kN, bN⟩ := GN.ex
  obtain ⟨fW, fdW, GW, mW, kW, bW⟩ := GW.ex
  refine F.ok scWW (fun vs H Q E h => ?_) (fun cdv A outer s H vs Q E hr h => ?_)
  · obtain ⟨o, a, _, _, _, _, rfl, _⟩ := h
    rfl
  · obtain ⟨o, a, high, wide, ss, rs, rfl, al, ha, pl, h9, w60, q⟩ := h
    have nd := scWW.nd
    refine ⟨_, C8.pss_cut (ps_set (i := 2) nd rfl (.inr rfl) (pe_call GC hr (by rfl) mC kC bC .nil pass0 (pa_cons (pe_meth0 (pv 0) TA.cl mH GH hr bH .nil pass0) pa_nil)))
      (C8.pss_cut (ps_set (i := 3) nd rfl (.inr rfl) (pe_call GN hr (by rfl) mN kN bN .nil pass0 (pa_cons (pv 1) pa_nil)))
      (C8.pss_cut (ps_set (i := 4) nd rfl (.inr rfl) (pe_lc (own := [("_", 5), ("picture", 6)]) (g := gTup K 2 (gCons (gName 5) (gCons (gName 6) gNil))) (tt := tYes) rfl nd (pi_list (pe_meth0 (pv 0) TA.cl mS GS hr bS .nil pass0)) (blkOk_by (N := nWW) (sc := defScope sWW) (by decide +kernel))
          (fun _ _ _ _ _ => pg_tup rfl (pgs_cons (pg_name (i := 5) nd rfl (Or.inl rfl)) (pgs_cons (pg_name (i := 6) nd rfl (Or.inl rfl)) pgs_nil))) (fun _ _ _ _ _ => pts_nil) (fun _ _ _ _ _ => pe_call GN hr (by rfl) mN kN bN .nil pass0 (pa_cons (pv 6) pa_nil))))
      (pss_one (ps_ret (pe_lc (own := [("column", 7)]) (g := gName 7) (tt := tYes) rfl nd (pi_range1 rfl T.range (pa_cons (pe_callB call_len_seq (by rfl) T.len PySem.boot_len (pa_cons (pv 3) pa_nil)) pa_nil)) (blkOk_by (N := nWW) (sc := defScope sWW) (by decide +kernel)) (fun _ _ _ _ _ => pg_name (i := 7) nd rfl (Or.inl rfl)) (fun _ _ _ _ _ => pts_nil)
          (fun _ _ _ _ _ => pe_call GW hr (by rfl) mW kW bW .nil pass0 (pa_cons (pv 7) (pa_cons (pv 3) (pa_cons (pv 4) (pa_cons (pv 2) pa_nil)))))))))), ?_⟩
    refine ⟨fun σ' H' => ∃ ct, σ' = [some (.ref o), some (.ref a), some (.ref ct), none, none, none, none, none] ∧ Same H H' ∧ H' ct = some (.lst ((cntL high).map iv)), ?_, ?_⟩
    · obtain ⟨dx, t, ys0, ho, hts, Ss⟩ := id al.al
      refine ⟨.ref o, rfl, o, dx, _, rfl, ho, aF_no _ _ (by decide +kernel) (by decide +kernel), o, high, ss, rfl, al.al, high, rfl, h9, fun p H1 s1 np hp => ⟨p, rfl, s1, hp⟩⟩
    rintro _ H1 ⟨ct, rfl, s1, hct⟩
    refine ⟨fun σ' H' => ∃ d, σ' = [some (.ref o), some (.ref a), some (.ref ct), some (.ref d), none, none, none, none] ∧ Same H1 H' ∧ H' d = some (.lst ((nums wide rs).map iv)), ?_, ?_⟩
    · exact ⟨.ref a, rfl, a, high, wide, rs, rfl, s1 _ _ ha, pl, fun p H2 s2 np hp => ⟨p, rfl, s2, hp⟩⟩
    rintro _ H2 ⟨d, rfl, s2, hd⟩
    have al2 := (al.same s1).same s2
    refine ⟨fun σ' H' => ∃ l ys, σ' = [some (.ref o), some (.ref a), some (.ref ct), some (.ref d), some (.ref l), none, none, none] ∧ Same H2 H' ∧ H' l = some (.lst ys) ∧ ShN H' ys ss, ?_, ?_⟩
    · obtain ⟨dx, t, ys0, ho, hts, Ss⟩ := id al2.al
      refine ⟨.ref o, rfl, o, dx, _, rfl, ho, aF_no _ _ (by decide +kernel) (by decide +kernel), o, high, ss, rfl, al2.al, fun l ys H3 s3 nl hl Sl => ⟨l, rfl, ⟨_, SqL.of hl⟩, fun D hD => lc_list (K := K) (a := l) (xs := ys) (fun i H4 => Same H3 H4 ∧ ∃ zs, H4 D = some (.lst zs) ∧ ShN H4 zs (ss.take i) ∧ V.ref D ∉ zs) ⟨same_upd hD, [], upd_same, ⟨rfl, fun i z s h => nomatch h⟩, List.not_mem_nil⟩ (fun i H4 _ z => SqL.of (z.1 _ _ hl)) ?_ ?_⟩⟩
      · rintro i y H4 hy ⟨sm, zs, h4, N4, nm⟩
        have hi : i < ss.length := by
          rw [← Sl.len]
          exact (List.getElem?_eq_some_iff.mp hy).1
        have es : ss[i]? = some ss[i] := List.getElem?_eq_getElem hi
        have ps := al.pr ss[i] (List.getElem_mem hi)
        generalize ss[i] = s' at es ps
        obtain ⟨t2, p2, rfl, ht2, hp2⟩ := Sl.at_ i y s' hy es
        have lz : zs.length = i := by
          rw [N4.1, List.length_take]
          omega
        refine ⟨t2, _, rfl, SqT.of (sm _ _ ht2), rfl, _, _, rfl, _, _, rfl, rfl, rfl, .ref p2, rfl, p2, high, s'.w, s'.rs, rfl, sm _ _ hp2, ps, fun p H5 s5 np hp => ⟨zs, s5 _ _ h4, ?_, same_over (sm.trans s5) hD, zs ++ [.ref p], upd_same, ?_, ?_⟩⟩
        · rw [lz]
          have := al.l16
          exact small1000 (by omega)
        · have nD : ∀ b o', H5 b = some o' → b ≠ D → upd H5 D (.lst (zs ++ [V.ref p])) b = some o' := fun b o' e n => by rw [upd_ne n]; exact e
          have pD : p ≠ D := by
            rintro rfl
            rw [h4] at np
            cases np
          refine ⟨by rw [take_snoc es, List.length_append, List.length_append, N4.1]; rfl, fun j z s2' a1 a2 => ?_⟩
          by_cases hj : j < zs.length
          · rw [List.getElem?_append_left hj] at a1
            rw [take_snoc es, List.getElem?_append_left (by rw [← N4.1]; exact hj)] at a2
            obtain ⟨l', e', q'⟩ := N4.2 j z s2' a1 a2
            refine ⟨l', e', nD _ _ (s5 _ _ q') ?_⟩
            rintro rfl
            rw [e'] at a1
            exact nm (List.mem_of_getElem? a1)
          · rw [List.getElem?_append_right (by omega)] at a1
            rw [take_snoc es, List.getElem?_append_right (by rw [← N4.1]; omega), ← N4.1] at a2
            cases e : j - zs.length with
            | zero =>
              rw [e] at a1 a2
              cases a1
              cases a2
              exact ⟨p, rfl, nD _ _ hp pD⟩
            | succ m =>
              rw [e] at a1
              simp at a1
        · intro z
          rcases List.mem_append.mp z with z | z
          · exact nm z
          · cases List.mem_singleton.mp z
            rw [h4] at np
            cases np
      · rintro H4 ⟨sm, zs, h4, N4, nm⟩
        have e : ss.take ys.length = ss := List.take_of_length_le (by rw [Sl.len]; exact Nat.le_refl _)
        rw [e] at N4
        exact ⟨D, zs, rfl, s3.trans sm, h4, N4⟩
    rintro _ H3 ⟨l, ys, rfl, s3, hl, N⟩
    have e2 : ((nums wide rs).map iv).length = wide := by rw [List.length_map, nums_len]
    refine ⟨.ref d, rfl, d, _, rfl, .inl (SqL.of (s3 _ _ hd)), (wide : Int), by rw [e2], by omega, by omega, fun D hD => lc_range (lo := 0) (n := wide) (fun i H4 => Same H3 H4 ∧ ∃ zs, H4 D = some (.lst zs) ∧ WinT ss rs wide H4 zs i ∧ V.ref D ∉ zs) ⟨same_upd hD, [], upd_same, ⟨rfl, fun i z h => nomatch h⟩, List.not_mem_nil⟩ ?_ ?_⟩
    · rintro i H4 hi ⟨sm, zs, h4, W4, nm⟩
      have ei : (0 : Int) + (i : Int) = (i : Int) := by omega
      rw [ei]
      have s34 := s3.trans sm
      refine ⟨rfl, .int i, rfl, .ref d, rfl, .ref l, rfl, .ref ct, rfl, d, l, ct, high, wide, i, ys, ss, rs, rfl, s34 _ _ hd, sm _ _ hl, N.same sm, s34 _ _ (s2 _ _ hct), al.pr, pl, h9, w60, al.l16, hi, fun p xs H5 s5 np hp Wp => ⟨zs, s5 _ _ h4, ?_, same_over (sm.trans s5) hD, zs ++ [.ref p], upd_same, ?_, ?_⟩⟩
      · rw [W4.1]
        exact small1000 (by omega)
      · have W5 := W4.same s5
        have pD : p ≠ D := by
          rintro rfl
          rw [h4] at np
          cases np
        have nT : ∀ b o, (∃ q, o = HO.tup q) → H5 b = some o → upd H5 D (.lst (zs ++ [V.ref p])) b = some o := by
          rintro b o ⟨q, rfl⟩ e
          rw [upd_ne (fun z => ?_)]
          · exact e
          · subst z
            rw [s5 _ _ h4] at e
            cases e
        refine ⟨by rw [List.length_append, W5.1]; rfl, fun c x e => ?_⟩
        by_cases hc : c < zs.length
        · rw [List.getElem?_append_left hc] at e
          obtain ⟨l', ys', rfl, q1, q2⟩ := W5.2 c x e
          refine ⟨l', ys', rfl, ?_, q2.ext nT⟩
          rw [upd_ne (fun z => nm (by rw [← z]; exact List.mem_of_getElem? e))]
          exact q1
        · rw [List.getElem?_append_right (by omega)] at e
          cases ec : c - zs.length with
          | zero =>
            rw [ec] at e
            cases e
            have ci : c = i := by
              have := W5.1
              omega
            rw [ci]
            refine ⟨p, xs, rfl, ?_, Wp.ext nT⟩
            rw [upd_ne pD]
            exact hp
          | succ m =>
            rw [ec] at e
            simp at e
      · intro z
        rcases List.mem_append.mp z with z | z
        · exact nm z
        · cases List.mem_singleton.mp z
          rw [h4] at np
          cases np
    · rintro H4 ⟨sm, zs, h4, W4, nm⟩
      exact q D zs _ ((((s1.trans s2).trans s3).trans sm)) ((((s1.trans s2).trans s3)).free hD) h4 W4
end
end Dt
namespace L2X
open PySem PySem.Spec PyProof.Rows L2
/-! ### {e for x in t ..}, t with nothing in it: any more clauses do not count -/
section
variable {prog : Program} {w : World} {A : Around} {R : Result → Shared → Prop} {s : Shared} {env : Env}
theorem setcomp_turn (elt target iter : Expr) (ifs : List Expr) (rest : List Comprehension) (scope : Scope) (pos : Pos) (it acc : Value) (env : Env) :
    ∃ F : Value → Sem PySem.Fin, compTurn (.SetComp elt (⟨target, iter, ifs, 0⟩ :: rest) scope pos) 0 it acc env = (do
      standAt iter.pos
      match ← pyNext it with
      | none => pure (.done .next)
      | some v => F v) := ⟨fun v => _, rfl⟩
theorem setcomp_none {elt target iter : Expr} {ifs : List Expr} {rest : List Comprehension} {scope : Scope} {pos : Pos} {it acc : Value}
    (h : wpAny (model prog w) A (pyNext it) (fun r s₁ => r = none ∧ R (.ok .next) s₁) (notedBy (model prog w) A env fun e s' => R (.error e) s') s) :
    codeAny (model prog w) A (.compLoop (.SetComp elt (⟨target, iter, ifs, 0⟩ :: rest) scope pos) 0 it acc env) R s := by
  refine codeAny_loop rfl (fun n t => t = s) (fun n t ht => ?_) 0 rfl
  subst ht
  show wpAny _ A ((compTurn (.SetComp elt (⟨target, iter, ifs, 0⟩ :: rest) scope pos) 0 it acc env).onRaise (fun x => do noteFrame x env; theTreesLotGoes x)) _ _ _
  refine wpAny_noted ?_
  obtain ⟨F, e⟩ := setcomp_turn elt target iter ifs rest scope pos it acc env
  rw [e]
  refine wpAny_bind (wpAny_standAt (wpAny_bind (wpAny_mono h (fun r s₁ h₁ => ?_) fun _ _ h' => h')))
  obtain ⟨rfl, h₁⟩ := h₁
  exact wpAny_pure h₁
end
section
variable {X : Cx}
def tSc0 (w : World) (wi : TI) : TE := fun σ H Q => wi σ H fun J H1 => ∀ D, H1 D = none → J.stop 0 (upd H1 D (SetO w D (fun _ => false) 0)) ∧ Q (.ref D) (upd H1 D (SetO w D (fun _ => false) 0))
theorem pe_sc0 {elt tg iter : Expr} {ifs : List Expr} {rest : List Comprehension} {scope : Scope} {own : List (PySem.Str × Nat)} {pos : Pos} {wi : TI} (hc : X.calm = true) (hN : X.N.Nodup) (hi : PI X tg iter wi) (ok : BlkOk X.N X.env.scope scope own)
    (hs : ∀ x, foldedSetIterable iter X.env x = pure x := by intro _; rfl) : PE X (.SetComp elt (⟨tg, iter, ifs, 0⟩ :: rest) scope pos) (tSc0 X.w wi) := by
  refine ⟨fun pins s σ H Q I h => ?_⟩
  rw [PpSet.eval_SetComp]
  have hfree : ∀ y ∈ scope.names, y.2 = .free → ∃ c, X.env.cells.lookup y.1 = some c := fun y hy e => by
    rcases ok.free y hy e with k | k
    · exact I.ok.has _ (.inl k)
    · exact I.ok.has _ (.inr k)
  refine wpAny_comprehension_free (use := none) rfl hs (closure_ok hfree) ok.kind (fun y hy e => by rw [ok.uniq y hy, e])
    (thn (hi.run pins s σ H _ I h) fun xv s1 hx => thn hx fun itv s2 h2 => ?_)
  obtain ⟨it, fp, tn, J, H2, e, I2, T, st2, f2, q⟩ := h2
  subst e
  refine PpSet.newSet_ok (newEnv_comp ?_)
  generalize hD : s2.heap.objs.size = D
  have hDn : H2 D = none := I2.hok.fresh (Nat.le_of_eq hD)
  obtain ⟨stop, qq⟩ := q D hDn
  generalize hs3 : ({ s2 with heap := s2.heap.push { cls := .type "set", dict := none, data := .set #[] 0 (.fresh 0 0 (!X.w.params.followText "set-order")) } } : Shared) = s3
  have I3 : Inv X pins σ (upd H2 D (SetO X.w D (fun _ => false) 0)) s3 := by
    rw [← hs3]
    refine I2.laid (t' := s2.toks) (fun b o e => Heap.get?_push_of_some _ e) (Nat.le_of_eq hD) ?_
    rw [← hD]
    exact setO_new (setR_fresh X.w)
  have h3 : s3.heap = s2.heap.push { cls := .type "set", dict := none, data := .set #[] 0 (.fresh 0 0 (!X.w.params.followText "set-order")) } := by rw [← hs3]
  have sz : ∀ b ∈ fp, b < s2.heap.objs.size := fun b hb => by
    obtain ⟨o, e, _⟩ := T.obj _ _ st2 b hb
    exact Heap.lt_size e
  have f3 : ∀ b ∈ fp, FpOk X pins (upd H2 D (SetO X.w D (fun _ => false) 0)) b ∧ b < s3.heap.objs.size := fun b hb => by
    have hlt := sz b hb
    refine ⟨⟨?_, (f2 b hb).2⟩, by rw [h3, Heap.size_push]; exact Nat.lt_succ_of_lt hlt⟩
    rw [upd_ne (by rw [← hD]; exact Nat.ne_of_lt hlt)]
    exact (f2 b hb).1
  have st3 : tn 0 s3.heap := T.keep _ _ _ st2 fun b _ o e => by rw [h3]; exact Heap.get?_push_of_some _ e
  have I4 := block_start I3 ok hN f3
  show codeAny _ _ (.compStart (.SetComp elt (⟨tg, iter, ifs, 0⟩ :: rest) scope pos) 0 (.ref it) (.ref D) (compEnvC scope (cellsFrom (s3.heap.objs.size + 1) scope.names (cloFrom X.env.cells scope.names [])) s3.heap.objs.size X.env)) (compPost (model X.prog X.w) X.A X.xe none (EP X pins σ Q) (.ref D) s3.heap.objs.size) { s3 with heap := pushCells (s3.heap.push { cls := .type "dict", data := .dict #[] }) scope.names }
  have nfp : ∀ b ∈ fp, (upd H2 D (SetO X.w D (fun _ => false) 0)) b = none := fun b hb => (f3 b hb).1.1
  generalize hce : compEnvC scope (cellsFrom (s3.heap.objs.size + 1) scope.names (cloFrom X.env.cells scope.names [])) s3.heap.objs.size X.env = ce at I4 ⊢
  have cL : ce.locals = s3.heap.objs.size := by subst hce; rfl
  generalize hH3 : upd H2 D (SetO X.w D (fun _ => false) 0) = H3 at I3 I4 nfp f3 stop qq
  generalize hs4 : ({ s3 with heap := pushCells (s3.heap.push { cls := .type "dict", data := .dict #[] }) scope.names } : Shared) = s4 at I4 ⊢
  have st4 : tn 0 s4.heap := T.keep _ _ _ st3 fun b _ o e => by rw [← hs4]; exact pushCells_keeps _ _ _ _ (Heap.get?_push_of_some _ e)
  have stat : ∀ b ∈ fp, FpOk (X.blk s3 H3 scope ce fp) [] H3 b := fun b hb =>
    ⟨nfp b hb, (I4.ok.exf b hb).1, I4.ok.exfs b hb, .inl hb, fun x c e => (I4.ok.exf b hb).2 x c e, fun p hp => absurd (show p ∈ ([] : List (Addr × Obj)) ++ [] from hp) (by simp)⟩
  have loop : codeAny (model X.prog X.w) X.A (.compLoop (.SetComp elt (⟨tg, iter, ifs, 0⟩ :: rest) scope pos) 0 (.ref it) (.ref D) ce) (compPost (model X.prog X.w) X.A X.xe none (EP X pins σ Q) (.ref D) s3.heap.objs.size) s4 := by
    refine setcomp_none ?_
    have td := T.done (X.blk s3 H3 scope ce fp) rfl rfl rfl hc 0 [] s4 _ H3 (fun _ _ => False) I4 stat st4 stop
    refine thnF td fun r s6 ⟨hr, I6⟩ => ?_
    subst hr
    have I7 : Inv X pins σ H3 s6 := I3.call' (ch := fp) I6.os I6.base I6.hok I6.bare fun b hb => ⟨(f3 b hb).1.2.2.2.1, (f3 b hb).1.2.1, (f3 b hb).1.2.2.2.2.1, (f3 b hb).1.2.2.2.2.2⟩
    have nC : H3 s3.heap.objs.size = none := by
      have z : H3 ce.locals = none := I6.free
      rw [cL] at z
      exact z
    obtain ⟨m, hn, _⟩ := I6.loc
    have hn : s6.heap.Ns ce.locals m := hn
    rw [cL] at hn
    obtain ⟨f0, f1, f2, f3', f4, f5⟩ := I3.fpOk (Nat.le_refl _) nC
    refine ⟨rfl, m, hn, fun h'' sb => ?_⟩
    exact ⟨.ref D, H3, I7.turned (t' := s6.toks) (fun b o hb e => (sb.2 b hb).trans e) f0 f1 f3' f4 f5, rfl, qq⟩
  exact PpSet.codeAny_compStart_set loop (T.self X.A 0 _ _ _ st4 loop)
end
end L2X
namespace L2X
open PySem PySem.Spec PyProof.Rows L2
/-! ### range(i, j) kept, and walked -/
def RngO (a : Addr) (i j c : Int) : HO := .ext fun h => ∃ t u v, IsRange h a i j c t u v
section
variable {X : Cx}
theorem cr_range2 : CallR X (.type "range") (fun vs H Q => ∃ i j, vs = [V.int i, V.int j] ∧ ∀ p, H p = none → Q (.ref p) (upd H p (RngO p i j 1))) := by
  intro pins s σ H vs us Q I r h
  obtain ⟨i, j, rfl, q⟩ := h
  cases r with
  | cons r rr =>
    cases rr with
    | cons r' rr =>
      cases rr
      obtain ⟨t, rfl⟩ := r
      obtain ⟨t', rfl⟩ := r'
      refine call_range_2 ?_
      refine ⟨.ref s.heap.objs.size, upd H s.heap.objs.size (RngO s.heap.objs.size i j 1), I.laid (t' := s.toks + 1) (fun b o e => Heap.get?_push_of_some _ e) (Nat.le_refl _) ?_, rfl, q _ (I.hok.fresh (Nat.le_refl _))⟩
      refine ⟨⟨t, t', s.toks, Heap.get?_push_size _ rfl⟩, ⟨_, Heap.get?_push_size _ rfl⟩, ?_⟩
      rintro h1 h2 ⟨t1, u1, v1, e⟩ k
      exact ⟨t1, u1, v1, k _ e⟩
def iRngO (te : TE) : TI := fun σ H R => te σ H fun x H1 => ∃ (a : Addr) (i j c : Int) (n : Nat), x = .ref a ∧ H1 a = some (RngO a i j c) ∧ RgC i j c n ∧ R (Itc i c n) H1
theorem pi_rngO {tg e : Expr} {te : TE} (he : PE X e te) : PI X tg e (iRngO te) := by
  refine ⟨fun pins s σ H R I h => ?_⟩
  refine thn (he.run pins s σ H _ I h) fun v s1 ⟨x, H1, I1, r1, q1⟩ => ?_
  obtain ⟨a, i, j, k, n, e, hq, ⟨c0, c1, c2, c3⟩, q⟩ := q1
  subst e
  cases r1
  obtain ⟨⟨t, u, v, hr⟩, _, _⟩ := I1.hok _ _ hq
  refine wpAny_pyIter_range hr c2 ?_
  refine pi_one (tk := s1.toks) I1 _ (turn_rangeC _ i k n) ?_ q
  have e1 : i + ((0 : Nat) : Int) * k = i := by simp
  have e2 : (n : Int) - ((0 : Nat) : Int) = Builtin.Range.rangeSize i j k := by rw [c3]; simp
  show IsRangeIter _ _ (i + ((0 : Nat) : Int) * k) ((n : Int) - ((0 : Nat) : Int)) k
  rw [e1, e2]
  exact Heap.get?_push_size _ rfl
/-! ### a dict comprehension over anything -/
theorem dc_by {J : It} {g : TG} {tt : TT} {tk tv : TE} {vs : List Nat} {σ : L2.St} {H1 : Hp} {D : Addr} {Qd : Hp → Prop} (n : Nat) (Pv : Nat → Hp → Prop) (h0 : Pv 0 (upd H1 D (.dK []))) (hstop : ∀ H, Pv n H → J.stop n H) (hgo : ∀ i H, i < n → Pv i H → J.go i H)
    (hs : ∀ i x H H', i < n → Pv i H → J.yld i H x H' → g x (wipe σ vs) H' fun σ2 H2 => wipe σ2 vs = wipe σ vs ∧ tt σ2 H2 fun b H3 =>
      if b = true then tk σ2 H3 fun y H4 => tv σ2 H4 fun z H5 => ∃ kvs k, y = kV k ∧ H5 D = some (.dK kvs) ∧ kvs.length < sizeLine ∧ Pv (i + 1) (upd H5 D (.dK (putK kvs k z))) else Pv (i + 1) H3) (hd : ∀ H, Pv n H → Qd H) :
    ∃ W : Nat → Nat → Hp → Prop, (∃ m, W 0 m (upd H1 D (.dK []))) ∧ ∀ i m H, W i m H →
      (J.stop i H ∧ Qd H) ∨ (J.go i H ∧ ∃ Nx : Hp → Prop, (∀ H', Nx H' → ∃ m', m' < m ∧ W (i + 1) m' H') ∧ ∀ x H', J.yld i H x H' → g x (wipe σ vs) H' fun σ2 H2 => wipe σ2 vs = wipe σ vs ∧ tt σ2 H2 fun b H3 =>
        if b = true then tk σ2 H3 fun y H4 => tv σ2 H4 fun z H5 => ∃ kvs k, y = kV k ∧ H5 D = some (.dK kvs) ∧ kvs.length < sizeLine ∧ Nx (upd H5 D (.dK (putK kvs k z))) else Nx H3) := by
  refine ⟨fun i m H => m = n - i ∧ i ≤ n ∧ Pv i H, ⟨n, by simp, Nat.zero_le _, h0⟩, ?_⟩
  rintro i m H ⟨rfl, hi, p⟩
  by_cases hlt : i < n
  · exact .inr ⟨hgo i H hlt p, Pv (i + 1), fun H' p' => ⟨n - (i + 1), by omega, rfl, hlt, p'⟩, fun x H' y => hs i x H H' hlt p y⟩
  · have e : i = n := by omega
    subst e
    exact .inl ⟨hstop H p, hd H p⟩
end
/-- name = {..} on one line, the name a local -/
theorem sw_trueD {kx vx : Expr} {gs : List Comprehension} {scope : Scope} {pos py : Pos} {y : PySem.Str} {l : Nat} {env : Env} (hk : env.scope.kind = .function) (hy : env.scope.names.lookup y = some .local) (hl : (py.line == pos.line) = true)
    (ha : (scope.names.any fun (n, k) => n == y && (k == .local || k == .cell)) = false) : swapsWith (.DictComp kx vx gs scope pos) (some (.Name y py)) l env = pure true := by
  have ky : env.kindOf y = some .local := hy
  have hb : env.blockKind = .function := by unfold Env.blockKind; rw [hk]; rfl
  unfold swapsWith
  simp only [hb, ky, ha, Expr.pos, hl]
  rfl
theorem ps_setDc {X : Cx} {i : Nat} {y : PySem.Str} {py : Pos} {kx vx tg iter : Expr} {ifs : List Expr} {scope : Scope} {own : List (PySem.Str × Nat)} {pos spos : Pos} {wi : TI} {g : TG} {tt : TT} {tk tv : TE} (hc : X.calm = true) (hN : X.N.Nodup) (hy : X.N[i]? = some y) (hyl : X.env.scope.names.lookup y = some .local)
    (hsw : swapsWith (.DictComp kx vx [⟨tg, iter, ifs, 0⟩] scope pos) (some (.Name y py)) spos.line X.env = pure true) (hi : PI X tg iter wi) (ok : BlkOk X.N X.env.scope scope own)
    (hg : ∀ (s : Shared) (H : Hp) (C : Addr) (cl : List (PySem.Str × Addr)) (fp : List Addr), PG (X.blk s H scope (compEnvC scope cl C X.env) fp) tg g) (ht : ∀ (s : Shared) (H : Hp) (C : Addr) (cl : List (PySem.Str × Addr)) (fp : List Addr), PTs (X.blk s H scope (compEnvC scope cl C X.env) fp) ifs tt)
    (hk : ∀ (s : Shared) (H : Hp) (C : Addr) (cl : List (PySem.Str × Addr)) (fp : List Addr), PE (X.blk s H scope (compEnvC scope cl C X.env) fp) kx tk)
    (he : ∀ (s : Shared) (H : Hp) (C : Addr) (cl : List (PySem.Str × Addr)) (fp : List Addr), PE (X.blk s H scope (compEnvC scope cl C X.env) fp) vx tv) (hs : ∀ x, foldedSetIterable iter X.env x = pure x := by intro _; rfl) :
    PS X (.Assign [.Name y py] (.DictComp kx vx [⟨tg, iter, ifs, 0⟩] scope pos) spos) (tAsg (tDc wi g tt tk tv (own.map (·.2))) (gName i)) := by
  refine ⟨fun pins s σ H D I h => ?_⟩
  rw [exec_Assign_Name_used _ _ _ _ hsw]
  refine wpAny_bind (wpAny_standAt (wpAny_bind ?_))
  show wpAny _ X.A (do let _ ← comprehension (.DictComp kx vx [⟨tg, iter, ifs, 0⟩] scope pos) scope X.env (firstIterPos [⟨tg, iter, ifs, 0⟩] pos) newDict false (eval iter X.env) (some (assign (.Name y py) X.env))) _ _ s
  have h : tDc wi g tt tk tv (own.map (·.2)) σ H (fun x H1 => gName i x σ H1 D.nx) := h
  refine wpAny_bind (thn (dc_core (Qf := fun _ s' => SP X pins D .next s') hc hN I hi ok hg ht hk he hs h fun L C s' m H' I' q hn f => ?_) fun _ s' hq => wpAny_pure (wpAny_pure hq))
  show wpAny _ _ (assign (.Name y py) X.env (.ref L)) _ _ _
  refine wpAny_assign_Name (store_ok2 (v := V.ref L) I' hN hy (.inl hyl) rfl (fun s2 I2 ⟨a, sb, ha⟩ => ?_) (.inr hyl))
  obtain ⟨f0, f1, f2, f3, f4, f5⟩ := f
  have haC : C ≠ a := by
    rcases ha with z | z
    · rw [z]; exact f1
    · exact fun e => f4 y a z e.symm
  refine ⟨m, hn.sameBut sb haC, fun h3 sb3 => ?_⟩
  exact ⟨_, H', I2.turned (t' := s2.toks) (fun b o hb e => (sb3.2 b hb).trans e) f0 f1 f3 f4 f5, q⟩
/-- k in d, a dict of ints or texts -/
theorem op_inK {X : Cx} (hu : X.A.units + 1 < cLine) : OpR X (compareOp .In) (fun x y H Q => ∃ a kvs k, x = kV k ∧ y = .ref a ∧ H a = some (.dK kvs) ∧ Q (.bl (valV kvs k).isSome) H) := by
  intro pins s σ H x y v u Q I rx ry h
  obtain ⟨a, kvs, k, rfl, rfl, ha, q⟩ := h
  obtain rfl : u = Value.ref a := ry
  exact d_in hu I (.inl ⟨kvs, k, .inl ha, rfl, rfl⟩) rx fun s3 I3 => ⟨.bl _, H, I3, rfl, q⟩
end L2X
namespace Dt
open PySem PySem.Spec PyProof.Rows L2 L2X
open SX (S)
/-! ### how words are spelt, where there are none -/
abbrev sSt : Stmt := topS 29
theorem scSt : FnScope ["at", "white", "blank"] ["at", "white", "blank"] (defScope sSt) := ⟨rfl, rfl, rfl, by decide +kernel, rfl, by decide +kernel, by decide +kernel⟩
def spSt : Sp := fun vs H Q _ => ∃ (a w b : Nat), vs = [.int a, .int w, .int b] ∧ a ≤ 1000 ∧ w ≤ 1000 ∧ b ≤ 1000 ∧ 1 ≤ a ∧ Q (.int (if w = b then 0 else 1 + ((a : Int) - 1) * b + w)) H
abbrev sKf : Stmt := topS 30
abbrev nKf : List Str := ["beginning", "begun", "alphabet", "prices", "blank", "numbers", "known", "number", "sign", "_", "to", "at", "other"]
theorem scKf : FnScope nKf ["beginning", "begun", "alphabet", "prices", "blank"] (defScope sKf) := ⟨rfl, rfl, rfl, by decide +kernel, rfl, by decide +kernel, by decide +kernel⟩
def spKf (C : Addr) : Sp := fun vs H Q _ => ∃ (b o p : Addr) (high : Nat) (ss : List Sh), vs = [.str "", .ref b, .ref o, .ref p, .int 1] ∧ H b = some (.lst [V.str ""]) ∧ AlpG C H o high ss ∧ ∀ d H', Same H H' → H d = none → H' d = some (.dK []) → Q (.ref d) H'
section
variable {P : Program} {w : World} {K : PySem.W.Frag} {mg : Str → Option Value} {base : Heap} {CA : Addr}
theorem ok_st {f : Addr} {fd : FuncData} {k : Nat} (F : Fun K "_state" "_state" sSt f fd) : FnOk P w K mg base CX0 (k + 1) f fd ["at", "white", "blank"] spSt := by
  refine F.ok scSt (fun vs H Q E h => ?_) (fun cdv A outer s H vs Q E hr h => ?_)
  · obtain ⟨a, w, b, rfl, _⟩ := h
    rfl
  · obtain ⟨a, w, b, rfl, a1, w1, b1, a0, q⟩ := h
    have nd := scSt.nd
    refine ⟨_, pss_cons (ps_if (pt_cmpR op_eq (pv 1) (pv 2) (nomark _)) (pss_one (ps_ret pe_int)) pss_nil)
      (pss_one (ps_ret (pe_op op_add (pe_op op_add pe_int (pe_op op_mul (pe_op op_sub (pv 0) pe_int) (pv 2))) (pv 1)))), ?_⟩
    refine ⟨.int w, rfl, .int b, rfl, rfl, _, rfl, ?_⟩
    by_cases h : w = b
    · rw [if_pos h] at q
      refine iteY (decide_eq_true (by rw [h])) q
    · rw [if_neg h] at q
      refine iteE (decide_eq_false fun z => h (by have := V.int.inj z; omega)) ?_
      exact ⟨.int a, rfl, _, _, rfl, rfl, .int b, rfl, _, _, rfl, rfl, .inl ⟨by omega, by omega⟩, _, _, rfl, rfl, .int w, rfl, _, _, rfl, rfl, q⟩
theorem ok_kf {f : Addr} {fd : FuncData} {k : Nat} (F : Fun K "_known_from" "_known_from" sKf f fd) (TA : Tal K mg CA) (en : mg "enumerate" = none) (GS : Mm P w K mg base (k + 1) CA "shapes" ["self"] (spAS CA)) (GT : Pm P w K mg base CX0 (k + 1) "_state" ["at", "white", "blank"] spSt) : FnOk P w K mg base CX0 (k + 2) f fd ["beginning", "begun", "alphabet", "prices", "blank"] (spKf CA) := by
  obtain ⟨fS, fdS, GS, mS, bS⟩ := GS.ex
  obtain ⟨fT, fdT, GT, mT, kT, bT⟩ := GT.ex
  refine F.ok scKf (fun vs H Q E h => ?_) (fun cdv A outer s H vs Q E hr h => ?_)
  · obtain ⟨b, o, p, _, _, rfl, _⟩ := h
    rfl
  · obtain ⟨b, o, p, high, ss, rfl, hb, al, q⟩ := h
    have nd := scKf.nd
    have hu : (A.deeper (envOfC "_known_from" (defScope sKf) s.heap.objs.size f cdv)).units + 1 < cLine := by
      have := hr.un
      omega
    refine ⟨_, C8.pss_cut (ps_setDc (i := 5) (own := [("at", 11), ("other", 12)]) (g := gTup K 2 (gCons (gName 11) (gCons (gName 12) gNil))) (tt := tYes) rfl nd rfl rfl (sw_trueD rfl rfl rfl (by decide +kernel)) (pi_enumG (by rfl) en (pa_cons (pv 1) pa_nil)) (blkOk_by (N := nKf) (sc := defScope sKf) (by decide +kernel))
          (fun _ _ _ _ _ => pg_tup rfl (pgs_cons (pg_name (i := 11) nd rfl (Or.inl rfl)) (pgs_cons (pg_name (i := 12) nd rfl (Or.inl rfl)) pgs_nil))) (fun _ _ _ _ _ => pts_nil) (fun _ _ _ _ _ => pv 12) (fun _ _ _ _ _ => pv 11))
      (C8.pss_cut (ps_set (i := 6) nd rfl (.inl rfl) pe_dnewK)
      (pss_cons (ps_for PassesOwn.never rfl (pi_enumG (by rfl) en (pa_cons (pe_meth0 (pv 2) TA.cl mS GS hr bS .nil pass0) pa_nil)) (pg_tup rfl (pgs_cons (pg_name (i := 7) nd rfl (Or.inl rfl)) (pgs_cons (pg_tup rfl (pgs_cons (pg_name (i := 8) nd rfl (Or.inl rfl)) (pgs_cons (pg_name (i := 9) nd rfl (Or.inl rfl)) pgs_nil))) pgs_nil)))
        (pss_one (ps_if (pt_cmpR (op_inK hu) (pe_op op_add_str (pv 0) (pv 8)) (pv 5) (by with_unfolding_all rfl)) pss_never pss_nil)))
      (pss_one (ps_ret (pv 6))))), ?_⟩
    refine ⟨fun σ' H' => ∃ nm, σ' = [some (.str ""), some (.ref b), some (.ref o), some (.ref p), some (.int 1), some (.ref nm), none, none, none, none, none, none, none] ∧ Same H H' ∧ H' nm = some (.dK [(.inr "", V.int 0)]), ?_, ?_⟩
    · refine ⟨.ref b, rfl, .lst b, [V.str ""], rfl, SqL.of hb, fun D hD => dc_by 1 (fun i H2 => Same H H2 ∧ H2 D = some (.dK (if i = 0 then [] else [(.inr "", V.int 0)]))) ⟨same_upd hD, upd_same⟩ (fun H2 z => ⟨_, SqL.of (z.1 _ _ hb), rfl⟩) (fun i H2 hi z => ⟨_, V.str "", SqL.of (z.1 _ _ hb), by
        obtain rfl : i = 0 := by omega
        rfl⟩) ?_ ?_⟩
      · rintro i x H2 H3 hi ⟨sm, h2⟩ ⟨T, y, rfl, nT, rfl, hy⟩
        obtain rfl : i = 0 := by omega
        have ey := hy _ (SqL.of (sm _ _ hb))
        cases ey
        have sT := same_upd (o := .tup [V.int (0 : Nat), V.str ""]) nT
        refine ⟨T, _, rfl, SqT.of upd_same, rfl, _, _, rfl, _, _, rfl, rfl, rfl, .str "", rfl, .int 0, rfl, [], .inr "", rfl, sT _ _ h2, by show 0 < sizeLine; decide, same_over (sm.trans sT) hD, ?_⟩
        rw [upd_same]
        rfl
      · rintro H2 ⟨sm, h2⟩
        exact ⟨D, rfl, sm, h2⟩
    rintro _ H1 ⟨nm, rfl, s1, hn⟩
    refine ⟨fun σ' H' => ∃ kn, σ' = [some (.str ""), some (.ref b), some (.ref o), some (.ref p), some (.int 1), some (.ref nm), some (.ref kn), none, none, none, none, none, none] ∧ Same H1 H' ∧ H kn = none ∧ H' kn = some (.dK []), ?_, ?_⟩
    · exact fun d hd => ⟨d, rfl, same_upd hd, s1.free hd, upd_same⟩
    rintro _ H2 ⟨kn, rfl, s2, nk, hk⟩
    have al2 := (al.same s1).same s2
    obtain ⟨dx, t, ys0, ho, hts, Ss⟩ := id al2.al
    refine ⟨.ref o, rfl, o, dx, _, rfl, ho, aF_no _ _ (by decide +kernel) (by decide +kernel), o, high, ss, rfl, al2.al, fun l ys H3 s3 nl hl Sl => ⟨.lst l, ys, rfl, SqL.of hl, for_enumG (K := K) (A := .lst l) (xs := ys) (fun i σ H4 => ∃ y7 y8 y9, σ = [some (.str ""), some (.ref b), some (.ref o), some (.ref p), some (.int 1), some (.ref nm), some (.ref kn), y7, y8, y9, none, none, none] ∧ Same H3 H4) ⟨none, none, none, rfl, Same.refl H3⟩ (fun i σ H4 _ z => by
      obtain ⟨_, _, _, _, sm⟩ := z
      exact SqL.of (sm _ _ hl)) ?_ ?_⟩⟩
    · rintro i x σ H4 T' hx ⟨y7, y8, y9, rfl, sm⟩ hT
      have hi : i < ss.length := by
        rw [← Sl.len]
        exact (List.getElem?_eq_some_iff.mp hx).1
      have es : ss[i]? = some ss[i] := List.getElem?_eq_getElem hi
      generalize ss[i] = s' at es
      obtain ⟨t2, p2, rfl, ht2, hp2⟩ := Sl.at_ i x s' hx es
      have sT := same_upd (o := .tup [V.int (i : Nat), V.ref t2]) hT
      have hn4 := sT _ _ (sm _ _ (s3 _ _ (s2 _ _ hn)))
      refine ⟨T', _, rfl, SqT.of upd_same, rfl, _, _, rfl, _, _, rfl, ⟨t2, _, rfl, SqT.of (sT _ _ (sm _ _ ht2)), rfl, _, _, rfl, _, _, rfl, rfl, rfl, ?_⟩⟩
      refine ⟨.str "", rfl, ch s'.sg, rfl, "", ⟨#[s'.sg]⟩, rfl, rfl, by show 0 + 1 ≤ sizeLine; decide, .ref nm, rfl, nm, _, .inr _, rfl, rfl, hn4, _, rfl, iteE ?_ ⟨_, _, _, rfl, sm.trans sT⟩⟩
      rw [valV_neg]
      · rfl
      · intro z
        have e : ("" : Str) = "" ++ S [s'.sg] := Sum.inr.inj z
        rw [s_empty, SX.S_cat] at e
        exact absurd (SX.S_inj e) (by simp)
    · rintro σ H4 ⟨y7, y8, y9, rfl, sm⟩
      exact ⟨_, rfl, q kn _ (((s1.trans s2).trans s3).trans sm) nk (sm _ _ (s3 _ _ hk))⟩
end
end Dt
namespace Dt
open PySem PySem.Spec PyProof.Rows L2 L2X
open SX (S)
abbrev cSp : Stmt := topS 28
abbrev sSI : Stmt := inClass cSp 0
abbrev nSI : List Str := ["self", "alphabet", "words", "strange", "blank", "begun", "inside", "prices", "word", "end", "at", "_", "white", "beginning", "price"]
theorem scSI : FnScope nSI ["self", "alphabet", "words", "strange", "blank"] (defScope sSI) := ⟨rfl, rfl, rfl, by decide +kernel, rfl, by decide +kernel, by decide +kernel⟩
/-- the class Spelling as the top has made it -/
structure Tsp (K : PySem.W.Frag) (mg : Str → Option Value) (C : Addr) : Prop where
  cl : Cls K C
  n1 : NoAttr K C "blank"
  n2 : NoAttr K C "beginnings"
  n3 : NoAttr K C "behind_white"
  n4 : NoAttr K C "strange_state"
  n5 : NoAttr K C "strange_prices"
  n6 : NoAttr K C "known"
  mC : mg "Spelling" = some (.ref C)
/-- the fields of the spelling where there are no words -/
structure SplF (H : Hp) (fs : List (Str × V)) : Prop where
  st : fs.lookup ("step" : Str) = none
  be : ∃ l, fs.lookup ("beginnings" : Str) = some (.ref l) ∧ H l = some (.lst [V.int 0, V.int 1])
  bw : ∃ l, fs.lookup ("behind_white" : Str) = some (.ref l) ∧ H l = some (.lst [V.int 0, V.int 0])
  ss : fs.lookup ("strange_state" : Str) = some (.int 1)
  sp : ∃ l, fs.lookup ("strange_prices" : Str) = some (.ref l) ∧ H l = some (.lst [V.int 0, V.int 0])
  kn : ∃ l d1 d2, fs.lookup ("known" : Str) = some (.ref l) ∧ H l = some (.lst [V.ref d1, V.ref d2]) ∧ H d1 = some (.dK []) ∧ H d2 = some (.dK [])
def SplAt (C : Addr) (H : Hp) (o : Addr) : Prop := ∃ dx fs, H o = some (.ins C dx fs) ∧ SplF H fs
def But (p : Addr) (H H' : Hp) : Prop := ∀ b o, H b = some o → b ≠ p → H' b = some o
/-- while the spelling is made -/
structure SR (C : Addr) (H0 H : Hp) (p dx bg rg : Addr) (fs : List (Str × V)) : Prop where
  b : But p H0 H
  hp : H p = some (.ins C dx fs)
  hb : H bg = some (.lst [V.str ""])
  hr : H rg = some (RngO rg 1 2 1)
theorem SR.same {C : Addr} {H0 H H' : Hp} {p dx bg rg : Addr} {fs : List (Str × V)} (h : SR C H0 H p dx bg rg fs) (s : Same H H') : SR C H0 H' p dx bg rg fs :=
  ⟨fun b o e n => s _ _ (h.b b o e n), s _ _ h.hp, s _ _ h.hb, s _ _ h.hr⟩
theorem ne_ins {H : Hp} {p b C dx : Addr} {fs : List (Str × V)} {o : HO} (hp : H p = some (.ins C dx fs)) (hb : H b = some o) (n : ∀ C' dx' fs', o ≠ .ins C' dx' fs') : b ≠ p := by
  rintro rfl
  rw [hp] at hb
  cases hb
  exact n _ _ _ rfl
theorem SR.put {C : Addr} {H0 H : Hp} {p dx bg rg : Addr} {fs gs : List (Str × V)} (h : SR C H0 H p dx bg rg fs) : SR C H0 (upd H p (.ins C dx gs)) p dx bg rg gs :=
  ⟨fun b o e n => by
    rw [upd_ne n]
    exact h.b b o e n, upd_same, by
    rw [upd_ne (ne_ins h.hp h.hb fun _ _ _ z => nomatch z)]
    exact h.hb, by
    rw [upd_ne (ne_ins h.hp h.hr fun _ _ _ z => nomatch z)]
    exact h.hr⟩
/-- what stays when the fields of p change -/
theorem put_at {C : Addr} {H : Hp} {p b dx : Addr} {fs gs : List (Str × V)} {o : HO} (hp : H p = some (.ins C dx fs)) (hb : H b = some o) (n : ∀ C' dx' fs', o ≠ .ins C' dx' fs') : upd H p (.ins C dx gs) b = some o := by
  rw [upd_ne (ne_ins hp hb n)]
  exact hb
theorem put_l {C : Addr} {H : Hp} {p b dx : Addr} {fs gs : List (Str × V)} {xs : List V} (hp : H p = some (.ins C dx fs)) (hb : H b = some (.lst xs)) : upd H p (.ins C dx gs) b = some (.lst xs) := put_at hp hb fun _ _ _ z => nomatch z
theorem put_d {C : Addr} {H : Hp} {p b dx : Addr} {fs gs : List (Str × V)} {xs : List (Key × V)} (hp : H p = some (.ins C dx fs)) (hb : H b = some (.dK xs)) : upd H p (.ins C dx gs) b = some (.dK xs) := put_at hp hb fun _ _ _ z => nomatch z
theorem AlpG.but {C CA : Addr} {H H' : Hp} {p o dx high : Nat} {fs : List (Str × V)} {ss : List Sh} (h : AlpG CA H o high ss) (b : But p H H') (n : o ≠ p) (hp : H p = some (.ins C dx fs)) : AlpG CA H' o high ss := by
  obtain ⟨⟨dx', t, xs, h1, h2, h3⟩, x1, x2, x3⟩ := h
  have tp : ∀ a zs, H a = some (.tup zs) → H' a = some (.tup zs) := fun a zs e => b _ _ e (ne_ins hp e fun _ _ _ z => nomatch z)
  exact ⟨⟨dx', t, xs, b _ _ h1 n, tp _ _ h2, h3.len, fun i x s a c => let ⟨t', p', e, e1, e2⟩ := h3.at_ i x s a c; ⟨t', p', e, tp _ _ e1, tp _ _ e2⟩⟩, x1, x2, x3⟩
def spSI (C CA : Addr) : Sp := fun vs H Q _ => ∃ (p dx o t : Addr) (high : Nat) (ss : List Sh), vs = [.ref p, .ref o, .ref t, .int 0, .int 1] ∧ H p = some (.ins C dx []) ∧ AlpG CA H o high ss ∧ p ≠ o ∧ H t = some (.tup []) ∧ ∀ H', SplAt C H' p → But p H H' → Q .non H'
section
variable {P : Program} {w : World} {K : PySem.W.Frag} {mg : Str → Option Value} {base : Heap} {C CA : Addr}
theorem ok_si {f : Addr} {fd : FuncData} {k : Nat} (F : Fun K "__init__" "Spelling.__init__" sSI f fd) (T : Tx mg) (SP : Tsp K mg C) (so : mg "sorted" = none) (GT : Pm P w K mg base CX0 (k + 1) "_state" ["at", "white", "blank"] spSt) (GK : Pm P w K mg base CX0 (k + 1) "_known_from" ["beginning", "begun", "alphabet", "prices", "blank"] (spKf CA)) :
    FnOk P w K mg base CX0 (k + 2) f fd ["self", "alphabet", "words", "strange", "blank"] (spSI C CA) := by
  obtain ⟨fT, fdT, GT, mT, kT, bT⟩ := GT.ex
  obtain ⟨fK, fdK, GK, mK, kK, bK⟩ := GK.ex
  refine F.ok scSI (fun vs H Q E h => ?_) (fun cdv A outer s H vs Q E hr h => ?_)
  · obtain ⟨p, dx, o, t, _, _, rfl, _⟩ := h
    rfl
  · obtain ⟨p, dx, o, t, high, ss, rfl, hp, al, po, ht, q⟩ := h
    have nd := scSI.nd
    refine ⟨_, C8.pss_cut (ps_set (i := 5) nd rfl (.inr rfl) (pe_lst (pa_cons pe_str (StX.pa_star (pe_callB (cr_sortedSet rfl) (by rfl) so (by decide +kernel) (pa_cons (pe_sc0 (own := [("word", 8), ("end", 9)]) rfl nd (pi_tup (pv 2)) (blkOk_by (N := nSI) (sc := defScope sSI) (by decide +kernel))) pa_nil)) pa_nil))))
      (C8.pss_cut (ps_set (i := 6) nd rfl (.inl rfl) (pe_callTy cr_range2 (by rfl) T.range (by decide +kernel) (pa_cons pe_int (pa_cons (pe_op op_add (pe_callB call_len_seq (by rfl) T.len PySem.boot_len (pa_cons (pv 5) pa_nil)) pe_int) pa_nil))))
      (pss_cons (ps_fld (pv 0) (pv 4) rfl)
      (C8.pss_cut (ps_fld (pv 0) (pe_op op_cat (pe_lst (pa_cons pe_int pa_nil)) (pe_lc2 (own := [("at", 10), ("_", 11)]) (vs1 := [11]) (g := gName 10) (tt := tYes) (g1 := gName 11) (tt1 := tYes) rfl nd (pi_rngO (pv 6)) (blkOk_by (N := nSI) (sc := defScope sSI) (by decide +kernel)) (by decide +kernel) (fun _ _ _ _ _ => pg_name (i := 10) nd rfl (Or.inl rfl)) (fun _ _ _ _ _ => pts_nil)
          (fun _ _ _ _ _ => pi_range1 rfl T.range (pa_cons (pv 4) pa_nil)) (fun _ _ _ _ _ => pg_name (i := 11) nd rfl (Or.inl rfl)) (fun _ _ _ _ _ => pts_nil) (fun _ _ _ _ _ => pv 10))) rfl)
      (C8.pss_cut (ps_fld (pv 0) (pe_op op_cat (pe_lst (pa_cons pe_int pa_nil)) (pe_lc2 (own := [("at", 10), ("white", 12)]) (vs1 := [12]) (g := gName 10) (tt := tYes) (g1 := gName 12) (tt1 := tYes) rfl nd (pi_rngO (pv 6)) (blkOk_by (N := nSI) (sc := defScope sSI) (by decide +kernel)) (by decide +kernel) (fun _ _ _ _ _ => pg_name (i := 10) nd rfl (Or.inl rfl)) (fun _ _ _ _ _ => pts_nil)
          (fun _ _ _ _ _ => pi_range1 rfl T.range (pa_cons (pv 4) pa_nil)) (fun _ _ _ _ _ => pg_name (i := 12) nd rfl (Or.inl rfl)) (fun _ _ _ _ _ => pts_nil) (fun _ _ _ _ _ => pe_call GT hr (by rfl) mT kT bT .nil pass0 (pa_cons (pv 10) (pa_cons (pe_op op_add (pv 12) pe_int) (pa_cons (pv 4) pa_nil)))))) rfl)
      (C8.pss_cut (ps_set (i := 7) nd rfl (.inr rfl) (pe_op op_cat (pe_lc (own := [("beginning", 13)]) (g := gName 13) (tt := tYes) rfl nd (pi_list (pv 5)) (blkOk_by (N := nSI) (sc := defScope sSI) (by decide +kernel)) (fun _ _ _ _ _ => pg_name (i := 13) nd rfl (Or.inl rfl)) (fun _ _ _ _ _ => pts_nil)
          (fun _ _ _ _ _ => pe_ifExp (PW.pt (pw_or (pt_cmpR op_eq (pv 13) pe_str (nomark _)) (pw_or1 (pt_cmpR (r := rIn K false) op_in_seq (pv 13) (pv 2) (by with_unfolding_all rfl))))) pe_int (pv 3))) (pe_lst (pa_cons (pv 3) pa_nil))))
      (C8.pss_cut (ps_fld (pv 0) (pe_call GT hr (by rfl) mT kT bT .nil pass0 (pa_cons (pe_callB call_len_seq (by rfl) T.len PySem.boot_len (pa_cons (pv 5) pa_nil)) (pa_cons pe_int (pa_cons (pv 4) pa_nil)))) rfl)
      (C8.pss_cut (ps_fld (pv 0) (pe_lc (own := [("price", 14)]) (g := gName 14) (tt := tYes) rfl nd (pi_list (pv 7)) (blkOk_by (N := nSI) (sc := defScope sSI) (by decide +kernel)) (fun _ _ _ _ _ => pg_name (i := 14) nd rfl (Or.inl rfl)) (fun _ _ _ _ _ => pts_nil) (fun _ _ _ _ _ => pe_op op_sub (pv 3) (pv 14))) rfl)
      (pss_one (ps_fld (pv 0) (pe_op op_cat (pe_lc (own := [("beginning", 13)]) (g := gName 13) (tt := tYes) rfl nd (pi_list (pv 5)) (blkOk_by (N := nSI) (sc := defScope sSI) (by decide +kernel)) (fun _ _ _ _ _ => pg_name (i := 13) nd rfl (Or.inl rfl)) (fun _ _ _ _ _ => pts_nil)
          (fun _ _ _ _ _ => pe_call GK hr (by rfl) mK kK bK .nil pass0 (pa_cons (pv 13) (pa_cons (pv 5) (pa_cons (pv 1) (pa_cons (pv 7) (pa_cons (pv 4) pa_nil))))))) (pe_lst (pa_cons pe_dnewK pa_nil))) rfl))))))))), ?_⟩
    have hr1 : RgC 1 2 1 1 := ⟨by decide, by decide, by decide +kernel, by decide +kernel⟩
    have pl : ∀ (fs : List (Str × V)) (g : Str) (v : V) (n : Nat), fs.length ≤ n → (putF g v fs).length ≤ n + 1 := fun fs g v n h => Nat.le_trans (length_putF _ _ _) (Nat.succ_le_succ h)
    have l0 : ([] : List (Str × V)).length ≤ 0 := Nat.le_refl _
    have l1 := pl _ "blank" (V.int 1) _ l0
    refine ⟨fun σ' H' => ∃ bg, σ' = [some (.ref p), some (.ref o), some (.ref t), some (.int 0), some (.int 1), some (.ref bg), none, none, none, none, none, none, none, none, none] ∧ Same H H' ∧ H' bg = some (.lst [V.str ""]), ?_, ?_⟩
    · refine ⟨.ref t, rfl, t, rfl, ⟨[], SqT.of ht⟩, fun D hD => ⟨⟨[], SqT.of (same_upd hD _ _ ht), Nat.le_refl _⟩, D, fun _ => false, 0, rfl, upd_same, by decide, fun ns p2 pw mem len hp2 => ?_⟩⟩
      have en : ns = [] := List.eq_nil_of_length_eq_zero len
      subst en
      refine ⟨p2, [], rfl, .inr (SqL.of upd_same), by show 1 ≤ sizeLine; decide, fun l hl => ⟨l, rfl, ((same_upd hD).trans (same_upd hp2)).trans (same_upd hl), upd_same⟩⟩
    rintro _ H1 ⟨bg, rfl, s1, hb⟩
    refine ⟨fun σ' H' => ∃ rg, σ' = [some (.ref p), some (.ref o), some (.ref t), some (.int 0), some (.int 1), some (.ref bg), some (.ref rg), none, none, none, none, none, none, none, none] ∧ SR C H H' p dx bg rg [], ?_, ?_⟩
    · refine ⟨.ref bg, rfl, bg, _, rfl, .inl (SqL.of hb), _, _, rfl, rfl, 1, 2, rfl, fun rg hrg => ⟨rg, rfl, fun b o' e _ => same_upd hrg _ _ (s1 _ _ e), same_upd hrg _ _ (s1 _ _ hp), same_upd hrg _ _ hb, upd_same⟩⟩
    rintro _ H2 ⟨rg, rfl, R2⟩
    refine ⟨.int 1, rfl, .ref p, rfl, p, C, dx, [], rfl, R2.hp, SP.cl, SP.n1, by decide, ?_⟩
    have R3 := R2.put (gs := putF "blank" (.int 1) [])
    generalize upd H2 p (.ins C dx (putF "blank" (.int 1) [])) = H3 at R3
    -- the beginnings
    refine ⟨fun σ' H' => ∃ lb, σ' = [some (.ref p), some (.ref o), some (.ref t), some (.int 0), some (.int 1), some (.ref bg), some (.ref rg), none, none, none, none, none, none, none, none] ∧ SR C H H' p dx bg rg (putF "beginnings" (.ref lb) (putF "blank" (.int 1) [])) ∧ H' lb = some (.lst [V.int 0, V.int 1]), ?_, ?_⟩
    · refine ⟨by show 1 ≤ sizeLine; decide, fun l hl => ⟨.ref rg, rfl, rg, 1, 2, 1, 1, rfl, same_upd hl _ _ R3.hr, hr1, fun D hD => lc2_by 1 (fun i H4 => Same (upd H3 l (.lst [V.int 0])) H4 ∧ H4 D = some (.lst (if i = 0 then [] else [V.int 1]))) ⟨same_upd hD, upd_same⟩ (fun _ _ => Nat.le_refl _) (fun i _ hi _ => hi) ?_ ?_⟩⟩
      · rintro i x H4 H5 hi ⟨sm, h4⟩ ⟨rfl, rfl⟩
        obtain rfl : i = 0 := by omega
        refine ⟨rfl, .int 1, rfl, 1, rfl, by omega, by omega, lc2_in 1 (fun j H6 => Same (upd H3 l (.lst [V.int 0])) H6 ∧ H6 D = some (.lst (if j = 0 then [] else [V.int 1]))) ⟨sm, h4⟩ (fun _ _ => Nat.le_refl _) (fun j _ hj _ => hj) ?_ ?_⟩
        · rintro j x H6 H7 hj ⟨sm6, h6⟩ ⟨rfl, rfl⟩
          obtain rfl : j = 0 := by omega
          exact ⟨rfl, _, rfl, _, h6, by show 0 < sizeLine; decide, same_over sm6 hD, upd_same⟩
        · exact fun H6 z => z
      · rintro H4 ⟨sm, h4⟩
        have h4 : H4 D = some (.lst [V.int 1]) := h4
        have hl4 := sm _ _ upd_same
        refine ⟨l, D, _, _, rfl, rfl, hl4, h4, by show 2 ≤ sizeLine; decide, fun r hr' => ?_⟩
        have sA := ((same_upd (o := .lst [V.int 0]) hl).trans sm).trans (same_upd (o := .lst ([V.int 0] ++ [V.int 1])) hr')
        have RA := R3.same sA
        exact ⟨.ref p, rfl, p, C, dx, _, rfl, RA.hp, SP.cl, SP.n2, by omega, r, rfl, RA.put, put_l RA.hp upd_same⟩
    rintro _ H4 ⟨lb, rfl, R4, hlb⟩
    -- where white leads
    refine ⟨fun σ' H' => ∃ lw, σ' = [some (.ref p), some (.ref o), some (.ref t), some (.int 0), some (.int 1), some (.ref bg), some (.ref rg), none, none, none, none, none, none, none, none] ∧ SR C H H' p dx bg rg (putF "behind_white" (.ref lw) (putF "beginnings" (.ref lb) (putF "blank" (.int 1) []))) ∧ H' lb = some (.lst [V.int 0, V.int 1]) ∧ H' lw = some (.lst [V.int 0, V.int 0]), ?_, ?_⟩
    · refine ⟨by show 1 ≤ sizeLine; decide, fun l hl => ⟨.ref rg, rfl, rg, 1, 2, 1, 1, rfl, same_upd hl _ _ R4.hr, hr1, fun D hD => lc2_by 1 (fun i H5 => Same (upd H4 l (.lst [V.int 0])) H5 ∧ H5 D = some (.lst (if i = 0 then [] else [V.int 0]))) ⟨same_upd hD, upd_same⟩ (fun _ _ => Nat.le_refl _) (fun i _ hi _ => hi) ?_ ?_⟩⟩
      · rintro i x H5 H6 hi ⟨sm, h5⟩ ⟨rfl, rfl⟩
        obtain rfl : i = 0 := by omega
        refine ⟨rfl, .int 1, rfl, 1, rfl, by omega, by omega, lc2_in 1 (fun j H6 => Same (upd H4 l (.lst [V.int 0])) H6 ∧ H6 D = some (.lst (if j = 0 then [] else [V.int 0]))) ⟨sm, h5⟩ (fun _ _ => Nat.le_refl _) (fun j _ hj _ => hj) ?_ ?_⟩
        · rintro j x H6 H7 hj ⟨sm6, h6⟩ ⟨rfl, rfl⟩
          obtain rfl : j = 0 := by omega
          exact ⟨rfl, _, rfl, _, rfl, _, _, rfl, rfl, .int 1, rfl, 1, 1, 1, rfl, by decide, by decide, by decide, by decide, _, h6, by show 0 < sizeLine; decide, same_over sm6 hD, upd_same⟩
        · exact fun H6 z => z
      · rintro H5 ⟨sm, h5⟩
        have h5 : H5 D = some (.lst [V.int 0]) := h5
        have hl5 := sm _ _ upd_same
        refine ⟨l, D, _, _, rfl, rfl, hl5, h5, by show 2 ≤ sizeLine; decide, fun r hr' => ?_⟩
        have sA := ((same_upd (o := .lst [V.int 0]) hl).trans sm).trans (same_upd (o := .lst ([V.int 0] ++ [V.int 0])) hr')
        have RA := R4.same sA
        exact ⟨.ref p, rfl, p, C, dx, _, rfl, RA.hp, SP.cl, SP.n3, by
          have l2 := pl _ "beginnings" (V.ref lb) _ l1
          omega, r, rfl, RA.put, put_l RA.hp (sA _ _ hlb), put_l RA.hp upd_same⟩
    rintro _ H5 ⟨lw, rfl, R5, hlb, hlw⟩
    -- what each beginning costs
    have hbg5 := R5.hb
    refine ⟨fun σ' H' => ∃ lc, σ' = [some (.ref p), some (.ref o), some (.ref t), some (.int 0), some (.int 1), some (.ref bg), some (.ref rg), some (.ref lc), none, none, none, none, none, none, none] ∧ Same H5 H' ∧ H' lc = some (.lst [V.int 0, V.int 0]), ?_, ?_⟩
    · refine ⟨.ref bg, rfl, bg, rfl, ⟨_, SqL.of hbg5⟩, fun D hD => lc_list (K := K) (a := bg) (xs := [V.str ""]) (fun i H6 => Same H5 H6 ∧ H6 D = some (.lst (if i = 0 then [] else [V.int 0]))) ⟨same_upd hD, upd_same⟩ (fun i H6 _ z => SqL.of (z.1 _ _ hbg5)) ?_ ?_⟩
      · rintro i x H6 hx ⟨sm, h6⟩
        have hi : i < 1 := (List.getElem?_eq_some_iff.mp hx).1
        obtain rfl : i = 0 := by omega
        cases hx
        exact ⟨rfl, .str "", rfl, rfl, _, rfl, iteT (iteT ⟨_, h6, by show 0 < sizeLine; decide, same_over sm hD, upd_same⟩)⟩
      · rintro H6 ⟨sm, h6⟩
        have h6 : H6 D = some (.lst [V.int 0]) := h6
        refine ⟨.int 0, rfl, by show 1 ≤ sizeLine; decide, fun l hl => ⟨D, l, _, _, rfl, rfl, same_upd hl _ _ h6, upd_same, by show 2 ≤ sizeLine; decide, fun r hr' => ⟨r, rfl, (sm.trans (same_upd hl)).trans (same_upd hr'), upd_same⟩⟩⟩
    rintro _ H6 ⟨lc, rfl, s6, hlc⟩
    have R6 := R5.same s6
    have l2 := pl _ "beginnings" (V.ref lb) _ l1
    have l3 := pl _ "behind_white" (V.ref lw) _ l2
    -- the state of a strange word
    refine ⟨fun σ' H' => σ' = [some (.ref p), some (.ref o), some (.ref t), some (.int 0), some (.int 1), some (.ref bg), some (.ref rg), some (.ref lc), none, none, none, none, none, none, none] ∧ SR C H H' p dx bg rg (putF "strange_state" (.int 1) (putF "behind_white" (.ref lw) (putF "beginnings" (.ref lb) (putF "blank" (.int 1) [])))) ∧ H' lb = some (.lst [V.int 0, V.int 1]) ∧ H' lw = some (.lst [V.int 0, V.int 0]) ∧ H' lc = some (.lst [V.int 0, V.int 0]), ?_, ?_⟩
    · exact ⟨.ref bg, rfl, bg, _, rfl, .inl (SqL.of R6.hb), .int 1, rfl, 1, 0, 1, rfl, by decide, by decide, by decide, by decide, .ref p, rfl, p, C, dx, _, rfl, R6.hp, SP.cl, SP.n4, by omega, rfl, R6.put, put_l R6.hp (s6 _ _ hlb), put_l R6.hp (s6 _ _ hlw), put_l R6.hp hlc⟩
    rintro _ H7 ⟨rfl, R7, hlb, hlw, hlc⟩
    have l4 := pl _ "strange_state" (V.int 1) _ l3
    -- what a strange word costs more
    refine ⟨fun σ' H' => ∃ ls, σ' = [some (.ref p), some (.ref o), some (.ref t), some (.int 0), some (.int 1), some (.ref bg), some (.ref rg), some (.ref lc), none, none, none, none, none, none, none] ∧ SR C H H' p dx bg rg (putF "strange_prices" (.ref ls) (putF "strange_state" (.int 1) (putF "behind_white" (.ref lw) (putF "beginnings" (.ref lb) (putF "blank" (.int 1) []))))) ∧ H' lb = some (.lst [V.int 0, V.int 1]) ∧ H' lw = some (.lst [V.int 0, V.int 0]) ∧ H' ls = some (.lst [V.int 0, V.int 0]), ?_, ?_⟩
    · refine ⟨.ref lc, rfl, lc, rfl, ⟨_, SqL.of hlc⟩, fun D hD => lc_list (K := K) (a := lc) (xs := [V.int 0, V.int 0]) (fun i H8 => Same H7 H8 ∧ H8 D = some (.lst (([V.int 0, V.int 0] : List V).take i))) ⟨same_upd hD, upd_same⟩ (fun i H8 _ z => SqL.of (z.1 _ _ hlc)) ?_ ?_⟩
      · rintro i x H8 hx ⟨sm, h8⟩
        have hi : i < 2 := (List.getElem?_eq_some_iff.mp hx).1
        have ex : x = V.int 0 := by
          rcases (by omega : i = 0 ∨ i = 1) with rfl | rfl <;> cases hx <;> rfl
        subst ex
        refine ⟨rfl, .int 0, rfl, .int 0, rfl, 0, 0, rfl, rfl, _, h8, ?_, same_over sm hD, ?_⟩
        · exact small1000 (by rw [List.length_take]; omega)
        · rw [upd_same, take_snoc hx]
          rfl
      · rintro H8 ⟨sm, h8⟩
        have R8 := R7.same sm
        exact ⟨.ref p, rfl, p, C, dx, _, rfl, R8.hp, SP.cl, SP.n5, by omega, D, rfl, R8.put, put_l R8.hp (sm _ _ hlb), put_l R8.hp (sm _ _ hlw), put_l R8.hp h8⟩
    rintro _ H8 ⟨ls, rfl, R8, hlb, hlw, hls⟩
    have l5 := pl _ "strange_prices" (V.ref ls) _ l4
    -- what is known
    refine ⟨.ref bg, rfl, bg, rfl, ⟨_, SqL.of R8.hb⟩, fun D hD => lc_list (K := K) (a := bg) (xs := [V.str ""]) (fun i H9 => Same H8 H9 ∧ ((i = 0 ∧ H9 D = some (.lst [])) ∨ (0 < i ∧ ∃ d, H9 D = some (.lst [V.ref d]) ∧ H9 d = some (.dK [])))) ⟨same_upd hD, .inl ⟨rfl, upd_same⟩⟩ (fun i H9 _ z => SqL.of (z.1 _ _ R8.hb)) ?_ ?_⟩
    · rintro i x H9 hx ⟨sm, h9⟩
      have hi : i < 1 := (List.getElem?_eq_some_iff.mp hx).1
      obtain rfl : i = 0 := by omega
      cases hx
      rcases h9 with ⟨_, h9⟩ | ⟨z, _⟩
      · have R9 := R8.same sm
        refine ⟨rfl, .str "", rfl, .ref bg, rfl, .ref o, rfl, .ref lc, rfl, .int 1, rfl, bg, o, lc, high, ss, rfl, R9.hb, (al.but R9.b (fun z => po z.symm) hp), fun d H10 s10 nd' hd => ⟨_, s10 _ _ h9, by show 0 < sizeLine; decide, same_over (sm.trans s10) hD, .inr ⟨Nat.zero_lt_succ _, d, upd_same, ?_⟩⟩⟩
        rw [upd_ne]
        · exact hd
        · rintro rfl
          rw [h9] at nd'
          cases nd'
      · exact absurd z (Nat.lt_irrefl 0)
    · rintro H9 ⟨sm, h9⟩
      rcases h9 with ⟨h, _⟩ | ⟨_, d, h9, hd⟩
      · cases h
      have R9 := R8.same sm
      refine fun d2 hd2 => ⟨by show 1 ≤ sizeLine; decide, fun l hl => ⟨D, l, _, _, rfl, rfl, same_upd hl _ _ (same_upd hd2 _ _ h9), upd_same, by show 2 ≤ sizeLine; decide, fun r hr' => ?_⟩⟩
      have sA := ((same_upd (o := .dK []) hd2).trans (same_upd (o := .lst [V.ref d2]) hl)).trans (same_upd (o := .lst ([V.ref d] ++ [V.ref d2])) hr')
      have RA := R9.same sA
      refine ⟨.ref p, rfl, p, C, dx, _, rfl, RA.hp, SP.cl, SP.n6, by omega, q _ ⟨dx, _, upd_same, ?_⟩ RA.put.b⟩
      refine ⟨?_, ⟨lb, ?_, put_l RA.hp (sA _ _ (sm _ _ hlb))⟩, ⟨lw, ?_, put_l RA.hp (sA _ _ (sm _ _ hlw))⟩, ?_, ⟨ls, ?_, put_l RA.hp (sA _ _ (sm _ _ hls))⟩, ⟨r, d, d2, ?_, put_l RA.hp upd_same, put_d RA.hp (sA _ _ hd), put_d RA.hp (same_upd hr' _ _ (same_upd hl _ _ upd_same))⟩⟩
      all_goals
        simp only [lookup_putF]
        repeat (first | rw [if_pos trivial] | rw [if_neg (by decide +kernel)])
      all_goals rfl
end
end Dt
namespace Dt
open PySem PySem.Spec PyProof.Rows L2 L2X
open PySem.W (dataLt alike alikeAll keyToksAll)
open SX (S)
/-! ### ways by their cost: the order, the table, all ways -/
abbrev Wy : Type := Int × List (Nat × Nat)
def yD (y : Wy) : PyData := .tuple [.int y.1, .tuple (y.2.map pD)]
def pLt (p q : Nat × Nat) : Bool := decide (p.1 < q.1 ∨ (p.1 = q.1 ∧ p.2 < q.2))
def psLt : List (Nat × Nat) → List (Nat × Nat) → Bool
  | [], [] => false
  | [], _ :: _ => true
  | _ :: _, [] => false
  | p :: r, q :: t => if p = q then psLt r t else pLt p q
def wLt (y z : Wy) : Bool := if y.1 = z.1 then psLt y.2 z.2 else decide (y.1 < z.1)
theorem psLt_tri : ∀ a b : List (Nat × Nat), psLt a b = false → psLt b a = false → a = b
  | [], [], _, _ => rfl
  | [], _ :: _, h, _ => by cases h
  | _ :: _, [], _, h => by cases h
  | p :: r, q :: t, h1, h2 => by
    by_cases e : p = q
    · subst e
      rw [psLt, if_pos rfl] at h1 h2
      rw [psLt_tri r t h1 h2]
    · rw [psLt, if_neg e] at h1
      rw [psLt, if_neg (fun z => e z.symm)] at h2
      have a1 := of_decide_eq_false h1
      have a2 := of_decide_eq_false h2
      refine absurd (Prod.ext ?_ ?_) e <;> omega
theorem wLt_tri {y z : Wy} (h1 : wLt y z = false) (h2 : wLt z y = false) : y = z := by
  unfold wLt at h1 h2
  by_cases e : y.1 = z.1
  · rw [if_pos e] at h1
    rw [if_pos e.symm] at h2
    exact Prod.ext e (psLt_tri _ _ h1 h2)
  · rw [if_neg e] at h1
    rw [if_neg (fun q => e q.symm)] at h2
    have a1 := of_decide_eq_false h1
    have a2 := of_decide_eq_false h2
    omega
theorem alike_pD (p q : Nat × Nat) : alike (pD p) (pD q) = true := by
  simp [pD, alike, alikeAll]
theorem alike_pDs : ∀ a b : List (Nat × Nat), alikeAll (a.map pD) (b.map pD) = true
  | [], [] => by simp [alikeAll]
  | [], _ :: _ => by simp [alikeAll]
  | _ :: _, [] => by simp [alikeAll]
  | p :: r, q :: t => by
    rw [List.map_cons, List.map_cons, alikeAll, alike_pD, alike_pDs r t]
    rfl
theorem alike_yD (y z : Wy) : alike (yD y) (yD z) = true := by
  unfold yD
  simp [alike, alikeAll, alike_pDs]
theorem eqv_pD2 (p q : Nat × Nat) : PyData.eqv (pD p) (pD q) = decide (p = q) := by
  obtain ⟨a, b⟩ := p
  obtain ⟨c, d⟩ := q
  simp [pD, PyData.eqv, PyData.eqvAll]
  rw [Bool.eq_iff_iff]
  simp
  omega
theorem eqv_pDs : ∀ a b : List (Nat × Nat), PyData.eqvAll (a.map pD) (b.map pD) = decide (a = b)
  | [], [] => by simp [PyData.eqvAll]
  | [], _ :: _ => by simp [PyData.eqvAll]
  | _ :: _, [] => by simp [PyData.eqvAll]
  | p :: r, q :: t => by
    rw [List.map_cons, List.map_cons, PyData.eqvAll, eqv_pD2, eqv_pDs r t]
    rw [Bool.eq_iff_iff]
    simp
theorem dlt_pD (p q : Nat × Nat) : dataLt (pD p) (pD q) = pLt p q := by
  unfold pD pLt
  rw [PySem.W.dataLt_ii, Bool.eq_iff_iff, decide_eq_true_iff, decide_eq_true_iff]
  omega
theorem dlt_pDs : ∀ a b : List (Nat × Nat), PyProof.Rows.lexLt PyProof.Rows.itemOrd (keyToksAll (a.map pD)) (keyToksAll (b.map pD)) = psLt a b
  | [], [] => lex_irrefl _
  | [], q :: t => by
    rw [List.map_nil, List.map_cons, psLt]
    simp only [keyToksAll]
    rw [lex_cons]
    have e : PyProof.Rows.itemOrd.blt (Sum.inl 0) (Sum.inl 1) = true := by decide
    rw [e]
    rfl
  | p :: r, [] => by
    rw [List.map_nil, List.map_cons, psLt]
    simp only [keyToksAll]
    rw [lex_cons]
    have e : PyProof.Rows.itemOrd.blt (Sum.inl 1) (Sum.inl 0) = false := by decide
    have e2 : PyProof.Rows.itemOrd.blt (Sum.inl 0) (Sum.inl 1) = true := by decide
    rw [e, e2]
    rfl
  | p :: r, q :: t => by
    rw [List.map_cons, List.map_cons, PySem.W.dataLt_cons (alike_pD p q), eqv_pD2, dlt_pD, dlt_pDs r t, psLt]
    by_cases e : p = q
    · rw [if_pos (decide_eq_true e), if_pos e]
    · rw [if_neg (by simpa using e), if_neg e]
theorem dlt_yD (y z : Wy) : dataLt (yD y) (yD z) = wLt y z := by
  unfold yD wLt
  rw [PySem.W.dataLt_pair (by simp [alike]) (by simp only [alike]; exact alike_pDs _ _), PySem.W.dataLt_int]
  have e1 : PyData.eqv (.int y.1) (.int z.1) = decide (y.1 = z.1) := by
    rw [PyData.eqv]
    exact Bool.eq_iff_iff.mpr (by simp)
  have e2 : PyData.eqv (.tuple (y.2.map pD)) (.tuple (z.2.map pD)) = decide (y.2 = z.2) := by
    rw [PyData.eqv, eqv_pDs]
  rw [e1, e2, PySem.W.dataLt_tuple, dlt_pDs]
  by_cases h : y.1 = z.1
  · rw [if_pos (decide_eq_true h), if_pos h]
    by_cases h2 : y.2 = z.2
    · rw [if_pos (decide_eq_true h2), h2]
      have := dlt_pDs z.2 z.2
      rw [← this]
      exact (lex_irrefl _).symm
    · rw [if_neg (by simpa using h2)]
  · rw [if_neg (by simpa using h), if_neg h]
theorem wLt_irr (y : Wy) : wLt y y = false := by
  rw [← dlt_yD]
  exact dlt_irr _
theorem wLt_trans {x y z : Wy} (h1 : wLt x y = true) (h2 : wLt y z = true) : wLt x z = true := by
  rw [← dlt_yD] at *
  exact dlt_trans h1 h2
theorem wLt_neg {x z : Wy} (y : Wy) (h : wLt x z = true) : wLt x y = true ∨ wLt y z = true := by
  rw [← dlt_yD] at h
  rw [← dlt_yD, ← dlt_yD]
  exact dlt_neg h
/-- y is least of l -/
def Lw (l : List Wy) (y : Wy) : Prop := y ∈ l ∧ ∀ e ∈ l, wLt e y = false
theorem Lw.one {l : List Wy} {y z : Wy} (h1 : Lw l y) (h2 : Lw l z) : y = z := wLt_tri (h2.2 _ h1.1) (h1.2 _ h2.1)
theorem lst_yD {l : List Wy} {y : Wy} (h : y ∈ l) : Lst (l.map yD) (yD y) → Lw l y := fun a => ⟨h, fun e he => by
  rw [← dlt_yD]
  exact a _ (List.mem_map_of_mem he)⟩
def minW (a : Wy) (l : List Wy) : Wy := l.foldl (fun a y => if wLt y a then y else a) a
theorem minW_least : ∀ (l : List Wy) (a : Wy), Lw (a :: l) (minW a l)
  | [], a => ⟨List.mem_singleton.mpr rfl, fun e he => by
      rw [List.mem_singleton.mp he]
      exact wLt_irr a⟩
  | y :: r, a => by
    have e0 : minW a (y :: r) = minW (if wLt y a then y else a) r := rfl
    rw [e0]
    obtain ⟨m, h⟩ := minW_least r (if wLt y a then y else a)
    have key : ∀ e, wLt e (if wLt y a then y else a) = false → wLt e (minW (if wLt y a then y else a) r) = false := fun e he => by
      cases c : wLt e (minW (if wLt y a then y else a) r) with
      | false => rfl
      | true =>
        rcases wLt_neg (if wLt y a then y else a) c with c1 | c1
        · rw [he] at c1
          cases c1
        · rw [h _ List.mem_cons_self] at c1
          cases c1
    refine ⟨?_, fun e he => ?_⟩
    · rcases List.mem_cons.mp m with m | m
      · rw [m]
        by_cases c : wLt y a = true
        · rw [if_pos c]
          exact List.mem_cons_of_mem _ List.mem_cons_self
        · rw [if_neg c]
          exact List.mem_cons_self
      · exact List.mem_cons_of_mem _ (List.mem_cons_of_mem _ m)
    · rcases List.mem_cons.mp he with rfl | he
      · refine key e ?_
        by_cases c : wLt y e = true
        · rw [if_pos c]
          cases c2 : wLt e y with
          | false => rfl
          | true => exact absurd (wLt_trans c c2) (by rw [wLt_irr]; decide)
        · rw [if_neg c]
          exact wLt_irr e
      · rcases List.mem_cons.mp he with rfl | he
        · refine key e ?_
          by_cases c : wLt e a = true
          · rw [if_pos c]
            exact wLt_irr e
          · rw [if_neg c]
            exact eq_false_of_ne_true c
        · exact h e (List.mem_cons_of_mem _ he)
theorem wLt_ahead (m : Int) (p : Nat × Nat) (c d : Int) (a b : List (Nat × Nat)) : wLt (m + c, p :: a) (m + d, p :: b) = wLt (c, a) (d, b) := by
  unfold wLt
  show (if m + c = m + d then psLt (p :: a) (p :: b) else decide (m + c < m + d)) = if c = d then psLt a b else decide (c < d)
  rw [psLt, if_pos rfl]
  by_cases h : c = d
  · rw [if_pos h, if_pos (by omega)]
  · rw [if_neg h, if_neg (by omega), Bool.eq_iff_iff, decide_eq_true_iff, decide_eq_true_iff]
    omega
theorem wLt_shift (m c d : Int) (a b : List (Nat × Nat)) : wLt (m + c, a) (m + d, b) = wLt (c, a) (d, b) := by
  unfold wLt
  show (if m + c = m + d then psLt a b else decide (m + c < m + d)) = if c = d then psLt a b else decide (c < d)
  by_cases h : c = d
  · rw [if_pos h, if_pos (by omega)]
  · rw [if_neg h, if_neg (by omega), Bool.eq_iff_iff, decide_eq_true_iff, decide_eq_true_iff]
    omega
/-! the table from the last column back, and all ways -/
def setA (ss : List Sh) (rs : List (List Nat)) (c k : Nat) (y : Wy) : Wy := (moreZ ss rs c k + y.1, (c, k) :: y.2)
def nowW : Wy := (1000000, [])
def hereW (ss : List Sh) (rs : List (List Nat)) (wide c : Nat) (T : List Wy) : List Wy := (fitN ss wide c ss.length).map fun k => setA ss rs c k (T.getD (wdt ss k - 1) nowW)
def stepW (ss : List Sh) (rs : List (List Nat)) (wide c : Nat) (T : List Wy) : Wy := if wLt (minW nowW (hereW ss rs wide c T)) (T.getD 0 nowW) = true then minW nowW (hereW ss rs wide c T) else T.getD 0 nowW
def tabW (ss : List Sh) (rs : List (List Nat)) (wide : Nat) : Nat → List Wy
  | 0 => [(0, [])]
  | n + 1 => stepW ss rs wide (wide - (n + 1)) (tabW ss rs wide n) :: tabW ss rs wide n
abbrev Wl : Type := List (List (Nat × Nat))
def stepY (ss : List Sh) (wide c : Nat) (T : List Wl) : Wl := T.getD 0 [] ++ ((fitN ss wide c ss.length).map fun k => (T.getD (wdt ss k - 1) []).map ((c, k) :: ·)).flatten
def tabY (ss : List Sh) (wide : Nat) : Nat → List Wl
  | 0 => [[[]]]
  | n + 1 => stepY ss wide (wide - (n + 1)) (tabY ss wide n) :: tabY ss wide n
def cW (ss : List Sh) (rs : List (List Nat)) (w : List (Nat × Nat)) : Int := (w.map fun p => moreZ ss rs p.1 p.2).sum
/-- the entry of the table is the least of the ways -/
structure OkW (ss : List Sh) (rs : List (List Nat)) (y : Wy) (L : Wl) : Prop where
  e : [] ∈ L
  l : Lw (L.map fun w => (cW ss rs w, w)) y
theorem tab_len (ss : List Sh) (rs : List (List Nat)) (wide : Nat) : ∀ n, (tabW ss rs wide n).length = n + 1 ∧ (tabY ss wide n).length = n + 1
  | 0 => ⟨rfl, rfl⟩
  | n + 1 => by
    obtain ⟨a, b⟩ := tab_len ss rs wide n
    exact ⟨by rw [tabW, List.length_cons, a], by rw [tabY, List.length_cons, b]⟩
theorem cW_cons (ss : List Sh) (rs : List (List Nat)) (p : Nat × Nat) (w : List (Nat × Nat)) : cW ss rs (p :: w) = moreZ ss rs p.1 p.2 + cW ss rs w := by
  unfold cW
  rw [List.map_cons, List.sum_cons]
theorem tab_ok {ss : List Sh} {rs : List (List Nat)} {wide : Nat} (h1 : ∀ k, k < ss.length → 1 ≤ wdt ss k) : ∀ n, n ≤ wide → ∀ j, j ≤ n → OkW ss rs ((tabW ss rs wide n).getD j nowW) ((tabY ss wide n).getD j [])
  | 0, _, j, hj => by
    obtain rfl : j = 0 := by omega
    exact ⟨List.mem_singleton.mpr rfl, List.mem_singleton.mpr rfl, fun e he => by
      rw [List.mem_singleton.mp he]
      exact wLt_irr _⟩
  | n + 1, hn, 0, _ => by
    have ih := tab_ok (rs := rs) (wide := wide) h1 n (by omega)
    show OkW ss rs (stepW ss rs wide (wide - (n + 1)) (tabW ss rs wide n)) (stepY ss wide (wide - (n + 1)) (tabY ss wide n))
    have w0 := ih 0 (Nat.zero_le _)
    generalize hc : wide - (n + 1) = c
    have cn : c + (n + 1) = wide := by omega
    have fit : ∀ k ∈ fitN ss wide c ss.length, wdt ss k - 1 ≤ n ∧ k < ss.length := fun k hk => by
      obtain ⟨a, b⟩ := fitN_mem hk
      have := h1 k a
      exact ⟨by omega, a⟩
    refine ⟨List.mem_append_left _ w0.e, ?_⟩
    have mem : ∀ e, e ∈ (stepY ss wide c (tabY ss wide n)).map (fun w => (cW ss rs w, w)) ↔ (e ∈ ((tabY ss wide n).getD 0 []).map fun w => (cW ss rs w, w)) ∨ ∃ k ∈ fitN ss wide c ss.length, ∃ w ∈ (tabY ss wide n).getD (wdt ss k - 1) [], e = setA ss rs c k (cW ss rs w, w) := fun e => by
      unfold stepY
      rw [List.map_append, List.mem_append]
      refine or_congr Iff.rfl ?_
      constructor
      · intro h
        obtain ⟨v, hv, rfl⟩ := List.mem_map.mp h
        obtain ⟨l, hl, hv⟩ := List.mem_flatten.mp hv
        obtain ⟨k, hk, rfl⟩ := List.mem_map.mp hl
        obtain ⟨w, hw, rfl⟩ := List.mem_map.mp hv
        refine ⟨k, hk, w, hw, ?_⟩
        rw [cW_cons]
        rfl
      · rintro ⟨k, hk, w, hw, rfl⟩
        refine List.mem_map.mpr ⟨(c, k) :: w, List.mem_flatten.mpr ⟨_, List.mem_map.mpr ⟨k, hk, rfl⟩, List.mem_map.mpr ⟨w, hw, rfl⟩⟩, ?_⟩
        rw [cW_cons]
        rfl
    obtain ⟨mm, ml⟩ := minW_least (hereW ss rs wide c (tabW ss rs wide n)) nowW
    have big : wLt (0, []) nowW = true := by decide
    have z0 : wLt ((0 : Int), ([] : List (Nat × Nat))) ((tabW ss rs wide n).getD 0 nowW) = false := by
      have := w0.l.2 _ (List.mem_map.mpr ⟨[], w0.e, rfl⟩)
      exact this
    -- no way that begins here is less than the least of them
    have here : ∀ k ∈ fitN ss wide c ss.length, ∀ w ∈ (tabY ss wide n).getD (wdt ss k - 1) [], wLt (setA ss rs c k (cW ss rs w, w)) (setA ss rs c k ((tabW ss rs wide n).getD (wdt ss k - 1) nowW)) = false := fun k hk w hw => by
      have o := ih (wdt ss k - 1) (fit k hk).1
      have := o.l.2 _ (List.mem_map.mpr ⟨w, hw, rfl⟩)
      unfold setA
      rw [wLt_ahead]
      exact this
    have inH : ∀ k ∈ fitN ss wide c ss.length, setA ss rs c k ((tabW ss rs wide n).getD (wdt ss k - 1) nowW) ∈ hereW ss rs wide c (tabW ss rs wide n) := fun k hk => List.mem_map.mpr ⟨k, hk, rfl⟩
    have tr : ∀ {x y z : Wy}, wLt x y = false → wLt y z = false → wLt x z = false := fun {x y z} a b => by
      cases q : wLt x z with
      | false => rfl
      | true =>
        rcases wLt_neg y q with q | q
        · rw [a] at q
          cases q
        · rw [b] at q
          cases q
    have asym : ∀ {x y : Wy}, wLt x y = true → wLt y x = false := fun {x y} a => by
      cases q : wLt y x with
      | false => rfl
      | true => exact absurd (wLt_trans a q) (by rw [wLt_irr]; decide)
    unfold stepW
    by_cases c0 : wLt (minW nowW (hereW ss rs wide c (tabW ss rs wide n))) ((tabW ss rs wide n).getD 0 nowW) = true
    · rw [if_pos c0]
      refine ⟨(mem _).mpr ?_, fun e he => ?_⟩
      · rcases List.mem_cons.mp mm with q | q
        · exfalso
          rw [q] at c0
          have := wLt_trans big c0
          rw [z0] at this
          cases this
        · obtain ⟨k, hk, q⟩ := List.mem_map.mp q
          have o := ih (wdt ss k - 1) (fit k hk).1
          obtain ⟨w, hw, e⟩ := List.mem_map.mp o.l.1
          exact .inr ⟨k, hk, w, hw, by rw [← q, ← e]⟩
      · rcases (mem e).mp he with he | ⟨k, hk, w, hw, rfl⟩
        · exact tr (w0.l.2 e he) (asym c0)
        · exact tr (here k hk w hw) (ml _ (List.mem_cons_of_mem _ (inH k hk)))
    · rw [if_neg c0]
      refine ⟨(mem _).mpr (.inl w0.l.1), fun e he => ?_⟩
      rcases (mem e).mp he with he | ⟨k, hk, w, hw, rfl⟩
      · exact w0.l.2 e he
      · exact tr (here k hk w hw) (tr (ml _ (List.mem_cons_of_mem _ (inH k hk))) (eq_false_of_ne_true c0))
  | n + 1, hn, j + 1, hj => by
    have := tab_ok (rs := rs) (wide := wide) h1 n (by omega) j (by omega)
    exact this
end Dt
namespace Dt
open PySem PySem.Spec PyProof.Rows L2 L2X
open PySem.W (AlikeAll)
open SX (S)
/-! ### ways on the heap -/
/-- tuples stay -/
def Tk (H H' : Hp) : Prop := ∀ b zs, (H b = some (.tup zs) → H' b = some (.tup zs)) ∧ ∀ od, H b = some (.frz od (.tup zs)) → H' b = some (.frz od (.tup zs))
theorem Tk.same {H H' : Hp} (s : Same H H') : Tk H H' := fun b zs => ⟨fun e => s _ _ e, fun od e => s _ _ e⟩
theorem Tk.trans {H H1 H2 : Hp} (a : Tk H H1) (b : Tk H1 H2) : Tk H H2 := fun c zs => ⟨fun e => (b c zs).1 ((a c zs).1 e), fun od e => (b c zs).2 od ((a c zs).2 od e)⟩
theorem Tk.upd {H : Hp} {p : Addr} {o o' : HO} (hp : H p = some o) (n1 : ∀ zs, o ≠ .tup zs) (n2 : ∀ od zs, o ≠ .frz od (.tup zs)) : Tk H (upd H p o') := fun b zs => by
  refine ⟨fun e => ?_, fun od e => ?_⟩
  · rw [upd_ne]
    · exact e
    · rintro rfl
      rw [hp] at e
      cases e
      exact n1 _ rfl
  · rw [upd_ne]
    · exact e
    · rintro rfl
      rw [hp] at e
      cases e
      exact n2 _ _ rfl
theorem Tk.sq {K : PySem.W.Frag} {H H' : Hp} {a : Addr} {xs : List V} (t : Tk H H') (h : SqT K H a xs) : SqT K H' a xs := by
  rcases h with (h | ⟨o, h⟩) | h
  · exact .inl (.inl ((t a xs).1 h))
  · exact .inl (.inr ⟨o, (t a xs).2 o h⟩)
  · exact .inr h
theorem Tk.plc {K : PySem.W.Frag} {H H' : Hp} {xs : List V} {ps : List (Nat × Nat)} (t : Tk H H') (h : Plc K H xs ps) : Plc K H' xs ps :=
  ⟨h.len, fun i x p a b => let ⟨q, e, z⟩ := h.at_ i x p a b; ⟨q, e, t.sq z⟩⟩
/-- the way y stands at x -/
def WyA (K : PySem.W.Frag) (H : Hp) (x : V) (y : Wy) : Prop := ∃ t q zs, x = .ref t ∧ SqT K H t [.int y.1, .ref q] ∧ SqT K H q zs ∧ Plc K H zs y.2
theorem WyA.tk {K : PySem.W.Frag} {H H' : Hp} {x : V} {y : Wy} (h : WyA K H x y) (t : Tk H H') : WyA K H' x y := by
  obtain ⟨a, q, zs, e, h1, h2, h3⟩ := h
  exact ⟨a, q, zs, e, t.sq h1, t.sq h2, t.plc h3⟩
theorem WyA.same {K : PySem.W.Frag} {H H' : Hp} {x : V} {y : Wy} (h : WyA K H x y) (s : Same H H') : WyA K H' x y := h.tk (.same s)
theorem WyA.dp {K : PySem.W.Frag} {H : Hp} {x : V} {y : Wy} (h : WyA K H x y) : Dp K H x (yD y) := by
  obtain ⟨t, q, zs, rfl, h1, h2, h3⟩ := h
  exact .tup h1 (.cons (.int _) (.cons (.tup h2 (dp_places h3)) .nil))
theorem yD_depth (y : Wy) : (yD y).depth ≤ 5 := by
  have e : ∀ l : List (Nat × Nat), PyData.depthAll (l.map pD) ≤ 2 := fun l => by
    induction l with
    | nil => simp [PyData.depthAll]
    | cons p r ih =>
      rw [List.map_cons]
      simp only [PyData.depthAll]
      have : (pD p).depth ≤ 2 := by simp [pD, PyData.depth, PyData.depthAll]
      omega
  have := e y.2
  unfold yD
  simp only [PyData.depth, PyData.depthAll]
  omega
theorem yDs_depth (l : List Wy) : PyData.depthAll (l.map yD) ≤ 5 := by
  induction l with
  | nil => simp [PyData.depthAll]
  | cons p r ih =>
    rw [List.map_cons]
    simp only [PyData.depthAll]
    have := yD_depth p
    omega
theorem yDs_alike (l : List Wy) : AlikeAll (l.map yD) := ⟨fun x hx z hz => by
    obtain ⟨a, _, rfl⟩ := List.mem_map.mp hx
    obtain ⟨b, _, rfl⟩ := List.mem_map.mp hz
    exact alike_yD a b, fun x hx => by
    obtain ⟨a, _, rfl⟩ := List.mem_map.mp hx
    intro z
    cases z⟩
/-- ways in a row -/
structure Wys (K : PySem.W.Frag) (H : Hp) (xs : List V) (ys : List Wy) : Prop where
  len : xs.length = ys.length
  at_ : ∀ (i : Nat) (x : V) (y : Wy), xs[i]? = some x → ys[i]? = some y → WyA K H x y
theorem Wys.tk {K : PySem.W.Frag} {H H' : Hp} {xs : List V} {ys : List Wy} (h : Wys K H xs ys) (t : Tk H H') : Wys K H' xs ys := ⟨h.len, fun i x y a b => (h.at_ i x y a b).tk t⟩
theorem Wys.nil {K : PySem.W.Frag} {H : Hp} : Wys K H [] [] := ⟨rfl, fun i x y h => nomatch h⟩
theorem Wys.cons {K : PySem.W.Frag} {H : Hp} {xs : List V} {ys : List Wy} {x : V} {y : Wy} (hx : WyA K H x y) (h : Wys K H xs ys) : Wys K H (x :: xs) (y :: ys) := by
  refine ⟨congrArg Nat.succ h.len, fun i z w a b => ?_⟩
  cases i with
  | zero =>
    cases a
    cases b
    exact hx
  | succ i => exact h.at_ i z w a b
theorem Wys.add {K : PySem.W.Frag} {H : Hp} {xs : List V} {ys : List Wy} {x : V} {y : Wy} (h : Wys K H xs ys) (hx : WyA K H x y) : Wys K H (xs ++ [x]) (ys ++ [y]) := by
  refine ⟨by rw [List.length_append, List.length_append, h.len]; rfl, fun i z w a b => ?_⟩
  by_cases hi : i < xs.length
  · rw [List.getElem?_append_left hi] at a
    rw [List.getElem?_append_left (by rw [← h.len]; exact hi)] at b
    exact h.at_ i z w a b
  · rw [List.getElem?_append_right (by omega)] at a
    rw [List.getElem?_append_right (by rw [← h.len]; omega), ← h.len] at b
    cases e : i - xs.length with
    | zero =>
      rw [e] at a b
      cases a
      cases b
      exact hx
    | succ j =>
      rw [e] at a
      simp at a
theorem Wys.dps {K : PySem.W.Frag} {H : Hp} : ∀ {xs : List V} {ys : List Wy}, Wys K H xs ys → DpAll K H xs (ys.map yD)
  | [], [], _ => .nil
  | [], _ :: _, h => nomatch h.len
  | _ :: _, [], h => nomatch h.len
  | x :: xs, y :: ys, h => .cons (h.at_ 0 x y rfl rfl).dp (Wys.dps ⟨Nat.succ.inj h.len, fun i z w a b => h.at_ (i + 1) z w a b⟩)
abbrev sSA : Stmt := topS 43
theorem scSA : FnScope ["window", "more", "way", "cost", "windows"] ["window", "more", "way"] (defScope sSA) := ⟨rfl, rfl, rfl, by decide +kernel, rfl, by decide +kernel, by decide +kernel⟩
def spSA (K : PySem.W.Frag) : Sp := fun vs H Q _ => ∃ (p : Addr) (m : Int) (x : V) (c k : Nat) (y : Wy), vs = [.ref p, .int m, x] ∧ SqT K H p [.int c, .int k] ∧ WyA K H x y ∧ y.2.length ≤ 1000 ∧ ∀ v H', Same H H' → WyA K H' v (m + y.1, (c, k) :: y.2) → Q v H'
abbrev sKw : Stmt := topS 42
abbrev nKw : List Str := ["known", "here", "found", "number", "state", "price", "window", "more", "behind"]
theorem scKw : FnScope nKw ["known", "here"] (defScope sKw) := ⟨rfl, rfl, rfl, by decide +kernel, rfl, by decide +kernel, by decide +kernel⟩
def spKw : Sp := fun vs H Q _ => ∃ (d h : Addr), vs = [.ref d, .ref h] ∧ H d = some (.dK []) ∧ ∀ l H', Same H H' → H l = none → H' l = some (.lst []) → Q (.ref l) H'
section
variable {P : Program} {w : World} {K : PySem.W.Frag} {mg : Str → Option Value} {base : Heap} {C CA : Addr}
theorem ok_sa {f : Addr} {fd : FuncData} {k : Nat} (F : Fun K "set_ahead" "set_ahead" sSA f fd) : FnOk P w K mg base CX0 (k + 1) f fd ["window", "more", "way"] (spSA K) := by
  refine F.ok scSA (fun vs H Q E h => ?_) (fun cdv A outer s H vs Q E hr h => ?_)
  · obtain ⟨p, m, x, _, _, _, rfl, _⟩ := h
    rfl
  · obtain ⟨p, m, x, c, n, y, rfl, hp, wy, ly, q⟩ := h
    have nd := scSA.nd
    refine ⟨_, pss_cons (ps_asg (pv 2) (pg_tup rfl (pgs_cons (pg_name (i := 3) nd rfl (Or.inl rfl)) (pgs_cons (pg_name (i := 4) nd rfl (Or.inl rfl)) pgs_nil))))
      (pss_one (ps_ret (pe_tup (pa_cons (pe_op op_add (pv 1) (pv 3)) (pa_cons (pe_op op_catA (pe_tup (pa_cons (pv 0) pa_nil)) (pv 4)) pa_nil))))), ?_⟩
    obtain ⟨t, u, zs, rfl, h1, h2, h3⟩ := wy
    refine ⟨.ref t, rfl, t, _, rfl, h1, rfl, _, _, rfl, _, _, rfl, rfl, ?_⟩
    refine ⟨.int m, rfl, .int y.1, rfl, _, _, rfl, rfl, ?_⟩
    have one : Plc K H [V.ref p] [(c, n)] := ⟨rfl, fun i x z a b => by
      cases i with
      | zero =>
        cases a
        cases b
        exact ⟨p, rfl, hp⟩
      | succ i => simp at a⟩
    have lz := h3.len
    refine ⟨.ref p, rfl, by show 1 ≤ sizeLine; decide, fun w1 hw1 => ⟨.ref u, rfl, w1, u, [V.ref p], zs, rfl, rfl, SqT.of upd_same, (Tk.same (same_upd hw1)).sq h2, ?_, (fun z => by cases z), fun _ e => ?_, fun _ _ w2 hw2 => ?_⟩⟩
    · rw [lz, sizeLine_eq, List.length_singleton]
      omega
    · have s1 := same_upd (o := .tup [V.ref p]) hw1
      refine ⟨by show 2 ≤ sizeLine; decide, fun r hr' => q _ _ (s1.trans (same_upd hr')) ⟨r, w1, [V.ref p], rfl, SqT.of upd_same, SqT.of (same_upd hr' _ _ upd_same), ?_⟩⟩
      have ey : y.2 = [] := List.eq_nil_of_length_eq_zero (by rw [← lz, e]; rfl)
      show Plc K _ [V.ref p] ((c, n) :: y.2)
      rw [ey]
      exact (one.same s1).same (same_upd hr')
    · have s1 := same_upd (o := .tup [V.ref p]) hw1
      have s2 := same_upd (o := .tup ([V.ref p] ++ zs)) hw2
      refine ⟨by show 2 ≤ sizeLine; decide, fun r hr' => q _ _ ((s1.trans s2).trans (same_upd hr')) ⟨r, w2, [V.ref p] ++ zs, rfl, SqT.of upd_same, SqT.of (same_upd hr' _ _ upd_same), ?_⟩⟩
      exact ((one.same s1).same s2).same (same_upd hr') |>.app (((h3.same s1).same s2).same (same_upd hr'))
theorem ok_kw {f : Addr} {fd : FuncData} {k : Nat} (F : Fun K "_known_windows" "_known_windows" sKw f fd) : FnOk P w K mg base CX0 (k + 1) f fd ["known", "here"] spKw := by
  refine F.ok scKw (fun vs H Q E h => ?_) (fun cdv A outer s H vs Q E hr h => ?_)
  · obtain ⟨d, h, rfl, _⟩ := h
    rfl
  · obtain ⟨d, h, rfl, hd, q⟩ := h
    have nd := scKw.nd
    refine ⟨_, pss_cons (ps_set (i := 2) nd rfl (.inl rfl) (pe_lst pa_nil))
      (pss_cons (ps_lock (ps_for PassesOwn.never rfl (pi_items (pv 0)) (pg_tup rfl (pgs_cons (pg_name (i := 3) nd rfl (Or.inl rfl)) (pgs_cons (pg_tup rfl (pgs_cons (pg_name (i := 4) nd rfl (Or.inl rfl)) (pgs_cons (pg_name (i := 5) nd rfl (Or.inl rfl)) pgs_nil))) pgs_nil))) pss_never))
      (pss_one (ps_ret (pv 2)))), ?_⟩
    refine ⟨by show 0 ≤ sizeLine; decide, fun l hl => ⟨d, .dK [], same_upd hl _ _ hd, trivial, fun od => ?_⟩⟩
    have nl : l ≠ d := by
      rintro rfl
      rw [hl] at hd
      cases hd
    refine ⟨.ref d, rfl, d, od, [], rfl, upd_same, ?_⟩
    refine for_it (tb := fun _ _ _ => False) (walk_items (kvs := [])) (fun i σ H3 => σ = [some (.ref d), some (.ref h), some (.ref l), none, none, none, none, none, none] ∧ H3 = upd (upd H l (.lst [])) d (.frz od (.dK []))) ⟨rfl, rfl⟩ (fun i σ H3 _ z => by
      rw [z.2]
      exact upd_same) (fun i x σ H3 H4 hi => absurd hi (Nat.not_lt_zero _)) ?_
    rintro σ H3 ⟨rfl, rfl⟩
    refine ⟨upd_same, .ref l, rfl, q l _ (fun b o e => ?_) hl ?_⟩
    · by_cases hb : b = d
      · subst hb
        rw [hd] at e
        cases e
        exact upd_same
      · rw [upd_ne hb, upd_ne hb]
        exact same_upd hl _ _ e
    · rw [upd_ne nl, upd_ne nl, upd_same]
end
end Dt
namespace L2X
open PySem PySem.Spec PyProof.Rows L2
theorem pe_fldK {X : Cx} {K : PySem.W.Frag} {e : Expr} {ta : TE} {f : PySem.Str} {pos : Pos} (hK : X.K = K) (he : PE X e ta) (hb : attributeBase e f X.env (eval e X.env) = eval e X.env) : PE X (.Attribute e f pos) (tFld K ta f) := by
  subst hK
  exact pe_fld he hb
theorem cr_minDK {X : Cx} {K : PySem.W.Frag} (hK : X.K = K) (hc : X.calm = true) (hu : X.A.units + 64 < cLine) : CallR X (.builtin "min") (rMinD K) := by
  subst hK
  exact cr_minD hc hu
theorem cr_min2DK {X : Cx} {K : PySem.W.Frag} (hK : X.K = K) (hc : X.calm = true) (hu : X.A.units + 64 < cLine) : CallR X (.builtin "min") (rMin2D K) := by
  subst hK
  exact cr_min2D hc hu
end L2X
namespace Dt
open PySem PySem.Spec PyProof.Rows L2 L2X
open PySem.W (AlikeAll)
open SX (S)
/-! ### the ways of a line -/
abbrev cWy : Stmt := topS 41
abbrev sFW : Stmt := inClass cWy 2
abbrev nFW : List Str := ["self", "column", "rest", "spelling", "here", "strange", "cost", "windows", "window", "wide", "more", "behind", "known", "price"]
theorem scFW : FnScope nFW ["self", "column", "rest"] (defScope sFW) := ⟨rfl, rfl, rfl, by decide +kernel, rfl, by decide +kernel, by decide +kernel⟩
structure Twy (K : PySem.W.Frag) (mg : Str → Option Value) (C : Addr) : Prop where
  cl : Cls K C
  n1 : NoAttr K C "spelling"
  n2 : NoAttr K C "white"
  n3 : NoAttr K C "windows"
  n4 : NoAttr K C "rest"
  mC : mg "Ways" = some (.ref C)
def NWy (K : PySem.W.Frag) (mg : Str → Option Value) : Prop := ∃ t, mg "NO_WAY" = some (.ref t) ∧ ∀ H, WyA K H (.ref t) nowW
/-- two readings of the same way, in a list -/
def Two (K : PySem.W.Frag) (H : Hp) (l : Addr) (y : Wy) : Prop := ∃ x0 x1, H l = some (.lst [x0, x1]) ∧ WyA K H x0 y ∧ WyA K H x1 y
/-- the rows of the table that are made: entry j of T at c + j -/
def RowsT (K : PySem.W.Frag) (H : Hp) (rl : List V) (c : Nat) (T : List Wy) : Prop := ∀ j y, T[j]? = some y → ∃ l, rl[c + j]? = some (.ref l) ∧ Two K H l y
theorem tab_short {ss : List Sh} {rs : List (List Nat)} {wide : Nat} : ∀ n, ∀ y ∈ tabW ss rs wide n, y.2.length ≤ n
  | 0, y, h => by
    rw [List.mem_singleton.mp h]
    exact Nat.le_refl 0
  | n + 1, y, h => by
    have get : ∀ j, ((tabW ss rs wide n).getD j nowW).2.length ≤ n := fun j => by
      rw [List.getD_eq_getElem?_getD]
      cases e : (tabW ss rs wide n)[j]? with
      | none => exact Nat.zero_le _
      | some z => exact tab_short n z (List.mem_of_getElem? e)
    rcases List.mem_cons.mp h with rfl | h
    · unfold stepW
      split
      · rcases List.mem_cons.mp (minW_least (hereW ss rs wide (wide - (n + 1)) (tabW ss rs wide n)) nowW).1 with q | q
        · rw [q]
          exact Nat.zero_le _
        · obtain ⟨k, _, q⟩ := List.mem_map.mp q
          rw [← q]
          have := get (wdt ss k - 1)
          show (_ :: _ : List (Nat × Nat)).length ≤ _
          rw [List.length_cons]
          omega
      · have := get 0
        omega
    · have := tab_short n y h
      omega
/-- all but dicts stay -/
def Nd (H H' : Hp) : Prop := ∀ b o, (∀ kv, o ≠ .dK kv) → H b = some o → H' b = some o
theorem Nd.tk {H H' : Hp} (s : Nd H H') : Tk H H' := fun b zs => ⟨fun e => s _ _ (fun _ z => by cases z) e, fun od e => s _ _ (fun _ z => by cases z) e⟩
theorem Nd.same {H H' : Hp} (s : Same H H') : Nd H H' := fun b o _ e => s b o e
theorem Nd.trans {H H1 H2 : Hp} (a : Nd H H1) (b : Nd H1 H2) : Nd H H2 := fun c o n e => b c o n (a c o n e)
theorem Nd.put {H : Hp} {d : Addr} {kvs : List (Key × V)} {u : HO} (h : H d = some (.dK kvs)) : Nd H (upd H d u) := fun b o n e => by
  rw [upd_ne]
  · exact e
  · rintro rfl
    rw [h] at e
    cases e
    exact n _ rfl
theorem Two.nd {K : PySem.W.Frag} {H H' : Hp} {l : Addr} {y : Wy} (h : Two K H l y) (s : Nd H H') : Two K H' l y := by
  obtain ⟨x0, x1, e, a, b⟩ := h
  exact ⟨x0, x1, s _ _ (fun _ z => by cases z) e, a.tk s.tk, b.tk s.tk⟩
/-- the windows that begin here, with the rows behind them -/
def HrA (K : PySem.W.Frag) (ss : List Sh) (rs : List (List Nat)) (T : List Wy) (c : Nat) (H : Hp) (kv : Key × V) (k : Nat) : Prop := kv.1 = .inl (k : Int) ∧ ∃ t pw lb, kv.2 = .ref t ∧ H t = some (.tup [.ref pw, .int (moreZ ss rs c k), .ref lb]) ∧ H pw = some (.tup [.int c, .int k]) ∧ Two K H lb (T.getD (wdt ss k - 1) nowW)
theorem HrA.nd {K : PySem.W.Frag} {ss : List Sh} {rs : List (List Nat)} {T : List Wy} {c k : Nat} {H H' : Hp} {kv : Key × V} (h : HrA K ss rs T c H kv k) (s : Nd H H') : HrA K ss rs T c H' kv k := by
  obtain ⟨e, t, pw, lb, e2, a, b, d⟩ := h
  exact ⟨e, t, pw, lb, e2, s _ _ (fun _ z => by cases z) a, s _ _ (fun _ z => by cases z) b, d.nd s⟩
structure Hre (K : PySem.W.Frag) (ss : List Sh) (rs : List (List Nat)) (T : List Wy) (c : Nat) (H : Hp) (kvs : List (Key × V)) (ks : List Nat) : Prop where
  len : kvs.length = ks.length
  at_ : ∀ (i : Nat) (kv : Key × V) (k : Nat), kvs[i]? = some kv → ks[i]? = some k → HrA K ss rs T c H kv k
theorem Hre.nd {K : PySem.W.Frag} {ss : List Sh} {rs : List (List Nat)} {T : List Wy} {c : Nat} {H H' : Hp} {kvs : List (Key × V)} {ks : List Nat} (h : Hre K ss rs T c H kvs ks) (s : Nd H H') : Hre K ss rs T c H' kvs ks := ⟨h.len, fun i kv k a b => (h.at_ i kv k a b).nd s⟩
theorem Hre.add {K : PySem.W.Frag} {ss : List Sh} {rs : List (List Nat)} {T : List Wy} {c k : Nat} {H : Hp} {kvs : List (Key × V)} {ks : List Nat} {kv : Key × V} (h : Hre K ss rs T c H kvs ks) (hx : HrA K ss rs T c H kv k) : Hre K ss rs T c H (kvs ++ [kv]) (ks ++ [k]) := by
  refine ⟨by rw [List.length_append, List.length_append, h.len]; rfl, fun i z w a b => ?_⟩
  by_cases hi : i < kvs.length
  · rw [List.getElem?_append_left hi] at a
    rw [List.getElem?_append_left (by rw [← h.len]; exact hi)] at b
    exact h.at_ i z w a b
  · rw [List.getElem?_append_right (by omega)] at a
    rw [List.getElem?_append_right (by rw [← h.len]; omega), ← h.len] at b
    cases e : i - kvs.length with
    | zero =>
      rw [e] at a b
      cases a
      cases b
      exact hx
    | succ j =>
      rw [e] at a
      simp at a
theorem putK_new {kvs : List (Key × V)} {k : Key} {v : V} (h : ∀ kv ∈ kvs, kv.1 ≠ k) : putK kvs k v = kvs ++ [(k, v)] := by
  unfold putK
  rw [if_neg]
  intro z
  obtain ⟨kv, hm, e⟩ := List.any_eq_true.mp z
  exact h kv hm (of_decide_eq_true e)
theorem fitN_nodup {ss : List Sh} {wide c n : Nat} : (fitN ss wide c n).Nodup := List.nodup_range.filter _
theorem take_new {ks : List Nat} {i k : Nat} (nd : ks.Nodup) (h : ks[i]? = some k) : k ∉ ks.take i := fun hm => by
  obtain ⟨j, hj⟩ := List.mem_iff_getElem?.mp hm
  rw [List.getElem?_take] at hj
  split at hj
  · rename_i lt
    obtain ⟨q1, q2⟩ := List.getElem?_eq_some_iff.mp hj
    obtain ⟨q3, q4⟩ := List.getElem?_eq_some_iff.mp h
    have := (List.getElem_inj nd).mp (q2.trans q4.symm)
    omega
  · cases hj
def spFW (K : PySem.W.Frag) (C CS : Addr) : Sp := fun vs H Q _ => ∃ (p dx sp lw r : Addr) (fs : List (Str × V)) (xs rl : List V) (c n wide : Nat) (ss : List Sh) (rs : List (List Nat)), vs = [.ref p, .int c, .ref r] ∧ H p = some (.ins C dx fs) ∧
  fs.lookup ("spelling" : Str) = some (.ref sp) ∧ SplAt CS H sp ∧ fs.lookup ("windows" : Str) = some (.ref lw) ∧ H lw = some (.lst xs) ∧ WinT ss rs wide H xs wide ∧ c + (n + 1) = wide ∧ wide ≤ 60 ∧ ss.length ≤ 16 ∧ (∀ k, k < ss.length → 1 ≤ wdt ss k) ∧
  H r = some (.lst rl) ∧ RowsT K H rl (c + 1) (tabW ss rs wide n) ∧ ∀ l H', Same H H' → H l = none → Two K H' l (minW nowW (hereW ss rs wide c (tabW ss rs wide n))) → Q (.ref l) H'
section
variable {P : Program} {w : World} {K : PySem.W.Frag} {mg : Str → Option Value} {base : Heap} {C CS : Addr}
theorem ok_fw {f : Addr} {fd : FuncData} {k : Nat} (F : Fun K "_first_windows" "Ways._first_windows" sFW f fd) (TW : Twy K mg C) (SP : Tsp K mg CS) (NW : NWy K mg) (mi : mg "min" = none) (hz : mg "zip" = none) (GA : Pm P w K mg base CX0 (k + 1) "set_ahead" ["window", "more", "way"] (spSA K)) (GK : Pm P w K mg base CX0 (k + 1) "_known_windows" ["known", "here"] spKw) :
    FnOk P w K mg base CX0 (k + 2) f fd ["self", "column", "rest"] (spFW K C CS) := by
  obtain ⟨fA, fdA, GA, mA, kA, bA⟩ := GA.ex
  obtain ⟨fK, fdK, GK, mK, kK, bK⟩ := GK.ex
  obtain ⟨tN, hN, wN⟩ := NW
  refine F.ok scFW (fun vs H Q E h => ?_) (fun cdv A outer s H vs Q E hr h => ?_)
  · obtain ⟨p, dx, sp, lw, r, _, _, _, _, _, _, _, _, rfl, _⟩ := h
    rfl
  · obtain ⟨p, dx, sp, lw, r, fs, xs, rl, c, n, wide, ss, rs, rfl, hp, fS, aS, fW, hlw, WT, cn, w60, s16, w1, hrr, RT, q⟩ := h
    have nd := scFW.nd
    have hu : (A.deeper (envOfC "Ways._first_windows" (defScope sFW) s.heap.objs.size f cdv)).units + 64 < cLine := by
      have := hr.un
      omega
    refine ⟨_, pss_cons (ps_set (i := 3) nd rfl (.inr rfl) (pe_fld (pv 0) rfl))
      (C8.pss_cut (ps_set (i := 4) nd rfl (.inr rfl) (pe_dc (own := [("window", 8), ("wide", 9), ("more", 10)]) (g := gTup K 3 (gCons (gName 8) (gCons (gName 9) (gCons (gName 10) gNil)))) (tt := tYes) rfl nd (pi_list (pe_ix (r := rIxL K) ix_list (pe_fld (pv 0) rfl) (pv 1) (fun _ _ => rfl))) (blkOk_by (N := nFW) (sc := defScope sFW) (by decide +kernel))
          (fun _ _ _ _ _ => pg_tup rfl (pgs_cons (pg_name (i := 8) nd rfl (Or.inl rfl)) (pgs_cons (pg_name (i := 9) nd rfl (Or.inl rfl)) (pgs_cons (pg_name (i := 10) nd rfl (Or.inl rfl)) pgs_nil)))) (fun _ _ _ _ _ => pts_nil)
          (fun _ _ _ _ _ => pe_ix (r := rIxT K) ix_tup (pv 8) pe_int (fun _ _ => rfl)) (fun _ _ _ _ _ => pe_tup (pa_cons (pv 8) (pa_cons (pv 10) (pa_cons (pe_ix (r := rIxL K) ix_list (pv 2) (pe_op op_add (pv 1) (pv 9)) (fun _ _ => rfl)) pa_nil))))))
      (C8.pss_cut (ps_lock (ps_setLc (i := 5) (own := [("window", 8), ("more", 10), ("behind", 11)]) (g := gTup K 3 (gCons (gName 8) (gCons (gName 10) (gCons (gName 11) gNil)))) (tt := tYes) (by rfl) nd rfl rfl (sw_true rfl rfl rfl (by decide +kernel)) (pi_values (pv 4)) (blkOk_by (N := nFW) (sc := defScope sFW) (by decide +kernel))
          (fun _ _ _ _ _ => pg_tup rfl (pgs_cons (pg_name (i := 8) nd rfl (Or.inl rfl)) (pgs_cons (pg_name (i := 10) nd rfl (Or.inl rfl)) (pgs_cons (pg_name (i := 11) nd rfl (Or.inl rfl)) pgs_nil)))) (fun _ _ _ _ _ => pts_nil)
          (fun _ _ _ _ _ => pe_call GA hr (by rfl) mA kA bA .nil pass0 (pa_cons (pv 8) (pa_cons (pv 10) (pa_cons (pe_ix (r := rIxL K) ix_list (pv 11) (pe_fldK (K := K) rfl (pv 3) rfl) (fun _ _ => rfl)) pa_nil))))))
      (C8.pss_cut (ps_asg (pe_callB (cr_minD rfl hu) (by rfl) mi (by decide +kernel) (pa_cons (pe_op op_cat (pe_lst (pa_cons (pe_glob (v := .ref tN) (by rfl) hN rfl) pa_nil)) (pv 5)) pa_nil)) (pg_tup rfl (pgs_cons (pg_name (i := 6) nd rfl (Or.inr rfl)) (pgs_cons (pg_name (i := 7) nd rfl (Or.inr rfl)) pgs_nil))))
      (pss_one (ps_ret (pe_lc (own := [("known", 12), ("price", 13)]) (g := gTup K 2 (gCons (gName 12) (gCons (gName 13) gNil))) (tt := tYes) rfl nd (pi_zipG (by rfl) hz (pa_cons (pe_fld (pv 3) rfl) (pa_cons (pe_fld (pv 3) rfl) pa_nil))) (blkOk_by (N := nFW) (sc := defScope sFW) (by decide +kernel))
          (fun _ _ _ _ _ => pg_tup rfl (pgs_cons (pg_name (i := 12) nd rfl (Or.inl rfl)) (pgs_cons (pg_name (i := 13) nd rfl (Or.inl rfl)) pgs_nil))) (fun _ _ _ _ _ => pts_nil)
          (fun _ _ _ _ _ => pe_callB (cr_minDK (K := K) rfl rfl hu) (by rfl) mi (by decide +kernel) (pa_cons (pe_op op_cat (pe_lst (pa_cons (pe_tup (pa_cons (pe_op op_add (pv 6) (pv 13)) (pa_cons (pv 7) pa_nil))) pa_nil)) (pe_call GK hr (by rfl) mK kK bK .nil pass0 (pa_cons (pv 12) (pa_cons (pv 4) pa_nil)))) pa_nil)))))))), ?_⟩
    generalize hTT : tabW ss rs wide n = TT at RT q
    have shT : ∀ j, (TT.getD j nowW).2.length ≤ 60 := fun j => by
      rw [← hTT, List.getD_eq_getElem?_getD]
      cases e : (tabW ss rs wide n)[j]? with
      | none => exact Nat.zero_le _
      | some z =>
        have := tab_short n z (List.mem_of_getElem? e)
        show z.2.length ≤ 60
        omega
    have hcx : c < xs.length := by
      rw [WT.1]
      omega
    obtain ⟨lc, ys, ec, hlc, WN⟩ := WT.2 c _ (List.getElem?_eq_getElem hcx)
    have exc : xs[c]? = some (.ref lc) := by rw [List.getElem?_eq_getElem hcx, ec]
    generalize hks : fitN ss wide c ss.length = ks at WN
    have ksn : ks.Nodup := by rw [← hks]; exact fitN_nodup
    have ksm : ∀ k ∈ ks, k < ss.length ∧ c + wdt ss k ≤ wide := fun k hk => fitN_mem (by rw [hks]; exact hk)
    have ksl : ks.length ≤ 16 := by
      have := fitN_len (ss := ss) (wide := wide) (col := c) (n := ss.length)
      rw [hks] at this
      omega
    have lT : TT.length = n + 1 := by rw [← hTT]; exact (tab_len ss rs wide n).1
    refine ⟨.ref p, rfl, p, C, dx, fs, .ref sp, rfl, hp, TW.cl, TW.n1, fS, ?_⟩
    -- what begins here
    refine ⟨fun σ' H' => ∃ hd kvs, σ' = [some (.ref p), some (.int c), some (.ref r), some (.ref sp), some (.ref hd), none, none, none, none, none, none, none, none, none] ∧ Same H H' ∧ H' hd = some (.dK kvs) ∧ Hre K ss rs TT c H' kvs ks, ?_, ?_⟩
    · refine ⟨.ref p, rfl, p, C, dx, fs, .ref lw, rfl, hp, TW.cl, TW.n3, fW, .int c, rfl, lw, xs, _, .ref lc, rfl, rfl, SqL.of hlw, atI_nat exc, lc, rfl, ⟨_, SqL.of hlc⟩, fun D hD => dc_by ys.length (fun i H2 => Same H H2 ∧ ∃ kvs, H2 D = some (.dK kvs) ∧ Hre K ss rs TT c H2 kvs (ks.take i)) ⟨same_upd hD, [], upd_same, ⟨rfl, fun i kv k h => nomatch h⟩⟩ (fun H2 z => ⟨ys, SqL.of (z.1 _ _ hlc), Nat.le_refl _⟩) (fun i H2 hi z => ⟨ys, _, SqL.of (z.1 _ _ hlc), List.getElem?_eq_getElem hi⟩) ?_ ?_⟩
      · rintro i x H2 H3 hi ⟨sm, kvs, h2, R2⟩ ⟨rfl, hy⟩
        have hx : ys[i]? = some x := hy _ (SqL.of (sm _ _ hlc))
        have hik : i < ks.length := by
          rw [← WN.len]
          exact hi
        have ek : ks[i]? = some ks[i] := List.getElem?_eq_getElem hik
        have mk := ksm ks[i] (List.getElem_mem hik)
        generalize ks[i] = k' at ek mk
        obtain ⟨t, pw, rfl, ht, hpw⟩ := WN.at_ i x k' hx ek
        have w1' := w1 k' mk.1
        have jl : wdt ss k' - 1 < TT.length := by
          rw [lT]
          omega
        obtain ⟨lb, elb, two⟩ := RT (wdt ss k' - 1) _ (List.getElem?_eq_getElem jl)
        have eidx : c + 1 + (wdt ss k' - 1) = c + wdt ss k' := by omega
        rw [eidx] at elb
        have eT : TT[wdt ss k' - 1] = TT.getD (wdt ss k' - 1) nowW := by
          rw [List.getD_eq_getElem?_getD, List.getElem?_eq_getElem jl]
          rfl
        rw [eT] at two
        refine ⟨t, _, rfl, SqT.of (sm _ _ ht), rfl, _, _, rfl, _, _, rfl, _, _, rfl, rfl, rfl, .ref pw, rfl, pw, _, 1, .int k', rfl, rfl, SqT.of (sm _ _ hpw), rfl, .ref pw, rfl, .int (moreZ ss rs c k'), rfl, .ref r, rfl, .int c, rfl, .int (wdt ss k'), rfl, _, _, rfl, rfl, r, rl, _, .ref lb, rfl, rfl, SqL.of (sm _ _ hrr), ?_, by show 3 ≤ sizeLine; decide, fun t2 ht2 => ⟨kvs, .inl (k' : Int), rfl, same_upd ht2 _ _ h2, ?_, same_over (sm.trans (same_upd ht2)) hD, _, upd_same, ?_⟩⟩
        · rw [show ((c : Int) + (wdt ss k' : Int)) = ((c + wdt ss k' : Nat) : Int) by omega]
          exact atI_nat elb
        · rw [R2.len, List.length_take]
          exact small1000 (by omega)
        · have sT := same_upd (o := .tup [V.ref pw, V.int (moreZ ss rs c k'), V.ref lb]) ht2
          have ndP : Nd (upd H3 t2 (.tup [V.ref pw, V.int (moreZ ss rs c k'), V.ref lb])) (upd (upd H3 t2 (.tup [V.ref pw, V.int (moreZ ss rs c k'), V.ref lb])) D (.dK (putK kvs (.inl (k' : Int)) (.ref t2)))) := Nd.put (sT _ _ h2)
          have fresh : ∀ kv ∈ kvs, kv.1 ≠ .inl (k' : Int) := fun kv hm z => by
            obtain ⟨j, hj⟩ := List.mem_iff_getElem?.mp hm
            have jl2 : j < (ks.take i).length := by
              rw [← R2.len]
              exact (List.getElem?_eq_some_iff.mp hj).1
            have a := (R2.at_ j kv _ hj (List.getElem?_eq_getElem jl2)).1
            rw [z] at a
            have e := Sum.inl.inj a
            have e2 : k' = (ks.take i)[j] := by omega
            exact take_new ksn ek (by rw [e2]; exact List.getElem_mem jl2)
          rw [putK_new fresh] at ndP ⊢
          rw [take_snoc ek]
          exact ((R2.nd (.same sT)).nd ndP).add ⟨rfl, t2, pw, lb, rfl, ndP _ _ (fun _ z => by cases z) upd_same, ndP _ _ (fun _ z => by cases z) (sT _ _ (sm _ _ hpw)), ((two.nd (.same sm)).nd (.same sT)).nd ndP⟩
      · rintro H2 ⟨sm, kvs, h2, R2⟩
        have e : ks.take ys.length = ks := List.take_of_length_le (by rw [WN.len]; exact Nat.le_refl _)
        rw [e] at R2
        exact ⟨D, kvs, rfl, sm, h2, R2⟩
    rintro _ H2 ⟨hd, kvs, rfl, s2, hhd, R2⟩
    have hH : ks.map (fun k => setA ss rs c k (TT.getD (wdt ss k - 1) nowW)) = hereW ss rs wide c TT := by
      unfold hereW
      rw [hks]
    generalize hereW ss rs wide c TT = HW at hH q
    have hwl : HW.length = ks.length := by rw [← hH, List.length_map]
    have hwAt : ∀ i k, ks[i]? = some k → HW[i]? = some (setA ss rs c k (TT.getD (wdt ss k - 1) nowW)) := fun i k e => by
      rw [← hH, List.getElem?_map, e]
      rfl
    have aS2 : ∀ H', But hd H2 H' → ∃ dx2 fs2, H' sp = some (.ins CS dx2 fs2) ∧ SplF H fs2 := fun H' b => by
      obtain ⟨dx2, fs2, e, F2⟩ := aS
      exact ⟨dx2, fs2, b _ _ (s2 _ _ e) (fun z => by
        rw [z] at e
        have e' := s2 _ _ e
        rw [hhd] at e'
        cases e'), F2⟩
    -- what stays behind them
    refine ⟨fun σ' H' => ∃ st zs, σ' = [some (.ref p), some (.int c), some (.ref r), some (.ref sp), some (.ref hd), some (.ref st), none, none, none, none, none, none, none, none] ∧ Same H2 H' ∧ H' st = some (.lst zs) ∧ Wys K H' zs HW, ?_, ?_⟩
    · refine ⟨hd, .dK kvs, hhd, trivial, fun od => ?_⟩
      have b0 : But hd H2 (upd H2 hd (.frz od (.dK kvs))) := fun b o e ne => by
        rw [upd_ne ne]
        exact e
      refine ⟨.ref hd, rfl, hd, od, kvs, rfl, upd_same, fun D hD => ?_⟩
      have Dh : D ≠ hd := by
        rintro rfl
        rw [upd_same] at hD
        cases hD
      have D2 : H2 D = none := by
        rw [upd_ne Dh] at hD
        exact hD
      refine lc_it (walk_values (kvs := kvs) (d := hd) (o := od)) (fun i H3 => H3 hd = some (.frz od (.dK kvs)) ∧ But hd H2 H3 ∧ ∃ zs, H3 D = some (.lst zs) ∧ Wys K H3 zs (HW.take i)) ⟨?_, ?_, [], upd_same, Wys.nil⟩ (fun i H3 _ z => z.1) ?_ ?_
      · rw [upd_ne (fun z => Dh z.symm)]
        exact upd_same
      · intro b o e ne
        rw [upd_ne (ne_of_none e D2)]
        exact b0 b o e ne
      · rintro i x H3 H4 hi ⟨hf, b3, zs, h3, W3⟩ ⟨rfl, key, hkv⟩
        have hik : i < ks.length := by
          rw [← R2.len]
          exact hi
        have ek : ks[i]? = some ks[i] := List.getElem?_eq_getElem hik
        generalize ks[i] = k' at ek
        obtain ⟨_, t, pw, lb, ev, ht, hpw, x0, x1, hlb, wy0, wy1⟩ := R2.at_ i _ k' hkv ek
        have ex : x = .ref t := ev
        subst ex
        have nh : ∀ {b : Addr} {o : HO}, H2 b = some o → (∀ kv, o ≠ .dK kv) → b ≠ hd := fun {b o} e ne z => by
          subst z
          rw [hhd] at e
          cases e
          exact ne _ rfl
        have tk3 : Tk H2 H4 := fun b zs => ⟨fun e => b3 _ _ e (nh e fun _ z => by cases z), fun od e => b3 _ _ e (nh e fun _ z => by cases z)⟩
        obtain ⟨dx2, fs2, hsp, F2⟩ := aS2 H4 b3
        have len3 := W3.len
        refine ⟨t, _, rfl, SqT.of (b3 _ _ ht (nh ht fun _ z => by cases z)), rfl, _, _, rfl, _, _, rfl, _, _, rfl, rfl, rfl, .ref pw, rfl, .int (moreZ ss rs c k'), rfl, .ref lb, rfl, .ref sp, rfl, sp, CS, dx2, fs2, .int 1, rfl, hsp, SP.cl, SP.n4, F2.ss, lb, _, 1, x1, rfl, rfl, SqL.of (b3 _ _ hlb (nh hlb fun _ z => by cases z)), rfl, pw, moreZ ss rs c k', x1, c, k', TT.getD (wdt ss k' - 1) nowW, rfl, SqT.of (b3 _ _ hpw (nh hpw fun _ z => by cases z)), wy1.tk tk3, ?_, fun v H5 s5 wv => ⟨zs, s5 _ _ h3, ?_, ?_, ?_, zs ++ [v], upd_same, ?_⟩⟩
        · have := shT (wdt ss k' - 1)
          omega
        · rw [len3, List.length_take]
          exact small1000 (by omega)
        · rw [upd_ne (fun z => Dh z.symm)]
          exact s5 _ _ hf
        · intro b o e ne
          rw [upd_ne (ne_of_none e D2)]
          exact s5 _ _ (b3 _ _ e ne)
        · have tkD : Tk H5 (upd H5 D (.lst (zs ++ [v]))) := Tk.upd (s5 _ _ h3) (fun _ z => by cases z) (fun _ _ z => by cases z)
          rw [take_snoc (hwAt i k' ek)]
          exact ((W3.tk (.same s5)).tk tkD).add (wv.tk tkD)
      · rintro H3 ⟨hf, b3, zs, h3, W3⟩
        have e : HW.take kvs.length = HW := List.take_of_length_le (by rw [hwl, R2.len]; exact Nat.le_refl _)
        rw [e] at W3
        have tkF : Tk H3 (upd H3 hd (.dK kvs)) := Tk.upd hf (fun _ z => by cases z) (fun _ _ z => by cases z)
        refine ⟨hf, D, zs, rfl, fun b o e => ?_, ?_, W3.tk tkF⟩
        · by_cases hb : b = hd
          · subst hb
            rw [hhd] at e
            cases e
            exact upd_same
          · rw [upd_ne hb]
            exact b3 _ _ e hb
        · rw [upd_ne Dh]
          exact h3
    rintro _ H3 ⟨st, zs, rfl, s3, hst, W3⟩
    have s03 : Same H H3 := s2.trans s3
    obtain ⟨bm, bl⟩ := minW_least HW nowW
    have bOne : ∀ y, Lw (nowW :: HW) y → y = minW nowW HW := fun y h => h.one ⟨bm, bl⟩
    generalize hB : minW nowW HW = B at bOne q
    -- the least of them
    refine ⟨fun σ' H' => ∃ u us, σ' = [some (.ref p), some (.int c), some (.ref r), some (.ref sp), some (.ref hd), some (.ref st), some (.int B.1), some (.ref u), none, none, none, none, none, none] ∧ Same H3 H' ∧ SqT K H' u us ∧ Plc K H' us B.2, ?_, ?_⟩
    · refine ⟨by show 1 ≤ sizeLine; decide, fun l hl => ⟨.ref st, rfl, l, st, [V.ref tN], zs, rfl, rfl, upd_same, same_upd hl _ _ hst, ?_, fun r2 hr2 => ⟨r2, [V.ref tN] ++ zs, (nowW :: HW).map yD, rfl, SqL.of upd_same, ?_, (fun z => by cases z), yDs_alike _, Nat.le_trans (yDs_depth _) (by decide), fun i x d hx hd' least => ?_⟩⟩⟩
      · rw [W3.len, hwl, sizeLine_eq, List.length_singleton]
        omega
      · have sA := (same_upd (o := .lst [V.ref tN]) hl).trans (same_upd (o := .lst ([V.ref tN] ++ zs)) hr2)
        exact (Wys.cons (wN _) (W3.tk (.same sA))).dps
      · have sA := (same_upd (o := .lst [V.ref tN]) hl).trans (same_upd (o := .lst ([V.ref tN] ++ zs)) hr2)
        have WA : Wys K (upd (upd H3 l (.lst [V.ref tN])) r2 (.lst ([V.ref tN] ++ zs))) ([V.ref tN] ++ zs) (nowW :: HW) := Wys.cons (wN _) (W3.tk (.same sA))
        rw [List.getElem?_map] at hd'
        obtain ⟨y, hy, rfl⟩ := Option.map_eq_some_iff.mp hd'
        have ey := bOne y (lst_yD (List.mem_of_getElem? hy) least)
        subst ey
        obtain ⟨t, u, us, rfl, h1, h2, h3⟩ := WA.at_ i x y hx hy
        exact ⟨t, _, rfl, h1, rfl, _, _, rfl, _, _, rfl, rfl, u, us, rfl, sA, h2, h3⟩
    rintro _ H4 ⟨u, us, rfl, s4, hus, pus⟩
    have s04 : Same H H4 := s03.trans s4
    obtain ⟨dx2, fs2, hsp, F2⟩ := aS
    obtain ⟨lk, d1, d2, fk, hlk, hd1, hd2⟩ := F2.kn
    obtain ⟨lsp, fsp, hlsp⟩ := F2.sp
    refine ⟨.ref sp, rfl, sp, CS, dx2, fs2, .ref lk, rfl, s04 _ _ hsp, SP.cl, SP.n6, fk, .ref sp, rfl, sp, CS, dx2, fs2, .ref lsp, rfl, s04 _ _ hsp, SP.cl, SP.n5, fsp, .lst lk, .lst lsp, [V.ref d1, V.ref d2], [V.int 0, V.int 0], rfl, SqL.of (s04 _ _ hlk), SqL.of (s04 _ _ hlsp), fun D hD => lc_zipG (K := K) (A := .lst lk) (B := .lst lsp) (xs := [V.ref d1, V.ref d2]) (ys := [V.int 0, V.int 0]) rfl
      (fun i H5 => Same H4 H5 ∧ ∃ zs, H5 D = some (.lst zs) ∧ Wys K H5 zs (List.replicate i B)) ⟨same_upd hD, [], upd_same, Wys.nil⟩ (fun i H5 _ z => ⟨SqL.of (z.1 _ _ (s04 _ _ hlk)), SqL.of (z.1 _ _ (s04 _ _ hlsp))⟩) ?_ ?_⟩
    · rintro i x y H5 T' hx hy ⟨sm, zs5, h5, W5⟩ nT
      have hi : i < 2 := (List.getElem?_eq_some_iff.mp hx).1
      have ey : y = V.int 0 := by
        rcases (by omega : i = 0 ∨ i = 1) with rfl | rfl <;> cases hy <;> rfl
      subst ey
      obtain ⟨dd, rfl, hdd⟩ : ∃ dd, x = V.ref dd ∧ H dd = some (.dK []) := by
        rcases (by omega : i = 0 ∨ i = 1) with rfl | rfl <;> cases hx
        · exact ⟨d1, rfl, hd1⟩
        · exact ⟨d2, rfl, hd2⟩
      have sT := same_upd (o := .tup [V.ref dd, V.int 0]) nT
      have s5T : Same H4 (upd H5 T' (.tup [V.ref dd, V.int 0])) := sm.trans sT
      have lz5 : zs5.length = i := by rw [W5.len, List.length_replicate]
      refine ⟨T', _, rfl, SqT.of upd_same, rfl, _, _, rfl, _, _, rfl, rfl, rfl, .int B.1, rfl, .int 0, rfl, _, _, rfl, rfl, .ref u, rfl, by show 2 ≤ sizeLine; decide, fun t ht => ⟨by show 1 ≤ sizeLine; decide, fun l hl => ⟨.ref dd, rfl, .ref hd, rfl, dd, hd, rfl, ?_, fun l2 H6 s6 n6 h6 => ⟨l, l2, [V.ref t], [], rfl, rfl, ?_, h6, by show 1 ≤ sizeLine; decide, fun r2 hr2 => ⟨r2, [V.ref t] ++ [], [yD B], rfl, SqL.of upd_same, ?_, (fun z => by cases z), yDs_alike [B], Nat.le_trans (yDs_depth [B]) (by decide), fun j z d hz _ _ => ?_⟩⟩⟩⟩⟩
      · exact same_upd hl _ _ (same_upd ht _ _ (s5T _ _ (s04 _ _ hdd)))
      · exact s6 _ _ upd_same
      all_goals
        have sA := ((same_upd (o := .tup [V.int (B.1 + 0), V.ref u]) ht).trans (same_upd (o := .lst [V.ref t]) hl)).trans s6
        have ht6 := ((same_upd (o := .lst [V.ref t]) hl).trans s6) _ _ (upd_same (o := .tup [V.int (B.1 + 0), V.ref u]) (a := t) (H := upd H5 T' (.tup [V.ref dd, V.int 0])))
        rw [Int.add_zero] at ht6
        have wyB : WyA K H6 (.ref t) B := ⟨t, u, us, rfl, SqT.of ht6, (Tk.same (s5T.trans sA)).sq hus, (Tk.same (s5T.trans sA)).plc pus⟩
      · exact .cons ((wyB.same (same_upd hr2)).dp) .nil
      · have hj : j < 1 := (List.getElem?_eq_some_iff.mp hz).1
        obtain rfl : j = 0 := by omega
        cases hz
        have sB : Same H5 (upd H6 r2 (.lst ([V.ref t] ++ []))) := (sT.trans sA).trans (same_upd hr2)
        have tkD : Tk (upd H6 r2 (.lst ([V.ref t] ++ []))) (upd (upd H6 r2 (.lst ([V.ref t] ++ []))) D (.lst (zs5 ++ [V.ref t]))) := Tk.upd (sB _ _ h5) (fun _ z => by cases z) (fun _ _ z => by cases z)
        refine ⟨zs5, sB _ _ h5, ?_, same_over (sm.trans sB) hD, zs5 ++ [V.ref t], upd_same, ?_⟩
        · rw [lz5]
          exact small1000 (by omega)
        · rw [List.replicate_succ']
          exact ((W5.tk (.same sB)).tk tkD).add ((wyB.same (same_upd hr2)).tk tkD)
    · rintro H5 ⟨sm, zs5, h5, W5⟩
      have l5 : zs5.length = 2 := W5.len
      obtain ⟨x0, x1, rfl⟩ : ∃ x0 x1, zs5 = [x0, x1] := by
        match zs5, l5 with
        | [a, b], _ => exact ⟨a, b, rfl⟩
      exact q D _ (s04.trans sm) (s04.free hD) ⟨x0, x1, h5, W5.at_ 0 x0 B rfl rfl, W5.at_ 1 x1 B rfl rfl⟩
end
end Dt
namespace Dt
open PySem PySem.Spec PyProof.Rows L2 L2X
open PySem.W (dataLt alike alikeAll keyToksAll AlikeAll)
/-! ### numbers with windows told from behind: the order -/
abbrev Pw := Nat × List (Nat × Nat)
def qD (p : Nat × Nat) : PyData := .tuple [.int (-(p.1 : Int)), .int p.2]
def wPD (p : Pw) : PyData := .tuple [.int p.1, .tuple (p.2.map qD)]
def mLt (p q : Nat × Nat) : Bool := decide (q.1 < p.1 ∨ (p.1 = q.1 ∧ p.2 < q.2))
def msLt : List (Nat × Nat) → List (Nat × Nat) → Bool
  | [], [] => false
  | [], _ :: _ => true
  | _ :: _, [] => false
  | p :: r, q :: t => if p = q then msLt r t else mLt p q
def qLt (y z : Pw) : Bool := if y.1 = z.1 then msLt y.2 z.2 else decide (y.1 < z.1)
theorem alike_qD (p q : Nat × Nat) : alike (qD p) (qD q) = true := by
  simp [qD, alike, alikeAll]
theorem alike_qDs : ∀ a b : List (Nat × Nat), PySem.W.alikeAll (a.map qD) (b.map qD) = true
  | [], [] => by simp [PySem.W.alikeAll]
  | [], _ :: _ => by simp [PySem.W.alikeAll]
  | _ :: _, [] => by simp [PySem.W.alikeAll]
  | p :: r, q :: t => by
    rw [List.map_cons, List.map_cons, PySem.W.alikeAll, alike_qDs r t]
    simp [qD, PySem.W.alike, PySem.W.alikeAll]
theorem alike_wPD (y z : Pw) : PySem.W.alike (wPD y) (wPD z) = true := by
  unfold wPD
  simp [PySem.W.alike, PySem.W.alikeAll, alike_qDs]
theorem wPD_depth (y : Pw) : (wPD y).depth ≤ 5 := by
  have e : ∀ l : List (Nat × Nat), PyData.depthAll (l.map qD) ≤ 2 := fun l => by
    induction l with
    | nil => simp [PyData.depthAll]
    | cons p r ih =>
      rw [List.map_cons]
      simp only [PyData.depthAll]
      have : (qD p).depth ≤ 2 := by simp [qD, PyData.depth, PyData.depthAll]
      omega
  have := e y.2
  unfold wPD
  simp only [PyData.depth, PyData.depthAll]
  omega
theorem wPDs_depth (l : List Pw) : PyData.depthAll (l.map wPD) ≤ 5 := by
  induction l with
  | nil => simp [PyData.depthAll]
  | cons p r ih =>
    rw [List.map_cons]
    simp only [PyData.depthAll]
    have := wPD_depth p
    omega
theorem wPDs_alike (l : List Pw) : AlikeAll (l.map wPD) := ⟨fun x hx z hz => by
    obtain ⟨a, _, rfl⟩ := List.mem_map.mp hx
    obtain ⟨b, _, rfl⟩ := List.mem_map.mp hz
    exact alike_wPD a b, fun x hx => by
    obtain ⟨a, _, rfl⟩ := List.mem_map.mp hx
    intro z
    cases z⟩
theorem eqv_qD (p q : Nat × Nat) : PyData.eqv (qD p) (qD q) = decide (p = q) := by
  obtain ⟨a, b⟩ := p
  obtain ⟨c, d⟩ := q
  simp [qD, PyData.eqv, PyData.eqvAll]
  rw [Bool.eq_iff_iff]
  simp
  omega
theorem eqv_qDs : ∀ a b : List (Nat × Nat), PyData.eqvAll (a.map qD) (b.map qD) = decide (a = b)
  | [], [] => by simp [PyData.eqvAll]
  | [], _ :: _ => by simp [PyData.eqvAll]
  | _ :: _, [] => by simp [PyData.eqvAll]
  | p :: r, q :: t => by
    rw [List.map_cons, List.map_cons, PyData.eqvAll, eqv_qD, eqv_qDs r t]
    rw [Bool.eq_iff_iff]
    simp
theorem dlt_qD (p q : Nat × Nat) : dataLt (qD p) (qD q) = mLt p q := by
  unfold qD mLt
  rw [PySem.W.dataLt_ii, Bool.eq_iff_iff, decide_eq_true_iff, decide_eq_true_iff]
  omega
theorem dlt_qDs : ∀ a b : List (Nat × Nat), PyProof.Rows.lexLt PyProof.Rows.itemOrd (keyToksAll (a.map qD)) (keyToksAll (b.map qD)) = msLt a b
  | [], [] => lex_irrefl _
  | [], q :: t => by
    rw [List.map_nil, List.map_cons, msLt]
    simp only [keyToksAll]
    rw [lex_cons]
    have e : PyProof.Rows.itemOrd.blt (Sum.inl 0) (Sum.inl 1) = true := by decide
    rw [e]
    rfl
  | p :: r, [] => by
    rw [List.map_nil, List.map_cons, msLt]
    simp only [keyToksAll]
    rw [lex_cons]
    have e : PyProof.Rows.itemOrd.blt (Sum.inl 1) (Sum.inl 0) = false := by decide
    have e2 : PyProof.Rows.itemOrd.blt (Sum.inl 0) (Sum.inl 1) = true := by decide
    rw [e, e2]
    rfl
  | p :: r, q :: t => by
    rw [List.map_cons, List.map_cons, PySem.W.dataLt_cons (alike_qD p q), eqv_qD, dlt_qD, dlt_qDs r t, msLt]
    by_cases e : p = q
    · rw [if_pos (decide_eq_true e), if_pos e]
    · rw [if_neg (by simpa using e), if_neg e]
theorem dlt_wPD (y z : Pw) : dataLt (wPD y) (wPD z) = qLt y z := by
  unfold wPD qLt
  rw [PySem.W.dataLt_pair (by simp [alike]) (by simp only [alike]; exact alike_qDs _ _), PySem.W.dataLt_int]
  have e1 : PyData.eqv (.int (y.1 : Int)) (.int (z.1 : Int)) = decide (y.1 = z.1) := by
    rw [PyData.eqv]
    exact Bool.eq_iff_iff.mpr (by simp; omega)
  have e2 : PyData.eqv (.tuple (y.2.map qD)) (.tuple (z.2.map qD)) = decide (y.2 = z.2) := by
    rw [PyData.eqv, eqv_qDs]
  rw [e1, e2, PySem.W.dataLt_tuple, dlt_qDs]
  by_cases h : y.1 = z.1
  · rw [if_pos (decide_eq_true h), if_pos h]
    by_cases h2 : y.2 = z.2
    · rw [if_pos (decide_eq_true h2), h2]
      have := dlt_qDs z.2 z.2
      rw [← this]
      exact (lex_irrefl _).symm
    · rw [if_neg (by simpa using h2)]
  · rw [if_neg (by simpa using h), if_neg h]
    rw [Bool.eq_iff_iff, decide_eq_true_iff, decide_eq_true_iff]
    omega
theorem qLt_irr (y : Pw) : qLt y y = false := by
  rw [← dlt_wPD]
  exact dlt_irr _
theorem qLt_neg {x z : Pw} (y : Pw) (h : qLt x z = true) : qLt x y = true ∨ qLt y z = true := by
  rw [← dlt_wPD] at h
  rw [← dlt_wPD, ← dlt_wPD]
  exact dlt_neg h
theorem qLe_trans {x y z : Pw} (h1 : qLt y x = false) (h2 : qLt z y = false) : qLt z x = false := by
  by_cases h : qLt z x = true
  · rcases qLt_neg y h with a | a
    · rw [a] at h2
      cases h2
    · rw [a] at h1
      cases h1
  · simpa using h
theorem msLt_irr : ∀ a : List (Nat × Nat), msLt a a = false
  | [] => rfl
  | p :: r => by
    rw [msLt, if_pos rfl]
    exact msLt_irr r
theorem qLt_num {y z : Pw} (h : qLt z y = false) : y.1 ≤ z.1 := by
  unfold qLt at h
  by_cases e : z.1 = y.1
  · omega
  · rw [if_neg e] at h
    have := of_decide_eq_false h
    omega
theorem qLt_eq {y z : Pw} (h : qLt z y = false) (e : z.1 = y.1) : msLt z.2 y.2 = false := by
  unfold qLt at h
  rw [if_pos e] at h
  exact h
theorem qLt_of {y z : Pw} (h1 : y.1 ≤ z.1) (h2 : z.1 = y.1 → msLt z.2 y.2 = false) : qLt z y = false := by
  unfold qLt
  by_cases e : z.1 = y.1
  · rw [if_pos e]
    exact h2 e
  · rw [if_neg e]
    exact decide_eq_false (by omega)
/-! ### from the front -/
/-- the windows by their columns, from the front -/
def fromFront (wide : Nat) (w : List (Nat × Nat)) : List (Nat × Nat) := w.map fun p => (wide - p.1, p.2)
theorem front_lt {n : Nat} : ∀ {a b : List (Nat × Nat)}, (∀ p ∈ a, p.1 ≤ n) → (∀ p ∈ b, p.1 ≤ n) → psLt (fromFront n a) (fromFront n b) = msLt a b
  | [], [], _, _ => rfl
  | [], _ :: _, _, _ => rfl
  | _ :: _, [], _, _ => rfl
  | p :: r, q :: t, h1, h2 => by
    have p1 := h1 p List.mem_cons_self
    have q1 := h2 q List.mem_cons_self
    unfold fromFront
    rw [List.map_cons, List.map_cons, psLt, msLt]
    have ih := front_lt (n := n) (a := r) (b := t) (fun x hx => h1 x (List.mem_cons_of_mem _ hx)) (fun x hx => h2 x (List.mem_cons_of_mem _ hx))
    unfold fromFront at ih
    obtain ⟨a, b⟩ := p
    obtain ⟨c, d⟩ := q
    have a1 : a ≤ n := p1
    have c1 : c ≤ n := q1
    by_cases e : (a, b) = (c, d)
    · rw [if_pos e]
      cases e
      rw [if_pos rfl]
      exact ih
    · rw [if_neg e, if_neg (fun z => e (by
        obtain ⟨z1, z2⟩ := Prod.mk.inj z
        have z1' : n - a = n - c := z1
        have : a = c := by omega
        rw [this]
        exact congrArg _ z2))]
      unfold pLt mLt
      rw [Bool.eq_iff_iff, decide_eq_true_iff, decide_eq_true_iff]
      show n - a < n - c ∨ (n - a = n - c ∧ b < d) ↔ c < a ∨ (a = c ∧ b < d)
      omega
end Dt
namespace Dt
open PySem PySem.Spec PyProof.Rows L2 L2X
/-! ### two drawings side by side, pure: what may stand in a column, and how much of a window is still to come -/
/-- dots, the state behind, the shape begun -/
abbrev St := Nat × Nat × Option Nat
/-- the states of a window of so many columns, the first of them n -/
def stsN (n w : Nat) : List Nat := (List.range (w - 1)).map (n + ·) ++ [0]
theorem stsN_len (n w : Nat) (h : 1 ≤ w) : (stsN n w).length = w := by
  unfold stsN
  rw [List.length_append, List.length_map, List.length_range]
  show w - 1 + 1 = w
  omega
theorem stsN_at {n w j : Nat} (h : j < w) : (stsN n w)[j]? = some (if j < w - 1 then n + j else 0) := by
  unfold stsN
  by_cases c : j < w - 1
  · rw [if_pos c, List.getElem?_append_left (by rw [List.length_map, List.length_range]; exact c), List.getElem?_map, List.getElem?_range c]
    rfl
  · have e : j = w - 1 := by omega
    rw [if_neg c, List.getElem?_append_right (by rw [List.length_map, List.length_range]; omega), List.length_map, List.length_range, e, Nat.sub_self]
    rfl
/-- the states that a shape brings -/
def newR (n : Nat) (cs : List Nat) : List (List St) := (List.zip (cs.drop 1) ((stsN n cs.length).drop 1)).map fun p => [(p.1, p.2, none)]
theorem newR_len (n : Nat) (cs : List Nat) (h : 1 ≤ cs.length) : (newR n cs).length = cs.length - 1 := by
  unfold newR
  rw [List.length_map, List.length_zip, List.length_drop, List.length_drop, stsN_len _ _ h, Nat.min_self]
theorem newR_at {n j : Nat} {cs : List Nat} (h : j < cs.length - 1) : (newR n cs)[j]? = some [(cs.getD (j + 1) 0, (if j + 1 < cs.length - 1 then n + (j + 1) else 0), none)] := by
  unfold newR
  have e1 : (cs.drop 1)[j]? = some (cs.getD (j + 1) 0) := by
    rw [List.getElem?_drop, Nat.add_comm 1 j, List.getD_eq_getElem?_getD, List.getElem?_eq_getElem (by omega)]
    rfl
  have e2 : ((stsN n cs.length).drop 1)[j]? = some (if j + 1 < cs.length - 1 then n + (j + 1) else 0) := by
    rw [List.getElem?_drop, Nat.add_comm 1 j, stsN_at (by omega)]
  rw [List.getElem?_map, (List.getElem?_zip_eq_some (z := (cs.getD (j + 1) 0, if j + 1 < cs.length - 1 then n + (j + 1) else 0))).mpr ⟨e1, e2⟩]
  rfl
/-- the columns of a shape, as numbers -/
def clk (ss : List Sh) (k : Nat) : List Nat := match ss[k]? with
  | some s => nums s.w s.rs
  | none => []
theorem clk_at {ss : List Sh} {k : Nat} {s : Sh} (h : ss[k]? = some s) : clk ss k = nums s.w s.rs := by
  unfold clk
  rw [h]
theorem clk_len (ss : List Sh) (k : Nat) : (clk ss k).length = wdt ss k := by
  unfold clk wdt
  cases ss[k]? with
  | none => rfl
  | some s =>
    show (nums s.w s.rs).length = s.w
    unfold nums colsW
    rw [List.length_map, List.length_map, List.length_range]
theorem drop_getD {cs : List Nat} {i : Nat} (h : i < cs.length) : cs.drop i = cs.getD i 0 :: cs.drop (i + 1) := by
  rw [List.drop_eq_getElem_cons h, List.getD_eq_getElem?_getD, List.getElem?_eq_getElem h]
  rfl
/-- the columns still to come in a state -/
def tl (rl : List (List Nat)) : Nat → List Nat
  | 0 => []
  | a + 1 => rl.getD a []
def rmv (rl : List (List Nat)) (a : Nat) : Nat := (tl rl a).length
theorem tl_app {rl ys : List (List Nat)} {s : Nat} (h : s ≤ rl.length) : tl (rl ++ ys) s = tl rl s := by
  match s, h with
  | 0, _ => rfl
  | a + 1, h =>
    show (rl ++ ys).getD a [] = rl.getD a []
    rw [List.getD_eq_getElem?_getD, List.getElem?_append_left (by omega), ← List.getD_eq_getElem?_getD]
/-- all that may stand in a column, by m shapes: b between windows, r within them, rl what is still to come -/
structure GSt (ss : List Sh) (high m : Nat) (b : List St) (r : List (List St)) (rl : List (List Nat)) : Prop where
  len : rl.length = r.length
  b0 : b[0]? = some (0, 0, none)
  bl : b.length = m + 1
  bk : ∀ k, k < m → ∃ c s, b[k + 1]? = some (c, s, some k) ∧ c < 2 ^ high ∧ s ≤ r.length ∧ clk ss k = c :: tl rl s
  rk : ∀ a es, r[a]? = some es → ∃ c s, es = [(c, s, none)] ∧ c < 2 ^ high ∧ s ≤ r.length ∧ rl.getD a [] = c :: tl rl s
theorem GSt.start (ss : List Sh) (high : Nat) : GSt ss high 0 [(0, 0, none)] [] [] :=
  ⟨rfl, rfl, rfl, (fun k h => nomatch h), (fun a es h => nomatch h)⟩
def newL (cs : List Nat) : List (List Nat) := (List.range (cs.length - 1)).map fun j => cs.drop (j + 1)
theorem newL_at {cs : List Nat} {j : Nat} (h : j < cs.length - 1) : (newL cs).getD j [] = cs.drop (j + 1) := by
  unfold newL
  rw [List.getD_eq_getElem?_getD, List.getElem?_map, List.getElem?_range h]
  rfl
theorem GSt.add {ss : List Sh} {high m : Nat} {b : List St} {r : List (List St)} {rl : List (List Nat)} (G : GSt ss high m b r rl) {cs : List Nat} (h1 : 1 ≤ cs.length) (hw : clk ss m = cs) (hc : ∀ c ∈ cs, c < 2 ^ high) :
    GSt ss high (m + 1) (b ++ [(cs.getD 0 0, (stsN (1 + r.length) cs.length).getD 0 0, some m)]) (r ++ newR (1 + r.length) cs) (rl ++ newL cs) := by
  have ln := newR_len (1 + r.length) cs h1
  have ll : (newL cs).length = cs.length - 1 := by unfold newL; rw [List.length_map, List.length_range]
  have lr := G.len
  have cb : ∀ j, j < cs.length → cs.getD j 0 < 2 ^ high := fun j hj => by
    rw [List.getD_eq_getElem?_getD, List.getElem?_eq_getElem hj]
    exact hc _ (List.getElem_mem hj)
  -- of a new state
  have nw : ∀ j, j < cs.length - 1 → tl (rl ++ newL cs) (1 + r.length + j) = cs.drop (j + 1) := fun j hj => by
    rw [show 1 + r.length + j = (rl.length + j) + 1 by omega]
    show (rl ++ newL cs).getD (rl.length + j) [] = _
    rw [List.getD_eq_getElem?_getD, List.getElem?_append_right (by omega), show rl.length + j - rl.length = j by omega, ← List.getD_eq_getElem?_getD]
    exact newL_at hj
  refine ⟨by rw [List.length_append, List.length_append, ll, ln, lr], ?_, by rw [List.length_append, G.bl]; rfl, fun k hk => ?_, fun a es he => ?_⟩
  · rw [List.getElem?_append_left (by rw [G.bl]; omega)]
    exact G.b0
  · by_cases c : k < m
    · obtain ⟨c0, s, e, c1, c2, c3⟩ := G.bk k c
      exact ⟨c0, s, by rw [List.getElem?_append_left (by rw [G.bl]; omega)]; exact e, c1, by rw [List.length_append]; omega, by rw [tl_app (by omega)]; exact c3⟩
    · obtain rfl : k = m := by omega
      refine ⟨_, _, by rw [List.getElem?_append_right (by rw [G.bl]; omega), G.bl, Nat.sub_self]; rfl, cb 0 (by omega), ?_, ?_⟩
      · rw [List.getD_eq_getElem?_getD, stsN_at (by omega), List.length_append, ln]
        show (if 0 < cs.length - 1 then 1 + r.length + 0 else 0) ≤ _
        split <;> omega
      · rw [List.getD_eq_getElem?_getD (l := stsN _ _), stsN_at (by omega), hw]
        show cs = _ :: tl _ (if 0 < cs.length - 1 then 1 + r.length + 0 else 0)
        have d0 := drop_getD (cs := cs) (i := 0) (by omega)
        rw [List.drop_zero] at d0
        split
        · next c => rw [nw 0 c]; exact d0
        · next c =>
          rw [List.drop_of_length_le (by omega)] at d0
          exact d0
  · by_cases c : a < r.length
    · rw [List.getElem?_append_left c] at he
      obtain ⟨c0, s, e, c1, c2, c3⟩ := G.rk a es he
      exact ⟨c0, s, e, c1, by rw [List.length_append]; omega, by rw [List.getD_eq_getElem?_getD, List.getElem?_append_left (by omega), ← List.getD_eq_getElem?_getD, tl_app (by omega)]; exact c3⟩
    · rw [List.getElem?_append_right (by omega)] at he
      have hj : a - r.length < cs.length - 1 := by
        rw [← ln]
        exact (List.getElem?_eq_some_iff.mp he).1
      rw [newR_at hj] at he
      cases he
      refine ⟨_, _, rfl, cb _ (by omega), ?_, ?_⟩
      · rw [List.length_append, ln]
        split <;> omega
      · have e0 : (rl ++ newL cs).getD a [] = cs.drop (a - r.length + 1) := by
          have := nw (a - r.length) hj
          rw [show 1 + r.length + (a - r.length) = a + 1 by omega] at this
          exact this
        rw [e0, drop_getD (by omega)]
        congr 1
        split
        · next c2 => rw [nw _ c2]
        · next c2 => exact List.drop_of_length_le (by omega)
/-- all that may stand in a column, by its state -/
def inSt (b : List St) (r : List (List St)) : Nat → List St
  | 0 => b
  | a + 1 => r.getD a []
theorem GSt.kind {ss : List Sh} {high : Nat} {b : List St} {r : List (List St)} {rl : List (List Nat)} (G : GSt ss high ss.length b r rl) {a : Nat} {e : St} (ha : a ≤ r.length) (he : e ∈ inSt b r a) :
    e.1 < 2 ^ high ∧ e.2.1 ≤ r.length ∧ ((e.2.2 = none ∧ ((a = 0 ∧ e = (0, 0, none)) ∨ tl rl a = e.1 :: tl rl e.2.1)) ∨ ∃ k, e.2.2 = some k ∧ a = 0 ∧ k < ss.length ∧ clk ss k = e.1 :: tl rl e.2.1) := by
  match a, ha with
  | 0, _ =>
    obtain ⟨i, hi⟩ := List.mem_iff_getElem?.mp (show e ∈ b from he)
    match i, hi with
    | 0, hi =>
      rw [G.b0] at hi
      cases hi
      exact ⟨Nat.two_pow_pos _, Nat.zero_le _, .inl ⟨rfl, .inl ⟨rfl, rfl⟩⟩⟩
    | k + 1, hi =>
      have hk : k < ss.length := by
        have := (List.getElem?_eq_some_iff.mp hi).1
        rw [G.bl] at this
        omega
      obtain ⟨c, s, e1, c1, c2, c3⟩ := G.bk k hk
      rw [e1] at hi
      cases hi
      exact ⟨c1, c2, .inr ⟨k, rfl, rfl, hk, c3⟩⟩
  | a + 1, ha =>
    have ea : r[a]? = some (r.getD a []) := by
      rw [List.getD_eq_getElem?_getD, List.getElem?_eq_getElem (by omega)]
      rfl
    obtain ⟨c, s, e1, c1, c2, c3⟩ := G.rk a _ ea
    have he' : e ∈ r.getD a [] := he
    rw [e1] at he'
    rw [List.mem_singleton.mp he']
    exact ⟨c1, c2, .inl ⟨rfl, .inr c3⟩⟩
/-! ### the ways on -/
/-- windows told from behind, none over another: m columns are left where one begins -/
def Vd (ss : List Sh) : Nat → List (Nat × Nat) → Prop
  | _, [] => True
  | lim, p :: r => p.1 ≤ lim ∧ p.2 < ss.length ∧ wdt ss p.2 ≤ p.1 ∧ Vd ss (p.1 - wdt ss p.2) r
theorem Vd.le {ss : List Sh} {a b : Nat} (h : a ≤ b) : ∀ {w : List (Nat × Nat)}, Vd ss a w → Vd ss b w
  | [], _ => trivial
  | _ :: _, ⟨x, y⟩ => ⟨Nat.le_trans x h, y⟩
/-- n columns, the first of them t, with these windows, drawn so -/
inductive Go (ss : List Sh) : Nat → List Nat → List (Nat × Nat) → List Nat → Prop
  | nil : Go ss 0 [] [] []
  | pend {n c : Nat} {t : List Nat} {w : List (Nat × Nat)} {cs : List Nat} : Go ss n t w cs → Go ss (n + 1) (c :: t) w (c :: cs)
  | white {n : Nat} {w : List (Nat × Nat)} {cs : List Nat} : Go ss n [] w cs → Go ss (n + 1) [] w (0 :: cs)
  | beg {n k c : Nat} {t : List Nat} {w : List (Nat × Nat)} {cs : List Nat} : k < ss.length → clk ss k = c :: t → Go ss n t w cs → Go ss (n + 1) [] ((n + 1, k) :: w) (c :: cs)
/-- how many dots two columns' numbers part -/
def dC : List Nat → List Nat → Nat
  | c :: a, d :: b => pc (c ^^^ d) + dC a b
  | _, _ => 0
def pre (n : Nat) (o : Option Nat) (w : List (Nat × Nat)) : List (Nat × Nat) := match o with
  | none => w
  | some k => (n + 1, k) :: w
/-- one column more -/
def joinP (n : Nat) (e f : St) (p : Pw) : Pw := (pc (e.1 ^^^ f.1) + p.1, pre n e.2.2 p.2)
theorem qLt_join {n : Nat} {e f : St} {p q : Pw} : qLt (joinP n e f p) (joinP n e f q) = qLt p q := by
  unfold qLt joinP
  have e1 : msLt (pre n e.2.2 p.2) (pre n e.2.2 q.2) = msLt p.2 q.2 := by
    cases e.2.2 with
    | none => rfl
    | some k =>
      show msLt ((n + 1, k) :: p.2) ((n + 1, k) :: q.2) = _
      rw [msLt, if_pos rfl]
  by_cases h : p.1 = q.1
  · rw [if_pos h, if_pos (by rw [h])]
    exact e1
  · rw [if_neg h, if_neg (by intro z; have z' : pc (e.1 ^^^ f.1) + p.1 = pc (e.1 ^^^ f.1) + q.1 := z; omega)]
    rw [Bool.eq_iff_iff, decide_eq_true_iff, decide_eq_true_iff]
    show pc (e.1 ^^^ f.1) + p.1 < pc (e.1 ^^^ f.1) + q.1 ↔ _
    omega
theorem Go.vd {ss : List Sh} : ∀ {n : Nat} {t : List Nat} {w : List (Nat × Nat)} {cs : List Nat}, Go ss n t w cs → t.length ≤ n ∧ Vd ss (n - t.length) w ∧ cs.length = n ∧ w.length ≤ n
  | _, _, _, _, .nil => ⟨Nat.le_refl _, trivial, rfl, Nat.le_refl _⟩
  | _, _, _, _, .pend (n := n) (t := t) (cs := cs) h => by
    obtain ⟨a, b, c, d⟩ := h.vd
    rw [List.length_cons, List.length_cons, show n + 1 - (t.length + 1) = n - t.length by omega]
    exact ⟨by omega, b, by omega, by omega⟩
  | _, _, _, _, .white (n := n) h => by
    obtain ⟨a, b, c, d⟩ := h.vd
    exact ⟨Nat.zero_le _, Vd.le (Nat.le_succ _) b, by rw [List.length_cons, c], by omega⟩
  | _, _, _, _, .beg (n := n) (k := k) (t := t) hk hc h => by
    obtain ⟨a, b, c, d⟩ := h.vd
    have lw := clk_len ss k
    rw [hc, List.length_cons] at lw
    refine ⟨Nat.zero_le _, ⟨Nat.le_refl _, hk, ?_, ?_⟩, by rw [List.length_cons, c], by rw [List.length_cons]; omega⟩
    · show wdt ss k ≤ n + 1
      omega
    · show Vd ss (n + 1 - wdt ss k) _
      rw [show n + 1 - wdt ss k = n - t.length by omega]
      exact b
theorem Go.inv {ss : List Sh} {high n a : Nat} {b : List St} {r : List (List St)} {rl : List (List Nat)} (G : GSt ss high ss.length b r rl) (ha : a ≤ r.length) {w : List (Nat × Nat)} {cs : List Nat} (h : Go ss (n + 1) (tl rl a) w cs) :
    ∃ e ∈ inSt b r a, ∃ w' cs', cs = e.1 :: cs' ∧ w = pre n e.2.2 w' ∧ Go ss n (tl rl e.2.1) w' cs' := by
  -- what stands within a window
  have wi : ∀ x, x < r.length → ∃ c s, (c, s, none) ∈ inSt b r (x + 1) ∧ tl rl (x + 1) = c :: tl rl s := fun x hx => by
    have ea : r[x]? = some (r.getD x []) := by
      rw [List.getD_eq_getElem?_getD, List.getElem?_eq_getElem (by omega)]
      rfl
    obtain ⟨c, s, e1, c1, c2, c3⟩ := G.rk x _ ea
    refine ⟨c, s, ?_, c3⟩
    show (c, s, none) ∈ r.getD x []
    rw [e1]
    exact List.mem_singleton.mpr rfl
  have z0 : tl rl a = [] → a = 0 := fun e => by
    match a, ha with
    | 0, _ => rfl
    | x + 1, hx =>
      obtain ⟨c, s, _, e2⟩ := wi x hx
      rw [e] at e2
      cases e2
  generalize ht : tl rl a = t at h
  cases h with
  | pend h =>
    match a, ha with
    | 0, _ => cases ht
    | x + 1, hx =>
      obtain ⟨c, s, m, e2⟩ := wi x hx
      rw [e2] at ht
      obtain ⟨rfl, rfl⟩ := List.cons.inj ht
      exact ⟨_, m, _, _, rfl, rfl, h⟩
  | white h =>
    obtain rfl := z0 ht
    exact ⟨(0, 0, none), List.mem_of_getElem? G.b0, _, _, rfl, rfl, h⟩
  | beg hk hc h =>
    obtain rfl := z0 ht
    obtain ⟨c0, s, e1, c1, c2, c3⟩ := G.bk _ hk
    rw [c3] at hc
    obtain ⟨rfl, rfl⟩ := List.cons.inj hc
    exact ⟨_, List.mem_of_getElem? e1, _, _, rfl, rfl, h⟩
theorem Go.of {ss : List Sh} {high n a : Nat} {b : List St} {r : List (List St)} {rl : List (List Nat)} (G : GSt ss high ss.length b r rl) (ha : a ≤ r.length) {e : St} (he : e ∈ inSt b r a) {w : List (Nat × Nat)} {cs : List Nat} (h : Go ss n (tl rl e.2.1) w cs) :
    Go ss (n + 1) (tl rl a) (pre n e.2.2 w) (e.1 :: cs) := by
  obtain ⟨_, _, ⟨o, ⟨rfl, rfl⟩ | t⟩ | ⟨k, o, rfl, hk, hc⟩⟩ := G.kind ha he
  · exact .white h
  · rw [o, t]
    exact .pend h
  · rw [o]
    exact .beg hk hc h
/-- what stands in the table, n columns from behind, at two states: the first of all pairs of ways on -/
structure EP (ss : List Sh) (rl : List (List Nat)) (n a b : Nat) (p : Pw) : Prop where
  lo : ∀ w cs w' cs', Go ss n (tl rl a) w cs → Go ss n (tl rl b) w' cs' → qLt (dC cs cs', w) p = false
  hit : p.1 < 1000000 → ∃ cs w' cs', Go ss n (tl rl a) p.2 cs ∧ Go ss n (tl rl b) w' cs' ∧ dC cs cs' = p.1
  ln : p.2.length ≤ n
theorem EP.zero {ss : List Sh} {rl : List (List Nat)} : EP ss rl 0 0 0 (0, []) :=
  ⟨fun w cs w' cs' h h' => by
    cases h
    cases h'
    rfl, fun _ => ⟨[], [], [], .nil, .nil, rfl⟩, Nat.le_refl _⟩
theorem EP.far {ss : List Sh} {high a b : Nat} {bs : List St} {r : List (List St)} {rl : List (List Nat)} (G : GSt ss high ss.length bs r rl) (ha : a ≤ r.length) (hb : b ≤ r.length) (h : ¬ (a = 0 ∧ b = 0)) {m : Nat} (hm : 1000000 ≤ m) : EP ss rl 0 a b (m, []) := by
  have z0 : ∀ x, x ≤ r.length → ∀ w cs, Go ss 0 (tl rl x) w cs → x = 0 := fun x hx w cs g => by
    match x, hx with
    | 0, _ => rfl
    | y + 1, hy =>
      have ea : r[y]? = some (r.getD y []) := by
        rw [List.getD_eq_getElem?_getD, List.getElem?_eq_getElem (by omega)]
        rfl
      obtain ⟨c, s, e1, c1, c2, c3⟩ := G.rk y _ ea
      have c3' : tl rl (y + 1) = c :: tl rl s := c3
      rw [c3'] at g
      cases g
  exact ⟨fun w cs w' cs' g g' => absurd ⟨z0 a ha _ _ g, z0 b hb _ _ g'⟩ h, fun z => absurd (show m < 1000000 from z) (by omega), Nat.zero_le _⟩
/-- p is the first of all that are joined of these -/
structure MJ (Φ : St → St → Prop) (A B : List St) (ss : List Sh) (rl : List (List Nat)) (n : Nat) (p : Pw) : Prop where
  one : ∃ e ∈ A, ∃ f ∈ B, Φ e f ∧ ∃ p0, EP ss rl n e.2.1 f.2.1 p0 ∧ p = joinP n e f p0
  all : ∀ e ∈ A, ∀ f ∈ B, Φ e f → ∃ p0, EP ss rl n e.2.1 f.2.1 p0 ∧ qLt (joinP n e f p0) p = false
theorem MJ.ep {ss : List Sh} {high n a b : Nat} {bs : List St} {r : List (List St)} {rl : List (List Nat)} (G : GSt ss high ss.length bs r rl) (ha : a ≤ r.length) (hb : b ≤ r.length) {p : Pw} (h : MJ (fun _ _ => True) (inSt bs r a) (inSt bs r b) ss rl n p) : EP ss rl (n + 1) a b p := by
  refine ⟨fun w cs w' cs' g g' => ?_, fun hp => ?_, ?_⟩
  · obtain ⟨e, he, w1, cs1, rfl, rfl, g1⟩ := g.inv G ha
    obtain ⟨f, hf, w2, cs2, rfl, rfl, g2⟩ := g'.inv G hb
    obtain ⟨p0, E, lt⟩ := h.all e he f hf trivial
    have l0 := E.lo _ _ _ _ g1 g2
    rw [← qLt_join (n := n) (e := e) (f := f)] at l0
    exact qLe_trans lt l0
  · obtain ⟨e, he, f, hf, _, p0, E, rfl⟩ := h.one
    obtain ⟨cs, w', cs', g, g', d⟩ := E.hit (by
      have : pc (e.1 ^^^ f.1) + p0.1 < 1000000 := hp
      omega)
    exact ⟨_, _, _, Go.of G ha he g, Go.of G hb hf g', by show pc (e.1 ^^^ f.1) + dC cs cs' = _; rw [d]; rfl⟩
  · obtain ⟨e, he, f, hf, _, p0, E, rfl⟩ := h.one
    have := E.ln
    show (pre n e.2.2 p0.2).length ≤ n + 1
    cases e.2.2 with
    | none =>
      show p0.2.length ≤ n + 1
      omega
    | some k =>
      show p0.2.length + 1 ≤ n + 1
      omega
/-! ### pairs that begin unlike -/
/-- which shape begins where n columns are left -/
def hdN (n : Nat) : List (Nat × Nat) → Option Nat
  | [] => none
  | p :: _ => if p.1 = n then some p.2 else none
theorem hd_pre {ss : List Sh} {n : Nat} {t : List Nat} {o : Option Nat} {w : List (Nat × Nat)} {cs : List Nat} (g : Go ss n t w cs) : hdN (n + 1) (pre n o w) = o := by
  cases o with
  | some k =>
    show (if n + 1 = n + 1 then some k else none) = some k
    rw [if_pos rfl]
  | none =>
    show hdN (n + 1) w = none
    obtain ⟨a, b, _⟩ := g.vd
    cases w with
    | nil => rfl
    | cons p w =>
      have := b.1
      show (if p.1 = n + 1 then some p.2 else none) = none
      rw [if_neg (by omega)]
theorem GSt.uniq {ss : List Sh} {high : Nat} {b : List St} {r : List (List St)} {rl : List (List Nat)} (G : GSt ss high ss.length b r rl) {e f : St} (he : e ∈ b) (hf : f ∈ b) (h : e.2.2 = f.2.2) : e = f := by
  have at_ : ∀ {e : St}, e ∈ b → (e = (0, 0, none) ∧ e.2.2 = none) ∨ ∃ k, e.2.2 = some k ∧ b[k + 1]? = some e := fun {e} he => by
    obtain ⟨i, hi⟩ := List.mem_iff_getElem?.mp he
    match i, hi with
    | 0, hi =>
      rw [G.b0] at hi
      cases hi
      exact .inl ⟨rfl, rfl⟩
    | k + 1, hi =>
      have hk : k < ss.length := by
        have := (List.getElem?_eq_some_iff.mp hi).1
        rw [G.bl] at this
        omega
      obtain ⟨c, s, e1, c1, c2, c3⟩ := G.bk k hk
      have e2 := e1
      rw [hi] at e2
      have e3 : e = (c, s, some k) := Option.some.inj e2
      exact .inr ⟨k, by rw [e3], hi⟩
  rcases at_ he with ⟨a, a2⟩ | ⟨k, a, a2⟩
  · rcases at_ hf with ⟨c, c2⟩ | ⟨j, c, c2⟩
    · rw [a, c]
    · rw [a2, c] at h
      cases h
  · rcases at_ hf with ⟨c, c2⟩ | ⟨j, c, c2⟩
    · rw [a, c2] at h
      cases h
    · rw [a, c] at h
      cases h
      rw [a2] at c2
      exact Option.some.inj c2
/-- the first of all pairs that begin unlike, n columns wide -/
structure UX (ss : List Sh) (n : Nat) (p : Pw) : Prop where
  lo : ∀ w cs w' cs', Go ss n [] w cs → Go ss n [] w' cs' → hdN n w ≠ hdN n w' → qLt (dC cs cs', w) p = false
  hit : p.1 < 1000000 → ∃ cs w' cs', Go ss n [] p.2 cs ∧ Go ss n [] w' cs' ∧ hdN n p.2 ≠ hdN n w' ∧ dC cs cs' = p.1
  ln : p.2.length ≤ n
theorem MJ.ux {ss : List Sh} {high n : Nat} {bs : List St} {r : List (List St)} {rl : List (List Nat)} (G : GSt ss high ss.length bs r rl) {p : Pw} (h : MJ (fun e f => e ≠ f) bs bs ss rl n p) : UX ss (n + 1) p := by
  refine ⟨fun w cs w' cs' g g' ne => ?_, fun hp => ?_, ?_⟩
  · obtain ⟨e, he, w1, cs1, rfl, rfl, g1⟩ := Go.inv (a := 0) G (Nat.zero_le _) g
    obtain ⟨f, hf, w2, cs2, rfl, rfl, g2⟩ := Go.inv (a := 0) G (Nat.zero_le _) g'
    rw [hd_pre g1, hd_pre g2] at ne
    obtain ⟨p0, E, lt⟩ := h.all e he f hf (fun z => ne (by rw [z]))
    have l0 := E.lo _ _ _ _ g1 g2
    rw [← qLt_join (n := n) (e := e) (f := f)] at l0
    exact qLe_trans lt l0
  · obtain ⟨e, he, f, hf, ne, p0, E, rfl⟩ := h.one
    obtain ⟨cs, w', cs', g, g', d⟩ := E.hit (by
      have : pc (e.1 ^^^ f.1) + p0.1 < 1000000 := hp
      omega)
    refine ⟨_, _, _, Go.of (a := 0) G (Nat.zero_le _) he g, Go.of (a := 0) G (Nat.zero_le _) hf g', ?_, by show pc (e.1 ^^^ f.1) + dC cs cs' = _; rw [d]; rfl⟩
    show hdN (n + 1) (pre n e.2.2 p0.2) ≠ _
    rw [hd_pre g, hd_pre g']
    exact fun z => ne (G.uniq he hf z)
  · obtain ⟨e, he, f, hf, _, p0, E, rfl⟩ := h.one
    have := E.ln
    show (pre n e.2.2 p0.2).length ≤ n + 1
    cases e.2.2 with
    | none =>
      show p0.2.length ≤ n + 1
      omega
    | some k =>
      show p0.2.length + 1 ≤ n + 1
      omega
end Dt
namespace L2X
open PySem PySem.Spec PyProof.Rows L2
theorem pi_listK {X : Cx} {K : PySem.W.Frag} {tg l : Expr} {tl : TE} (hK : X.K = K) (hl : PE X l tl) : PI X tg l (iList K tl) := by
  subst hK
  exact pi_list hl
end L2X
namespace Dt
open PySem PySem.Spec PyProof.Rows L2 L2X
open PySem.W (AlikeAll)
open SX (S)
/-! ### the table -/
abbrev sWg : Stmt := inClass cWy 1
abbrev nWg : List Str := ["self", "columns", "rest", "column", "white", "begun", "spelling", "_", "behind", "at"]
theorem scWg : FnScope nWg ["self"] (defScope sWg) := ⟨rfl, rfl, rfl, by decide +kernel, rfl, by decide +kernel, by decide +kernel⟩
def spWg (K : PySem.W.Frag) (C CS : Addr) : Sp := fun vs H Q _ => ∃ (p dx sp lw : Addr) (fs : List (Str × V)) (xs : List V) (wide : Nat) (ss : List Sh) (rs : List (List Nat)), vs = [.ref p] ∧ H p = some (.ins C dx fs) ∧
  fs.lookup ("spelling" : Str) = some (.ref sp) ∧ SplAt CS H sp ∧ fs.lookup ("windows" : Str) = some (.ref lw) ∧ H lw = some (.lst xs) ∧ WinT ss rs wide H xs wide ∧ wide ≤ 60 ∧ ss.length ≤ 16 ∧ (∀ k, k < ss.length → 1 ≤ wdt ss k) ∧ fs.lookup ("_first_windows" : Str) = none ∧
  ∀ l rl H', Same H H' → H l = none → H' l = some (.lst rl) → RowsT K H' rl 0 (tabW ss rs wide wide) → Q (.ref l) H'
section
variable {P : Program} {w : World} {K : PySem.W.Frag} {mg : Str → Option Value} {base : Heap} {C CS : Addr}
theorem ok_wg {f : Addr} {fd : FuncData} {k : Nat} (F : Fun K "_weighed" "Ways._weighed" sWg f fd) (T : Tx mg) (TW : Twy K mg C) (SP : Tsp K mg CS) (mi : mg "min" = none) (hz : mg "zip" = none) (re : mg "reversed" = none) (GF : Mm P w K mg base (k + 1) C "_first_windows" ["self", "column", "rest"] (spFW K C CS)) :
    FnOk P w K mg base CX0 (k + 2) f fd ["self"] (spWg K C CS) := by
  obtain ⟨fF, fdF, GF, mF, bF⟩ := GF.ex
  refine F.ok scWg (fun vs H Q E h => ?_) (fun cdv A outer s H vs Q E hr h => ?_)
  · obtain ⟨p, dx, sp, lw, _, _, _, _, _, rfl, _⟩ := h
    rfl
  · obtain ⟨p, dx, sp, lw, fs, xs, wide, ss, rs, rfl, hp, fS, aS, fW, hlw, WT, w60, s16, w1, fN, q⟩ := h
    have nd := scWg.nd
    have hu : (A.deeper (envOfC "Ways._weighed" (defScope sWg) s.heap.objs.size f cdv)).units + 64 < cLine := by
      have := hr.un
      omega
    refine ⟨_, pss_cons (ps_set (i := 1) nd rfl (.inl rfl) (pe_callB call_len_seq (by rfl) T.len PySem.boot_len (pa_cons (pe_fld (pv 0) rfl) pa_nil)))
      (C8.pss_cut (ps_setLc (i := 2) (own := [("_", 7)]) (g := gName 7) (tt := tYes) (by rfl) nd rfl rfl (sw_true rfl rfl rfl (by decide +kernel)) (pi_range1 rfl T.range (pa_cons (pe_op op_add (pv 1) pe_int) pa_nil)) (blkOk_by (N := nWg) (sc := defScope sWg) (by decide +kernel)) (fun _ _ _ _ _ => pg_name (i := 7) nd rfl (Or.inl rfl)) (fun _ _ _ _ _ => pts_nil)
          (fun _ _ _ _ _ => pe_lc (own := [("_", 7)]) (g := gName 7) (tt := tYes) rfl nd (pi_listK (K := K) rfl (pe_fldK (K := K) rfl (pe_fldK (K := K) rfl (pv 0) rfl) rfl)) (blkOk_by (N := nWg) (sc := { kind := .function, names := [(".0", .local), ("_", .local), ("self", .cell)], isGenerator := false, isCoroutine := false }) (by decide +kernel)) (fun _ _ _ _ _ => pg_name (i := 7) nd rfl (Or.inl rfl)) (fun _ _ _ _ _ => pts_nil)
            (fun _ _ _ _ _ => pe_tup (pa_cons pe_int (pa_cons (pe_tup pa_nil) pa_nil)))))
      (pss_cons (ps_for PassesOwn.never rfl (pi_revR rfl re (prg_1 rfl T.range (pv 1))) (pg_name (i := 3) nd rfl (Or.inl rfl))
        (pss_cons (ps_set (i := 4) nd rfl (.inr rfl) (pe_ix (r := rIxL K) ix_list (pv 2) (pe_op op_add (pv 3) pe_int) (fun _ _ => rfl)))
        (C8.pss_cut (ps_set (i := 5) nd rfl (.inr rfl) (pe_meth (pv 0) TW.cl mF GF hr bF .nil pass0 (pa_cons (pv 3) (pa_cons (pv 2) pa_nil))))
        (pss_cons (ps_set (i := 6) nd rfl (.inl rfl) (pe_fld (pv 0) rfl))
        (pss_one (ps_asg (pe_lc (own := [("behind", 8), ("at", 9)]) (g := gTup K 2 (gCons (gName 8) (gCons (gName 9) gNil))) (tt := tYes) rfl nd (pi_zipG (by rfl) hz (pa_cons (pe_fld (pv 6) rfl) (pa_cons (pe_fld (pv 6) rfl) pa_nil))) (blkOk_by (N := nWg) (sc := defScope sWg) (by decide +kernel))
            (fun _ _ _ _ _ => pg_tup rfl (pgs_cons (pg_name (i := 8) nd rfl (Or.inl rfl)) (pgs_cons (pg_name (i := 9) nd rfl (Or.inl rfl)) pgs_nil))) (fun _ _ _ _ _ => pts_nil)
            (fun _ _ _ _ _ => pe_callB (cr_min2DK (K := K) rfl rfl hu) (by rfl) mi (by decide +kernel) (pa_cons (pe_ix (r := rIxL K) ix_list (pv 4) (pv 8) (fun _ _ => rfl)) (pa_cons (pe_ix (r := rIxL K) ix_list (pv 5) (pv 9) (fun _ _ => rfl)) pa_nil)))) (pg_sub (pv 2) (pv 3) set_list)))))))
      (pss_one (ps_ret (pv 2))))), ?_⟩
    obtain ⟨dx2, fs2, hsp, F2⟩ := id aS
    obtain ⟨lbe, fbe, hbe⟩ := F2.be
    obtain ⟨lbw, fbw, hbw⟩ := F2.bw
    refine ⟨.ref p, rfl, p, C, dx, fs, .ref lw, rfl, hp, TW.cl, TW.n3, fW, lw, xs, rfl, .inl (SqL.of hlw), ?_⟩
    rw [WT.1]
    -- the rows before they are weighed
    refine ⟨fun σ' H' => ∃ g rl, σ' = [some (.ref p), some (.int wide), some (.ref g), none, none, none, none, none, none, none] ∧ Same H H' ∧ H g = none ∧ H' g = some (.lst rl) ∧ rl.length = wide + 1 ∧ ∀ x ∈ rl, ∃ l, x = .ref l ∧ l ≠ g ∧ Two K H' l (0, []), ?_, ?_⟩
    · refine ⟨.int wide, rfl, _, _, rfl, rfl, _, rfl, by omega, by omega, fun D hD => ?_⟩
      refine lc_range (lo := 0) (n := wide + 1) (fun i H2 => Same H H2 ∧ ∃ zs, H2 D = some (.lst zs) ∧ zs.length = i ∧ ∀ x ∈ zs, ∃ l, x = .ref l ∧ l ≠ D ∧ Two K H2 l (0, [])) ⟨same_upd hD, [], upd_same, rfl, fun x h => nomatch h⟩ ?_ ?_
      · rintro i H2 hi ⟨sm, zs, h2, lz, tw⟩
        refine ⟨rfl, .ref p, rfl, p, C, dx, fs, .ref sp, rfl, sm _ _ hp, TW.cl, TW.n1, fS, sp, CS, dx2, fs2, .ref lbe, rfl, sm _ _ hsp, SP.cl, SP.n2, fbe, lbe, rfl, ⟨_, SqL.of (sm _ _ hbe)⟩, fun D2 hD2 => lc_list (K := K) (a := lbe) (xs := [V.int 0, V.int 1]) (fun j H3 => Same H2 H3 ∧ ∃ ws, H3 D2 = some (.lst ws) ∧ Wys K H3 ws (List.replicate j (0, []))) ⟨same_upd hD2, [], upd_same, Wys.nil⟩ (fun j H3 _ z => SqL.of (z.1 _ _ (sm _ _ hbe))) ?_ ?_⟩
        · rintro j x H3 hx ⟨sm3, ws, h3, W3⟩
          have hj : j < 2 := (List.getElem?_eq_some_iff.mp hx).1
          refine ⟨rfl, by show 0 ≤ sizeLine; decide, fun e he => ⟨by show 2 ≤ sizeLine; decide, fun t ht => ⟨ws, ?_, ?_, same_over ((sm3.trans (same_upd he)).trans (same_upd ht)) hD2, ws ++ [.ref t], upd_same, ?_⟩⟩⟩
          · exact same_upd ht _ _ (same_upd he _ _ h3)
          · rw [W3.len, List.length_replicate]
            exact small1000 (by omega)
          · have sA := (same_upd (o := .tup []) he).trans (same_upd (o := .tup [V.int 0, V.ref e]) ht)
            have tkD : Tk (upd (upd H3 e (.tup [])) t (.tup [V.int 0, V.ref e])) (upd (upd (upd H3 e (.tup [])) t (.tup [V.int 0, V.ref e])) D2 (.lst (ws ++ [V.ref t]))) := Tk.upd (sA _ _ h3) (fun _ z => by cases z) (fun _ _ z => by cases z)
            rw [List.replicate_succ']
            exact ((W3.tk (.same sA)).tk tkD).add (WyA.tk ⟨t, e, [], rfl, SqT.of upd_same, SqT.of (same_upd ht _ _ upd_same), ⟨rfl, fun i x z h => nomatch h⟩⟩ tkD)
        · rintro H3 ⟨sm3, ws, h3, W3⟩
          have l3 : ws.length = 2 := W3.len
          obtain ⟨x0, x1, rfl⟩ : ∃ x0 x1, ws = [x0, x1] := by
            match ws, l3 with
            | [a, b], _ => exact ⟨a, b, rfl⟩
          have nDD : D2 ≠ D := by
            rintro rfl
            rw [h2] at hD2
            cases hD2
          have tkD : Tk H3 (upd H3 D (.lst (zs ++ [V.ref D2]))) := Tk.upd (sm3 _ _ h2) (fun _ z => by cases z) (fun _ _ z => by cases z)
          refine ⟨zs, sm3 _ _ h2, ?_, same_over (sm.trans sm3) hD, zs ++ [.ref D2], upd_same, ?_, fun x hx => ?_⟩
          · rw [lz]
            exact small1000 (by omega)
          · rw [List.length_append, lz]
            rfl
          · rcases List.mem_append.mp hx with hx | hx
            · obtain ⟨l, rfl, nl, y0, y1, e, a, b⟩ := tw x hx
              refine ⟨l, rfl, nl, y0, y1, ?_, (a.same sm3).tk tkD, (b.same sm3).tk tkD⟩
              rw [upd_ne nl]
              exact sm3 _ _ e
            · refine ⟨D2, List.mem_singleton.mp hx, nDD, x0, x1, ?_, (W3.at_ 0 x0 _ rfl rfl).tk tkD, (W3.at_ 1 x1 _ rfl rfl).tk tkD⟩
              rw [upd_ne nDD]
              exact h3
      · rintro H2 ⟨sm, zs, h2, lz, tw⟩
        exact ⟨D, zs, rfl, sm, hD, h2, lz, tw⟩
    rintro _ H2 ⟨g, rl0, rfl, s2, ng, hg, lr, tw⟩
    have en : ((wide : Int) - 0).toNat = wide := by omega
    refine ⟨.int wide, rfl, _, rfl, by omega, by omega, by omega, by omega, ?_⟩
    rw [en]
    refine for_rangeC (c := -1) (n := wide) (fun i σ H3 => ∃ y3 y4 y5 y6 rl, σ = [some (.ref p), some (.int wide), some (.ref g), y3, y4, y5, y6, none, none, none] ∧ Same H H3 ∧ H3 g = some (.lst rl) ∧ rl.length = wide + 1 ∧ V.ref g ∉ rl ∧ RowsT K H3 rl (wide - i) (tabW ss rs wide i)) ⟨none, none, none, none, rl0, rfl, s2, hg, lr, ?_, ?_⟩ ?_ ?_
    · intro z
      obtain ⟨l, e, ne, _⟩ := tw _ z
      cases e
      exact ne rfl
    · intro j y hy
      have hj : j < 1 := (List.getElem?_eq_some_iff.mp hy).1
      obtain rfl : j = 0 := by omega
      cases hy
      have hw : wide < rl0.length := by omega
      obtain ⟨l, e, _, t2⟩ := tw _ (List.getElem_mem hw)
      exact ⟨l, by rw [Nat.add_zero, Nat.sub_zero, List.getElem?_eq_getElem hw, e], t2⟩
    · rintro i σ H3 hi ⟨y3, y4, y5, y6, rl, rfl, s3, hg3, lr3, ngr, RT⟩
      have ec : (0 + (wide : Int) - 1 + (i : Nat) * -1) = ((wide - 1 - i : Nat) : Int) := by omega
      rw [ec]
      generalize hc : wide - 1 - i = c
      have cw : c + (i + 1) = wide := by omega
      have wi : wide - i = c + 1 := by omega
      rw [wi] at RT
      have lT : (tabW ss rs wide i).length = i + 1 := (tab_len ss rs wide i).1
      obtain ⟨l0, el0, x0, x1, hl0, wx0, wx1⟩ := RT 0 _ (List.getElem?_eq_getElem (by omega))
      have eT0 : (tabW ss rs wide i)[0]'(by omega) = (tabW ss rs wide i).getD 0 nowW := by
        rw [List.getD_eq_getElem?_getD, List.getElem?_eq_getElem (by omega)]
        rfl
      rw [eT0] at wx0 wx1
      refine ⟨.ref g, rfl, .int c, rfl, _, _, rfl, rfl, g, rl, _, .ref l0, rfl, rfl, SqL.of hg3, ?_, ?_⟩
      · rw [show ((c : Int) + 1) = ((c + 1 : Nat) : Int) by omega]
        exact atI_nat (by simpa using el0)
      -- the least that begins here
      refine ⟨fun σ' H' => ∃ lb, σ' = [some (.ref p), some (.int wide), some (.ref g), some (.int c), some (.ref l0), some (.ref lb), y6, none, none, none] ∧ Same H3 H' ∧ Two K H' lb (minW nowW (hereW ss rs wide c (tabW ss rs wide i))), ?_, ?_⟩
      · exact ⟨.ref p, rfl, p, dx, fs, rfl, s3 _ _ hp, fN, .int c, rfl, .ref g, rfl, p, dx, sp, lw, g, fs, xs, rl, c, i, wide, ss, rs, rfl, s3 _ _ hp, fS, ⟨dx2, fs2, s3 _ _ hsp, ⟨F2.st, let ⟨l, a, b⟩ := F2.be; ⟨l, a, s3 _ _ b⟩, let ⟨l, a, b⟩ := F2.bw; ⟨l, a, s3 _ _ b⟩, F2.ss, let ⟨l, a, b⟩ := F2.sp; ⟨l, a, s3 _ _ b⟩, let ⟨l, d1, d2, a, b, e1, e2⟩ := F2.kn; ⟨l, d1, d2, a, s3 _ _ b, s3 _ _ e1, s3 _ _ e2⟩⟩⟩, fW, s3 _ _ hlw, WT.same s3, cw, w60, s16, w1, hg3, RT, fun l H' s' nl tw' => ⟨l, rfl, s', tw'⟩⟩
      rintro _ H4 ⟨lb, rfl, s4, b0, b1, hlb, wb0, wb1⟩
      have s34 : Same H H4 := s3.trans s4
      refine ⟨.ref p, rfl, p, C, dx, fs, .ref sp, rfl, s34 _ _ hp, TW.cl, TW.n1, fS, ?_⟩
      refine ⟨.ref sp, rfl, sp, CS, dx2, fs2, .ref lbw, rfl, s34 _ _ hsp, SP.cl, SP.n3, fbw, .ref sp, rfl, sp, CS, dx2, fs2, .ref lbe, rfl, s34 _ _ hsp, SP.cl, SP.n2, fbe, .lst lbw, .lst lbe, [V.int 0, V.int 0], [V.int 0, V.int 1], rfl, SqL.of (s34 _ _ hbw), SqL.of (s34 _ _ hbe), fun D hD => lc_zipG (K := K) (A := .lst lbw) (B := .lst lbe) (xs := [V.int 0, V.int 0]) (ys := [V.int 0, V.int 1]) rfl
        (fun j H5 => Same H4 H5 ∧ ∃ zs, H5 D = some (.lst zs) ∧ Wys K H5 zs (List.replicate j (stepW ss rs wide c (tabW ss rs wide i)))) ⟨same_upd hD, [], upd_same, Wys.nil⟩ (fun j H5 _ z => ⟨SqL.of (z.1 _ _ (s34 _ _ hbw)), SqL.of (z.1 _ _ (s34 _ _ hbe))⟩) ?_ ?_⟩
      · rintro j x y H5 T' hx hy ⟨sm, zs, h5, W5⟩ nT
        have hj : j < 2 := (List.getElem?_eq_some_iff.mp hx).1
        have ex : x = V.int 0 := by
          rcases (by omega : j = 0 ∨ j = 1) with rfl | rfl <;> cases hx <;> rfl
        subst ex
        obtain ⟨bj, ey, eb, wbj⟩ : ∃ bj, y = V.int (j : Nat) ∧ ([b0, b1] : List V)[j]? = some bj ∧ WyA K H4 bj (minW nowW (hereW ss rs wide c (tabW ss rs wide i))) := by
          rcases (by omega : j = 0 ∨ j = 1) with rfl | rfl <;> cases hy
          · exact ⟨b0, rfl, rfl, wb0⟩
          · exact ⟨b1, rfl, rfl, wb1⟩
        subst ey
        have sT := same_upd (o := .tup [V.int 0, V.int (j : Nat)]) nT
        have s45 : Same H4 (upd H5 T' (.tup [V.int 0, V.int (j : Nat)])) := sm.trans sT
        have hl0' := s45 _ _ (s4 _ _ hl0)
        have wx := (wx0.same s4).same s45
        have wy := wbj.same s45
        refine ⟨T', _, rfl, SqT.of upd_same, rfl, _, _, rfl, _, _, rfl, rfl, rfl, .ref l0, rfl, .int 0, rfl, l0, _, 0, x0, rfl, rfl, SqL.of hl0', rfl, .ref lb, rfl, .int (j : Nat), rfl, lb, [b0, b1], (j : Nat), bj, rfl, rfl, SqL.of (s45 _ _ hlb), atI_nat eb, x0, bj, yD ((tabW ss rs wide i).getD 0 nowW), yD (minW nowW (hereW ss rs wide c (tabW ss rs wide i))), rfl, wx.dp, wy.dp, yDs_alike [_, _], Nat.le_trans (yDs_depth [_, _]) (by decide), zs, sT _ _ h5, ?_, same_over s45 hD, zs ++ [_], upd_same, ?_⟩
        · rw [W5.len, List.length_replicate]
          exact small1000 (by omega)
        · have tkD : ∀ v, Tk (upd H5 T' (.tup [V.int 0, V.int (j : Nat)])) (upd (upd H5 T' (.tup [V.int 0, V.int (j : Nat)])) D (.lst (zs ++ [v]))) := fun v => Tk.upd (sT _ _ h5) (fun _ z => by cases z) (fun _ _ z => by cases z)
          rw [List.replicate_succ', dlt_yD]
          refine ((W5.tk (.same sT)).tk (tkD _)).add ?_
          unfold stepW
          by_cases cc : wLt (minW nowW (hereW ss rs wide c (tabW ss rs wide i))) ((tabW ss rs wide i).getD 0 nowW) = true
          · rw [if_pos cc, if_pos cc]
            exact wy.tk (tkD _)
          · rw [if_neg cc, if_neg cc]
            exact wx.tk (tkD _)
      · rintro H5 ⟨sm, zs, h5, W5⟩
        have l5 : zs.length = 2 := W5.len
        obtain ⟨z0, z1, rfl⟩ : ∃ z0 z1, zs = [z0, z1] := by
          match zs, l5 with
          | [a, b], _ => exact ⟨a, b, rfl⟩
        have s5 : Same H3 H5 := s4.trans sm
        have hg5 := s5 _ _ hg3
        have Dg : D ≠ g := by
          rintro rfl
          rw [s4 _ _ hg3] at hD
          cases hD
        have tkG : Tk H5 (upd H5 g (.lst (rl.set c (.ref D)))) := Tk.upd hg5 (fun _ z => by cases z) (fun _ _ z => by cases z)
        have cl : c < rl.length := by omega
        refine ⟨.ref g, rfl, .int c, rfl, g, rl, c, c, rfl, rfl, hg5, ixN_at cl, some (.int c), some (.ref l0), some (.ref lb), some (.ref sp), rl.set c (.ref D), rfl, same_over (s3.trans s5) ng, upd_same, by rw [List.length_set]; exact lr3, ?_, ?_⟩
        · intro z
          rcases List.mem_or_eq_of_mem_set z with z | z
          · exact ngr z
          · cases z
            exact Dg rfl
        · have ew : wide - (i + 1) = c := by omega
          rw [ew]
          intro j y hy
          have tw : tabW ss rs wide (i + 1) = stepW ss rs wide c (tabW ss rs wide i) :: tabW ss rs wide i := by
            rw [tabW, ew]
          rw [tw] at hy
          cases j with
          | zero =>
            cases hy
            refine ⟨D, by rw [Nat.add_zero, List.getElem?_set_self cl], z0, z1, ?_, (W5.at_ 0 z0 _ rfl rfl).tk tkG, (W5.at_ 1 z1 _ rfl rfl).tk tkG⟩
            rw [upd_ne Dg]
            exact h5
          | succ j =>
            obtain ⟨l, el, v0, v1, e, a, b⟩ := RT j y hy
            have lg : l ≠ g := by
              rintro rfl
              exact ngr (List.mem_of_getElem? el)
            refine ⟨l, ?_, v0, v1, ?_, (a.same s5).tk tkG, (b.same s5).tk tkG⟩
            · rw [List.getElem?_set_ne (by omega)]
              rw [show c + (j + 1) = c + 1 + j by omega]
              exact el
            · rw [upd_ne lg]
              exact s5 _ _ e
    · rintro σ H3 ⟨y3, y4, y5, y6, rl, rfl, s3, hg3, lr3, ngr, RT⟩
      rw [Nat.sub_self] at RT
      exact ⟨_, rfl, q g rl _ s3 ng hg3 RT⟩
end
end Dt
namespace Dt
open PySem PySem.Spec PyProof.Rows L2 L2X
open SX (S)
/-! ### draws out of the script's own numbers -/
/-- the draws at d, the numbers left at q -/
def Ds (H : Hp) (d q : Addr) : Prop := ∃ (a b : Int) (cs : List Int), H d = some (.lst [.int a, .int b, .ref q]) ∧ H q = some (.lst (cs.map V.int)) ∧ q ≠ d ∧ 0 ≤ a ∧ a < 2147483648 ∧ 0 ≤ b
/-- all but the two stays -/
def Dq (d q : Addr) (H H' : Hp) : Prop := ∀ b o, H b = some o → b ≠ d → b ≠ q → H' b = some o
theorem Dq.refl {d q : Addr} {H : Hp} : Dq d q H H := fun _ _ e _ _ => e
theorem Dq.trans {d q : Addr} {H H1 H2 : Hp} (a : Dq d q H H1) (b : Dq d q H1 H2) : Dq d q H H2 := fun x o e h1 h2 => b x o (a x o e h1 h2) h1 h2
theorem Dq.same {d q : Addr} {H H' : Hp} (a : Same H H') : Dq d q H H' := fun b o e _ _ => a b o e
theorem Ds.same {H H' : Hp} {d q : Addr} (D : Ds H d q) (s : Same H H') : Ds H' d q := by
  obtain ⟨a, b, cs, h1, h2, r⟩ := D
  exact ⟨a, b, cs, s _ _ h1, s _ _ h2, r⟩
theorem Ds.new {H : Hp} {d q p : Addr} (D : Ds H d q) (h : H p = none) : p ≠ d ∧ p ≠ q := by
  obtain ⟨a, b, cs, h1, h2, r⟩ := D
  exact ⟨(fun e => by rw [e, h1] at h; cases h), (fun e => by rw [e, h2] at h; cases h)⟩
theorem Ds.upd {H : Hp} {d q p : Addr} {o : HO} (D : Ds H d q) (h1 : p ≠ d) (h2 : p ≠ q) : Ds (upd H p o) d q := by
  obtain ⟨a, b, cs, e1, e2, r⟩ := D
  exact ⟨a, b, cs, by rw [upd_ne h1.symm]; exact e1, by rw [upd_ne h2.symm]; exact e2, r⟩
theorem Dq.nn {d q p : Addr} {H H' : Hp} (a : Dq d q H H') (D : Ds H' d q) (h : H' p = none) : H p = none := by
  cases e : H p with
  | none => rfl
  | some o =>
    rw [a _ _ e (D.new h).1 (D.new h).2] at h
    cases h
/-- what was under no watch ahead may change -/
theorem Dq.upd {d q p : Addr} {H H' : Hp} {o : HO} (a : Dq d q H H') (h : H p = none) : Dq d q H (upd H' p o) := fun b u e n m => by
  rw [upd_ne (ne_of_none e h)]
  exact a _ _ e n m
theorem Dq.tup {d q a : Addr} {H H' : Hp} {xs : List V} (s : Dq d q H H') (D : Ds H d q) (h : H a = some (.tup xs)) : H' a = some (.tup xs) := by
  obtain ⟨_, _, _, h1, h2, _⟩ := D
  exact s _ _ h (ne_of h h1 (by intro z; cases z)) (ne_of h h2 (by intro z; cases z))
abbrev sDw : Stmt := topS 71
abbrev nDw : List Str := ["s", "top", "cell", "left"]
theorem scDw : FnScope nDw ["s", "top"] (defScope sDw) := ⟨rfl, rfl, rfl, by decide +kernel, rfl, by decide +kernel, by decide +kernel⟩
def spDw : Sp := fun vs H Q _ => ∃ (d q : Addr) (top : Int), vs = [.ref d, .int top] ∧ Ds H d q ∧ 0 < top ∧ top < 1073741824 ∧ ∀ (m : Int) (H' : Hp), 0 ≤ m → m < top → Ds H' d q → Dq d q H H' → Q (.int m) H'
abbrev sDp : Stmt := topS 72
theorem scDp : FnScope ["s", "some"] ["s", "some"] (defScope sDp) := ⟨rfl, rfl, rfl, by decide +kernel, rfl, by decide +kernel, by decide +kernel⟩
/-- of a list, or of a text -/
def spDp (K : PySem.W.Frag) : Sp := fun vs H Q _ => ∃ (d q : Addr) (x : V), vs = [.ref d, x] ∧ Ds H d q ∧
  ((∃ (l : Addr) (xs : List V), x = .ref l ∧ l ≠ d ∧ l ≠ q ∧ H l = some (.lst xs) ∧ 0 < xs.length ∧ xs.length ≤ 1000 ∧ ∀ (j : Nat) (y : V) (H' : Hp), xs[j]? = some y → Ds H' d q → Dq d q H H' → Q y H') ∨
   (∃ (z : Str), x = .str z ∧ 0 < z.length ∧ z.length ≤ 1000 ∧ ∀ (c : Nat) (H' : Hp), c ∈ z.cps.toList → Ds H' d q → Dq d q H H' → Q (.str ⟨#[c]⟩) H'))
abbrev sDb : Stmt := topS 70
theorem scDb : FnScope ["script"] ["script"] (defScope sDb) := ⟨rfl, rfl, rfl, by decide +kernel, rfl, by decide +kernel, by decide +kernel⟩
def spDb (K : PySem.W.Frag) : Sp := fun vs H Q _ => ∃ (a : Addr) (ns : List Int), vs = [.ref a] ∧ SqL K H a (ns.map V.int) ∧ ns.length ≤ 63 ∧ ∀ (d q : Addr) (H' : Hp), H d = none → Same H H' → Ds H' d q → Q (.ref d) H'
theorem lay_ints : ∀ cs : List Int, PyData.canLayAll0 (cs.map PyData.int) = true ∧ PyData.depthAll (cs.map PyData.int) ≤ 1
  | [] => ⟨by simp [PyData.canLayAll0], by simp [PyData.depthAll]⟩
  | c :: r => by
    obtain ⟨h1, h2⟩ := lay_ints r
    refine ⟨?_, ?_⟩
    · rw [List.map_cons]
      simp [PyData.canLayAll0, PyData.canLay0, h1]
    · rw [List.map_cons]
      simp only [PyData.depthAll, PyData.depth]
      omega
theorem dp_ints {K : PySem.W.Frag} {H : Hp} : ∀ cs : List Int, DpAll K H (cs.map V.int) (cs.map PyData.int)
  | [] => .nil
  | c :: r => .cons (.int c) (dp_ints r)
theorem ints_ne {K : PySem.W.Frag} {H : Hp} {l e : Addr} {cs : List Int} (hl : H l = some (.lst (cs.map V.int))) (he : H e = some (.lst [])) {Q : VK} (q : Q (.bl (!cs.isEmpty)) H) : rNeD K (.ref l) (.ref e) H Q := by
  obtain ⟨h1, h2⟩ := lay_ints cs
  refine ⟨.list (cs.map .int), .list [], .lst (SqL.of hl) (dp_ints cs), .lst (SqL.of he) .nil, ?_, by decide +kernel, ?_⟩
  · unfold SeqAt.shaped
    rw [Bool.and_eq_true, decide_eq_true_iff]
    refine ⟨by simp [PyData.canLay0, h1], ?_⟩
    simp only [PyData.depth]
    omega
  · have e : PyData.eqv (.list (cs.map .int)) (.list []) = cs.isEmpty := by
      cases cs with
      | nil => simp [PyData.eqv, PyData.eqvAll]
      | cons a r => simp [PyData.eqv, PyData.eqvAll]
    rw [e]
    exact q
section
variable {P : Program} {w : World} {K : PySem.W.Frag} {mg : Str → Option Value} {base : Heap}
theorem ok_db {f : Addr} {fd : FuncData} {k : Nat} (F : Fun K "_law_begun" "_law_begun" sDb f fd) (T : Tx mg) : FnOk P w K mg base CX0 (k + 1) f fd ["script"] (spDb K) := by
  refine F.ok scDb (fun vs H Q E h => ?_) (fun cdv A outer s H vs Q E hr h => ?_)
  · obtain ⟨_, _, rfl, _⟩ := h
    rfl
  · obtain ⟨a, ns, rfl, ha, hl, q⟩ := h
    refine ⟨_, pss_one (ps_ret (pe_lst (pa_cons (pe_op op_add (pe_callB call_len_seq (by rfl) T.len PySem.boot_len (pa_cons (pv 0) pa_nil)) pe_int) (pa_cons pe_int (pa_cons (pe_callTy call_list_of (by rfl) T.list (by decide +kernel) (pa_cons (pv 0) pa_nil)) pa_nil))))), ?_⟩
    refine ⟨.ref a, rfl, a, ns.map V.int, rfl, .inl ha, _, 17, rfl, rfl, .ref a, rfl, a, ns.map V.int, rfl, .inl ha, fun c hc => ?_⟩
    have s1 := same_upd (o := .lst (ns.map V.int)) hc
    have e1 := upd_same (H := H) (a := c) (o := .lst (ns.map V.int))
    generalize upd H c (.lst (ns.map V.int)) = H1 at s1 e1 ⊢
    refine ⟨by show 3 ≤ sizeLine; decide, fun d hd => ?_⟩
    have s2 := same_upd (o := .lst [V.int (((ns.map V.int).length : Nat) + 17), V.int 0, V.ref c]) hd
    refine q d c _ (s1.free hd) (s1.trans s2) ⟨_, 0, ns, upd_same, s2 _ _ e1, ne_of_none e1 hd, by omega, ?_, Int.le_refl _⟩
    rw [List.length_map]
    omega
theorem ok_dw {f : Addr} {fd : FuncData} {k : Nat} (F : Fun K "_law_draw" "_law_draw" sDw f fd) (mx : mg "max" = none) : FnOk P w K mg base CX0 (k + 1) f fd ["s", "top"] spDw := by
  refine F.ok scDw (fun vs H Q E h => ?_) (fun cdv A outer s H vs Q E hr h => ?_)
  · obtain ⟨_, _, _, rfl, _⟩ := h
    rfl
  · obtain ⟨d, q', top, rfl, D, t0, t1, q⟩ := h
    have nd := scDw.nd
    refine ⟨_, C8.pss_cut (ps_if (PW.pt (pw_and (pt_cmpR op_lt (pe_ix ix_list (pv 0) pe_int (fun _ _ => rfl)) pe_int (nomark _)) (pw_and1 (pt_cmpR (op_neD hr.units) (pe_ix ix_list (pv 0) pe_int (fun _ _ => rfl)) (pe_lst pa_nil) (nomark _)))))
        (pss_cons (ps_set (i := 2) nd rfl (.inl rfl) (pe_bm PySem.F.plainAttrs_list PySem.F.slot_list_pop PySem.F.type_list_pop mt_popAt (pe_ix ix_list (pv 0) pe_int (fun _ _ => rfl)) (pa_cons pe_int pa_nil)))
        (pss_cons (ps_asg (pe_callB (call_max2 rfl) (by rfl) mx (by decide +kernel) (pa_cons pe_int (pa_cons (pe_op op_fdivW (pv 2) (pe_op op_pow pe_int pe_int)) pa_nil))) (pg_sub (pv 0) pe_int set_list))
        (pss_one (ps_asg (pe_op op_mod (pe_op op_add (pe_op op_add (pe_op op_mul (pe_ix ix_list (pv 0) pe_int (fun _ _ => rfl)) pe_int) (pv 2)) pe_int) pe_int) (pg_sub (pv 0) pe_int set_list))))) pss_nil)
      (pss_cons (ps_set (i := 3) nd rfl (.inl rfl) (pe_ix ix_list (pv 0) pe_int (fun _ _ => rfl)))
      (pss_cons (ps_asg (pe_op op_fdiv (pv 3) (pv 1)) (pg_sub (pv 0) pe_int set_list))
      (pss_cons (ps_asg (pe_op op_mod (pe_op op_add (pe_op op_mul (pe_ix ix_list (pv 0) pe_int (fun _ _ => rfl)) pe_int) pe_int) pe_int) (pg_sub (pv 0) pe_int set_list))
      (pss_one (ps_ret (pe_op op_mod (pe_ifExp (pt_cmpR op_gt (pv 3) pe_int (nomark _)) (pv 3) (pe_op op_fdiv (pe_op op_mod (pe_op op_mul (pe_ix ix_list (pv 0) pe_int (fun _ _ => rfl)) (pe_ix ix_list (pv 0) pe_int (fun _ _ => rfl))) pe_int) pe_int)) (pv 1))))))), ?_⟩
    obtain ⟨a, b, cs, hd, hq, nq, a0, a1, b0⟩ := id D
    refine ⟨fun σ' H' => ∃ y2, σ' = [some (.ref d), some (.int top), y2, none] ∧ Ds H' d q' ∧ Dq d q' H H', ?_, ?_⟩
    · refine ⟨.ref d, rfl, d, _, 1, .int b, rfl, rfl, SqL.of hd, rfl, b, 2, rfl, rfl, _, rfl, ite2 (fun e1 => ?_) (fun e1 => ⟨none, rfl, D, Dq.refl⟩)⟩
      refine ⟨.ref d, rfl, d, _, 2, .ref q', rfl, rfl, SqL.of hd, rfl, by show 0 ≤ sizeLine; decide, fun e0 he0 => ?_⟩
      have s0 := same_upd (o := .lst []) he0
      refine ints_ne (s0 _ _ hq) upd_same ⟨_, rfl, ?_⟩
      have D0 := D.same s0
      cases cs with
      | nil => exact iteF ⟨none, rfl, D0, Dq.same s0⟩
      | cons c rest =>
        have hd0 := s0 _ _ hd
        have hq0 := s0 _ _ hq
        generalize upd H e0 (.lst []) = H0 at s0 D0 hd0 hq0
        refine iteT ⟨.ref d, rfl, d, _, 2, .ref q', rfl, rfl, SqL.of hd0, rfl, .inl ⟨rfl, _, SqL.of hq0⟩, q', _, 0, 0, .int c, rfl, rfl, hq0, by decide, by decide, (by rw [List.length_map, List.length_cons]; simp [seqIndex?]), rfl, ?_⟩
        have eer : ((V.int c :: rest.map V.int).eraseIdx 0) = rest.map V.int := rfl
        rw [show ((c :: rest).map V.int).eraseIdx 0 = rest.map V.int from rfl]
        have eqd : (upd H0 q' (.lst (rest.map V.int))) d = some (.lst [.int a, .int b, .ref q']) := by
          rw [upd_ne nq.symm]
          exact hd0
        have eqq : (upd H0 q' (.lst (rest.map V.int))) q' = some (.lst (rest.map V.int)) := upd_same
        have dq1 : Dq d q' H (upd H0 q' (.lst (rest.map V.int))) := fun x o e n m => by
          rw [upd_ne m]
          exact s0 _ _ e
        generalize upd H0 q' (.lst (rest.map V.int)) = H1 at eqd eqq dq1 ⊢
        have p18 : (0 : Int) < 10 ^ Int.toNat 18 := by decide
        refine ⟨.int c, rfl, 10, 18, rfl, rfl, ⟨by decide, by decide, by decide⟩, c, _, rfl, rfl, ⟨p18, by decide +kernel⟩, 0, _, rfl, .ref d, rfl, d, _, 1, 1, rfl, rfl, eqd, rfl, ?_⟩
        refine ⟨.ref d, rfl, d, _, 0, .int a, rfl, rfl, SqL.of upd_same, rfl, a, 48271, rfl, rfl, .inl ⟨by omega, by omega⟩, .int c, rfl, _, c, rfl, rfl, _, 11, rfl, rfl, _, 2147483647, rfl, rfl, (by show (0 : Int) < 2147483647; decide), ?_⟩
        refine ⟨.ref d, rfl, d, _, 0, 0, rfl, rfl, upd_same, rfl, ?_⟩
        have m0 := Int.emod_nonneg (a * 48271 + c + 11) (show (2147483647 : Int) ≠ 0 by decide)
        have m1 := Int.emod_lt_of_pos (a * 48271 + c + 11) (show (0 : Int) < 2147483647 by decide)
        refine ⟨_, rfl, ⟨_, _, rest, upd_same, ?_, nq, m0, by omega, (by show (0 : Int) ≤ if c / 10 ^ Int.toNat 18 > 0 then c / 10 ^ Int.toNat 18 else 0; split <;> omega)⟩, fun x o e n m => ?_⟩
        · rw [upd_ne nq, upd_ne nq]
          exact eqq
        · rw [upd_ne n, upd_ne n]
          exact dq1 _ _ e n m
    rintro _ H1 ⟨y2, rfl, D1, dq⟩
    obtain ⟨a, b, cs, hd, hq, nq, a0, a1, b0⟩ := D1
    refine ⟨.ref d, rfl, d, _, 1, .int b, rfl, rfl, SqL.of hd, rfl, ?_⟩
    refine ⟨.int b, rfl, .int top, rfl, b, top, rfl, rfl, ⟨t0, t1⟩, .ref d, rfl, d, _, 1, 1, rfl, rfl, hd, rfl, ?_⟩
    refine ⟨.ref d, rfl, d, _, 0, .int a, rfl, rfl, SqL.of upd_same, rfl, a, 69621, rfl, rfl, .inl ⟨by omega, by omega⟩, _, 13, rfl, rfl, _, 2147483647, rfl, rfl, (by show (0 : Int) < 2147483647; decide), ?_⟩
    refine ⟨.ref d, rfl, d, _, 0, 0, rfl, rfl, upd_same, rfl, ?_⟩
    have m0 := Int.emod_nonneg (a * 69621 + 13) (show (2147483647 : Int) ≠ 0 by decide)
    have m1 := Int.emod_lt_of_pos (a * 69621 + 13) (show (0 : Int) < 2147483647 by decide)
    have bd : 0 ≤ b / top := Int.ediv_nonneg b0 (by omega)
    have fin : Ds (upd (upd H1 d (.lst [V.int a, V.int (b / top), V.ref q'])) d (.lst [V.int ((a * 69621 + 13) % 2147483647), V.int (b / top), V.ref q'])) d q' := ⟨_, _, cs, upd_same, by rw [upd_ne nq, upd_ne nq]; exact hq, nq, m0, by omega, bd⟩
    have dqF : Dq d q' H (upd (upd H1 d (.lst [V.int a, V.int (b / top), V.ref q'])) d (.lst [V.int ((a * 69621 + 13) % 2147483647), V.int (b / top), V.ref q'])) := fun x o e n m => by
      rw [upd_ne n, upd_ne n]
      exact dq _ _ e n m
    have last : ∀ v : Int, Q (.int (v % top)) (upd (upd H1 d (.lst [V.int a, V.int (b / top), V.ref q'])) d (.lst [V.int ((a * 69621 + 13) % 2147483647), V.int (b / top), V.ref q'])) := fun v => q _ _ (Int.emod_nonneg _ (by omega)) (Int.emod_lt_of_pos _ t0) fin dqF
    have hdF : (upd (upd H1 d (.lst [V.int a, V.int (b / top), V.ref q'])) d (.lst [V.int ((a * 69621 + 13) % 2147483647), V.int (b / top), V.ref q'])) d = some (.lst [V.int ((a * 69621 + 13) % 2147483647), V.int (b / top), V.ref q']) := upd_same
    refine ⟨.int b, rfl, b, 1, rfl, rfl, _, rfl, ite2 (fun e1 => ?_) (fun e1 => ?_)⟩
    · exact ⟨.int b, rfl, .int top, rfl, b, top, rfl, rfl, t0, last b⟩
    · refine ⟨.ref d, rfl, d, _, 0, .int ((a * 69621 + 13) % 2147483647), rfl, rfl, SqL.of hdF, rfl, .ref d, rfl, d, _, 0, .int ((a * 69621 + 13) % 2147483647), rfl, rfl, SqL.of hdF, rfl, _, _, rfl, rfl, .inl ⟨by omega, by omega⟩, _, 2147483629, rfl, rfl, (by show (0 : Int) < 2147483629; decide), _, 7, rfl, rfl, ⟨by decide, by decide⟩, .int top, rfl, _, top, rfl, rfl, t0, last _⟩
theorem ok_dp {f : Addr} {fd : FuncData} {k : Nat} (F : Fun K "_law_pick" "_law_pick" sDp f fd) (T : Tx mg) (GN : Pm P w K mg base CX0 (k + 1) "_law_draw" ["s", "top"] spDw) : FnOk P w K mg base CX0 (k + 2) f fd ["s", "some"] (spDp K) := by
  obtain ⟨fN, fdN, GN, mN, kN, bN⟩ := GN.ex
  refine F.ok scDp (fun vs H Q E h => ?_) (fun cdv A outer s H vs Q E hr h => ?_)
  · obtain ⟨_, _, _, rfl, _⟩ := h
    rfl
  · obtain ⟨d, q', x, rfl, D, h⟩ := h
    rcases h with ⟨l, xs, rfl, nl, nl2, hl, x0, x1, q⟩ | ⟨z, rfl, z0, z1, q⟩
    · refine ⟨_, pss_one (ps_ret (pe_ix ix_list (pv 1) (pe_call GN hr (by rfl) mN kN bN .nil pass0 (pa_cons (pv 0) (pa_cons (pe_callB call_len_seq (by rfl) T.len PySem.boot_len (pa_cons (pv 1) pa_nil)) pa_nil))) (fun _ _ => rfl))), ?_⟩
      refine ⟨.ref l, rfl, .ref d, rfl, .ref l, rfl, l, xs, rfl, .inl (SqL.of hl), d, q', (xs.length : Int), rfl, D, by omega, by omega, fun m H1 m0 m1 D1 dn1 => ?_⟩
      obtain ⟨j, rfl⟩ := Int.eq_ofNat_of_zero_le m0
      have hj : j < xs.length := by omega
      have hx : xs[j]? = some xs[j] := List.getElem?_eq_getElem hj
      exact ⟨l, xs, (j : Int), xs[j], rfl, rfl, SqL.of (dn1 _ _ hl nl nl2), atI_nat hx, q j _ H1 hx D1 dn1⟩
    · refine ⟨_, pss_one (ps_ret (pe_ix ix_str (pv 1) (pe_call GN hr (by rfl) mN kN bN .nil pass0 (pa_cons (pv 0) (pa_cons (pe_callB call_len_str (by rfl) T.len PySem.boot_len (pa_cons (pv 1) pa_nil)) pa_nil))) (fun _ _ => rfl))), ?_⟩
      have zs : z.length ≤ sizeLine := Nat.le_of_lt (small1000 z1)
      refine ⟨.str z, rfl, .ref d, rfl, .str z, rfl, z, rfl, zs, d, q', (z.length : Int), rfl, D, by omega, by omega, fun m H1 m0 m1 D1 dn1 => ?_⟩
      obtain ⟨j, rfl⟩ := Int.eq_ofNat_of_zero_le m0
      have hj : j < z.cps.toList.length := by
        have : z.cps.toList.length = z.length := by simp [Str.length]
        omega
      have hx : z.cps.toList[j]? = some z.cps.toList[j] := List.getElem?_eq_getElem hj
      exact ⟨z, (j : Int), _, rfl, rfl, zs, atI_nat hx, q _ H1 (List.getElem_mem hj) D1 dn1⟩
end
end Dt
namespace L2X
open PySem PySem.Spec PyProof.Rows L2
theorem op_notInDK {X : Cx} {K : PySem.W.Frag} (hK : X.K = K) (hu : X.A.units + 65 < cLine) : OpR X (compareOp .NotIn) (rNotInD K) := by
  subst hK
  exact op_notInD hu
end L2X
namespace Dt
open PySem PySem.Spec PyProof.Rows L2 L2X
open SX (S)
/-! ### unlike signs -/
def sgTx : List Nat := [33, 34, 35, 36] ++ (List.range 89).map (38 + ·)
def sgT : Str := "!\"#$&'()*+,-./0123456789:;<=>?@ABCDEFGHIJKLMNOPQRSTUVWXYZ[\\]^_`abcdefghijklmnopqrstuvwxyz{|}~"
theorem sgT_S : sgT = S sgTx := by decide +kernel
theorem sgs_r : ∀ c ∈ sgTx, 33 ≤ c ∧ c ≤ 126 := by decide +kernel
theorem sgs_nd : sgTx.Nodup := by decide +kernel
theorem own_r : ∀ c ∈ (("?#.-/_:'|a" : Str).cps.toList), 33 ≤ c ∧ c ≤ 126 := by decide +kernel
theorem len_sub {α : Type} [DecidableEq α] : ∀ (xs ys : List α), xs.Nodup → (∀ x ∈ xs, x ∈ ys) → xs.length ≤ ys.length
  | [], _, _, _ => Nat.zero_le _
  | x :: xs, ys, nd, h => by
    rw [List.nodup_cons] at nd
    have ih := len_sub xs (ys.erase x) nd.2 fun z hz => (List.mem_erase_of_ne (fun e => nd.1 (by rw [← e]; exact hz))).mpr (h z (List.mem_cons_of_mem _ hz))
    have hx := h x List.mem_cons_self
    rw [List.length_erase_of_mem hx] at ih
    have : 0 < ys.length := List.length_pos_of_mem hx
    rw [List.length_cons]
    omega
theorem one_more {fs : List Nat} (h : fs.length < 93) : ∃ c ∈ sgTx, c ∉ fs := by
  apply Classical.byContradiction
  intro z
  have : ∀ c ∈ sgTx, c ∈ fs := fun c hc => by
    apply Classical.byContradiction
    intro n
    exact z ⟨c, hc, n⟩
  have := len_sub sgTx fs sgs_nd this
  have l : sgTx.length = 93 := by decide +kernel
  omega
def chD (c : Nat) : PyData := .str ⟨#[c]⟩
theorem dp_chs {K : PySem.W.Frag} {H : Hp} : ∀ fs : List Nat, DpAll K H (fs.map ch) (fs.map chD)
  | [] => .nil
  | c :: r => .cons (.str _) (dp_chs r)
theorem ch_ok {c : Nat} (h : c ≤ 126) : PyData.strOk ⟨#[c]⟩ = true := by
  unfold PyData.strOk
  simp
  omega
theorem lay_chs : ∀ fs : List Nat, (∀ c ∈ fs, c ≤ 126) → PyData.canLayAll0 (fs.map chD) = true ∧ PyData.depthAll (fs.map chD) ≤ 1
  | [], _ => ⟨by simp [PyData.canLayAll0], by simp [PyData.depthAll]⟩
  | c :: r, h => by
    obtain ⟨h1, h2⟩ := lay_chs r fun x hx => h x (List.mem_cons_of_mem _ hx)
    refine ⟨?_, ?_⟩
    · rw [List.map_cons]
      simp [PyData.canLayAll0, PyData.canLay0, chD, h1, ch_ok (h c List.mem_cons_self)]
    · rw [List.map_cons]
      simp only [PyData.depthAll, PyData.depth, chD]
      omega
theorem any_chs (c : Nat) : ∀ fs : List Nat, ((fs.map chD).any fun z => PyData.eqv z (.str ⟨#[c]⟩)) = decide (c ∈ fs)
  | [] => by simp
  | x :: r => by
    rw [List.map_cons, List.any_cons, any_chs c r]
    have e : PyData.eqv (chD x) (.str ⟨#[c]⟩) = decide (x = c) := by
      simp [chD, PyData.eqv]
      by_cases h : x = c
      · rw [h]; simp
      · simp [h]
    rw [e]
    by_cases h : x = c
    · simp [h]
    · have : ¬ c = x := fun z => h z.symm
      simp [h, this]
theorem notin_chs {K : PySem.W.Frag} {H : Hp} {l c : Nat} {fs : List Nat} (hl : H l = some (.lst (fs.map ch))) (hf : ∀ x ∈ fs, x ≤ 126) (hc : c ≤ 126) {Q : VK} (q : Q (.bl (!decide (c ∈ fs))) H) : rNotInD K (.str ⟨#[c]⟩) (.ref l) H Q := by
  obtain ⟨h1, h2⟩ := lay_chs fs hf
  refine ⟨.str ⟨#[c]⟩, fs.map chD, .str _, .lst (SqL.of hl) (dp_chs fs), ?_, ?_, ?_⟩
  · unfold SeqAt.shaped
    rw [Bool.and_eq_true, decide_eq_true_iff]
    refine ⟨by simp [PyData.canLay0, ch_ok hc], ?_⟩
    simp [PyData.depth]
  · unfold SeqAt.shaped
    rw [Bool.and_eq_true, decide_eq_true_iff]
    refine ⟨by simp [PyData.canLay0, h1], ?_⟩
    simp only [PyData.depth]
    omega
  · rw [any_chs]
    exact q
abbrev sSg2 : Stmt := topS 73
abbrev nSg2 : List Str := ["s", "many", "some", "own", "found", "k", "sign", "one"]
theorem scSg2 : FnScope nSg2 ["s", "many"] (defScope sSg2) := ⟨rfl, rfl, rfl, by decide +kernel, rfl, by decide +kernel, by decide +kernel⟩
def spSg2 : Sp := fun vs H Q _ => ∃ (d q many : Nat), vs = [.ref d, .int many] ∧ Ds H d q ∧ many ≤ 90 ∧ ∀ (l : Addr) (fs : List Nat) (H' : Hp), H l = none → H' l = some (.lst (fs.map ch)) → l ≠ d → l ≠ q → fs.length = many → fs.Nodup → (∀ c ∈ fs, 33 ≤ c ∧ c ≤ 126) → Ds H' d q → Dq d q H H' → Q (.ref l) H'
section
variable {P : Program} {w : World} {K : PySem.W.Frag} {mg : Str → Option Value} {base : Heap}
theorem ok_sg2 {f : Addr} {fd : FuncData} {k : Nat} (F : Fun K "_law_signs" "_law_signs" sSg2 f fd) (T : Tx mg) (GN : Pm P w K mg base CX0 (k + 2) "_law_draw" ["s", "top"] spDw) (GK : Pm P w K mg base CX0 (k + 2) "_law_pick" ["s", "some"] (spDp K)) : FnOk P w K mg base CX0 (k + 3) f fd ["s", "many"] spSg2 := by
  obtain ⟨fN, fdN, GN, mN, kN, bN⟩ := GN.ex
  obtain ⟨fK, fdK, GK, mK, kK, bK⟩ := GK.ex
  refine F.ok scSg2 (fun vs H Q E h => ?_) (fun cdv A outer s H vs Q E hr h => ?_)
  · obtain ⟨_, _, _, rfl, _⟩ := h
    rfl
  · obtain ⟨d, q', many, rfl, D, m90, q⟩ := h
    have nd := scSg2.nd
    have hu65 : (A.deeper (envOfC "_law_signs" (defScope sSg2) s.heap.objs.size f cdv)).units + 65 < cLine := by
      have := hr.un
      omega
    refine ⟨_, pss_cons (ps_set (i := 2) nd rfl (.inl rfl) pe_str)
      (C8.pss_cut (ps_asg (pe_tup (pa_cons pe_str (pa_cons (pe_lst pa_nil) pa_nil))) (pg_tup rfl (pgs_cons (pg_name (i := 3) nd rfl (Or.inl rfl)) (pgs_cons (pg_name (i := 4) nd rfl (Or.inr rfl)) pgs_nil))))
      (pss_cons (ps_for PassesOwn.never rfl (pi_range1 rfl T.range (pa_cons (pv 1) pa_nil)) (pg_name (i := 5) nd rfl (.inl rfl))
        (C8.pss_cut (ps_set (i := 6) nd rfl (.inl rfl) (pe_ifExp (pt_cmpR op_eq (pe_call GN hr (by rfl) mN kN bN .nil pass0 (pa_cons (pv 0) (pa_cons pe_int pa_nil))) pe_int (nomark _)) (pe_call GK hr (by rfl) mK kK bK .nil pass0 (pa_cons (pv 0) (pa_cons (pv 3) pa_nil))) (pe_ix ix_str (pv 2) (pe_call GN hr (by rfl) mN kN bN .nil pass0 (pa_cons (pv 0) (pa_cons pe_int pa_nil))) (fun _ _ => rfl))))
        (pss_one (ps_expr (pe_bm PySem.F.plainAttrs_list PySem.F.slot_list_append PySem.F.type_list_append mt_append (pv 4) (pa_cons (pe_ix (r := rIxL K) ix_list (pe_lc (own := [("one", 7)]) (g := gName 7) rfl nd (pi_str (pe_op op_add_str (pv 6) (pv 2))) (blkOk_by (N := nSg2) (sc := defScope sSg2) (by decide +kernel)) (fun _ _ _ _ _ => pg_name (i := 7) nd rfl (Or.inl rfl)) (fun _ _ _ _ _ => pts_one (pt_cmpR (op_notInDK (K := K) rfl hu65) (pv 7) (pv 4) (by with_unfolding_all rfl))) (fun _ _ _ _ _ => pv 7)) pe_int (fun _ _ => rfl)) pa_nil))))))
      (pss_one (ps_ret (pv 4))))), ?_⟩
    have own0 : ∀ c ∈ ("?#.-/_:'|a" : Str).cps.toList, 33 ≤ c ∧ c ≤ 126 := own_r
    -- none yet
    refine ⟨fun σ' H' => ∃ l, σ' = [some (.ref d), some (.int many), some (.str sgT), some (.str "?#.-/_:'|a"), some (.ref l), none, none, none] ∧ H' l = some (.lst (([] : List Nat).map ch)) ∧ H l = none ∧ l ≠ d ∧ l ≠ q' ∧ Same H H', ?_, ?_⟩
    · refine ⟨by show 0 ≤ sizeLine; decide, fun l hl => ⟨by show 2 ≤ sizeLine; decide, fun t ht => ⟨t, _, rfl, SqT.of upd_same, rfl, _, _, rfl, _, _, rfl, rfl, l, rfl, ?_, hl, (D.new hl).1, (D.new hl).2, (same_upd hl).trans (same_upd ht)⟩⟩⟩
      exact same_upd ht _ _ upd_same
    rintro _ H1 ⟨l, rfl, hl, nl, n1, n2, s1⟩
    refine ⟨.int many, rfl, many, rfl, by omega, by omega, for_range (lo := 0) (n := many) (fun i σ H2 => ∃ (y5 y6 : Option V) (fs : List Nat), σ = [some (.ref d), some (.int many), some (.str sgT), some (.str "?#.-/_:'|a"), some (.ref l), y5, y6, none] ∧ H2 l = some (.lst (fs.map ch)) ∧ fs.length = i ∧ fs.Nodup ∧ (∀ c ∈ fs, 33 ≤ c ∧ c ≤ 126) ∧ Ds H2 d q' ∧ Dq d q' H H2) ⟨none, none, [], rfl, hl, rfl, List.nodup_nil, (fun c h => nomatch h), D.same s1, Dq.same s1⟩ ?_ ?_⟩
    · rintro i σ H2 hi ⟨y5, y6, fs, rfl, hl2, lf, ndf, rf, D2, dq2⟩
      generalize (V.int (0 + (i : Int))) = tv
      refine ⟨fun σ' H' => ∃ c : Nat, σ' = [some (.ref d), some (.int many), some (.str sgT), some (.str "?#.-/_:'|a"), some (.ref l), some tv, some (ch c), none] ∧ 33 ≤ c ∧ c ≤ 126 ∧ H' l = some (.lst (fs.map ch)) ∧ Ds H' d q' ∧ Dq d q' H H', ?_, ?_⟩
      · refine ⟨.ref d, rfl, d, q', 4, rfl, D2, by decide, by decide, fun m H3 m0 m1 D3 dq3 => ⟨rfl, _, rfl, ?_⟩⟩
        have hl3 := dq3 _ _ hl2 n1 n2
        have dq03 := dq2.trans dq3
        refine ite2 (fun _ => ?_) (fun _ => ?_)
        · refine ⟨.ref d, rfl, .str _, rfl, d, q', .str _, rfl, D3, .inr ⟨_, rfl, by decide +kernel, by decide +kernel, fun c H4 hc D4 dq4 => ?_⟩⟩
          exact ⟨c, rfl, (own0 c hc).1, (own0 c hc).2, dq4 _ _ hl3 n1 n2, D4, dq03.trans dq4⟩
        · refine ⟨.str sgT, rfl, .ref d, rfl, d, q', 93, rfl, D3, by decide, by decide, fun m H4 m0 m1 D4 dq4 => ?_⟩
          obtain ⟨j, rfl⟩ := Int.eq_ofNat_of_zero_le m0
          have hj : j < sgTx.length := by
            have : sgTx.length = 93 := by decide +kernel
            omega
          have hc : sgTx[j]? = some sgTx[j] := List.getElem?_eq_getElem hj
          have hr' := sgs_r _ (List.getElem_mem hj)
          generalize sgTx[j] = c at hc hr'
          refine ⟨sgT, (j : Int), c, rfl, rfl, by decide +kernel, ?_, c, rfl, hr'.1, hr'.2, dq4 _ _ hl3 n1 n2, D4, dq03.trans dq4⟩
          rw [sgT_S]
          show atI (sgTx.toArray.toList) (j : Int) = some c
          exact atI_nat hc
      rintro _ H3 ⟨c, rfl, c0, c1, hl3, D3, dq3⟩
      have cat : (⟨#[c]⟩ : Str) ++ sgT = S (c :: sgTx) := by
        rw [sgT_S]
        exact SX.S_cat [c] sgTx
      refine ⟨.ref l, rfl, .inl ⟨rfl, _, SqL.of hl3⟩, ch c, rfl, .str sgT, rfl, ⟨#[c]⟩, sgT, rfl, rfl, by show 1 + _ ≤ _; decide +kernel, ?_⟩
      rw [cat]
      have rc : ∀ x ∈ c :: sgTx, 33 ≤ x ∧ x ≤ 126 := fun x hx => by
        rcases List.mem_cons.mp hx with e | e
        · rw [e]
          exact ⟨c0, c1⟩
        · exact sgs_r x e
      obtain ⟨z, zm, zn⟩ := one_more (fs := fs) (by omega)
      have ex : ∃ y r, (c :: sgTx).filter (fun x => !decide (x ∈ fs)) = y :: r := by
        cases e : (c :: sgTx).filter (fun x => !decide (x ∈ fs)) with
        | nil =>
          have := List.filter_eq_nil_iff.mp e z (List.mem_cons_of_mem _ zm)
          rw [decide_eq_false zn] at this
          exact absurd rfl this
        | cons y r => exact ⟨y, r, rfl⟩
      generalize hcs : c :: sgTx = cs at rc ex
      have lcs : cs.length = 94 := by
        rw [← hcs, List.length_cons]
        have : sgTx.length = 93 := by decide +kernel
        omega
      obtain ⟨y, r, ey⟩ := ex
      refine ⟨S cs, rfl, fun D0 hD0 => lc_it (walk_str (z := S cs)) (fun i H6 => Same H3 H6 ∧ H6 D0 = some (.lst (((cs.take i).filter fun x => !decide (x ∈ fs)).map ch))) ⟨same_upd hD0, upd_same⟩ (fun i H6 _ z => trivial) ?_ ?_⟩
      · rintro j x H6 H7 hj ⟨sm6, h6⟩ ⟨rfl, x', hx', rfl⟩
        have hx2 : cs[j]? = some x' := by simpa [S] using hx'
        have rx := rc x' (List.mem_of_getElem? hx2)
        refine ⟨rfl, .str ⟨#[x']⟩, rfl, .ref l, rfl, notin_chs (sm6 _ _ hl3) (fun v hv => (rf v hv).2) rx.2 ⟨_, rfl, ?_⟩⟩
        by_cases e : x' ∈ fs
        · refine iteE (by rw [decide_eq_true e]; rfl) ⟨sm6, ?_⟩
          rw [take_snoc hx2, List.filter_append, List.filter_cons_of_neg (by rw [decide_eq_true e]; decide), List.filter_nil, List.append_nil]
          exact h6
        · refine iteY (by rw [decide_eq_false e]; rfl) ⟨.str ⟨#[x']⟩, rfl, _, h6, ?_, same_over sm6 hD0, ?_⟩
          · rw [List.length_map]
            have b1 := List.length_filter_le (fun x : Nat => !decide (x ∈ fs)) (cs.take j)
            have b3 := List.length_take_le' j cs
            exact small1000 (by omega)
          · rw [upd_same, take_snoc hx2, List.filter_append, List.filter_cons_of_pos (by rw [decide_eq_false e]; rfl), List.filter_nil, List.map_append]
            rfl
      · rintro H6 ⟨sm6, h6⟩
        have esz : (S cs).cps.size = cs.length := by simp [S]
        rw [esz, List.take_length, ey] at h6
        have ym : y ∈ cs.filter (fun x => !decide (x ∈ fs)) := by rw [ey]; exact List.mem_cons_self
        have ym' := List.mem_filter.mp ym
        have yn : y ∉ fs := fun h => by
          have := ym'.2
          rw [decide_eq_true h] at this
          cases this
        refine ⟨D0, _, 0, ch y, rfl, rfl, SqL.of h6, atI_nat (j := 0) rfl, l, _, ch y, rfl, rfl, sm6 _ _ hl3, ?_, ?_⟩
        · rw [List.length_map]
          exact small1000 (by omega)
        · have nlD : l ≠ D0 := fun e => by
            rw [e] at hl3
            exact absurd hl3 (by rw [hD0]; intro z; cases z)
          refine ⟨_, _, fs ++ [y], rfl, ?_, by rw [List.length_append, lf]; rfl, ?_, ?_, ((D3.same sm6).upd n1 n2), (dq3.trans (Dq.same sm6)).upd nl⟩
          · rw [upd_same, List.map_append]
            rfl
          · exact List.nodup_append.mpr ⟨ndf, by simp, fun a ha b hb e => yn (by rw [← List.mem_singleton.mp hb, ← e]; exact ha)⟩
          · intro v hv
            rcases List.mem_append.mp hv with h | h
            · exact rf v h
            · rw [List.mem_singleton.mp h]
              exact rc y ym'.1
    · rintro σ H2 ⟨y5, y6, fs, rfl, hl2, lf, ndf, rf, D2, dq2⟩
      exact ⟨.ref l, rfl, q l fs H2 nl hl2 n1 n2 lf ndf rf D2 dq2⟩
end
end Dt
namespace Dt
open PySem PySem.Spec PyProof.Rows L2 L2X
open SX (S)
/-! ### columns of dots -/
structure ColsR (high wide : Nat) (ls : List (List Nat)) : Prop where
  len : ls.length = wide
  col : ∀ l ∈ ls, RowR high l
theorem ixN_of {n j : Nat} (hj : j < n) : ixN n (j : Int) = some j := by
  unfold ixN
  rw [if_pos (by omega), if_pos (by omega), Int.toNat_natCast]
theorem mulDot {n : Nat} (h : n ≤ 120) : Txt.mul "." (n : Int) = S (List.replicate n 46) ∧ MulOk "." (n : Int) := by
  by_cases e : 1 ≤ n
  · rw [s_dot]
    exact ⟨mul_sign 46 n e, mul_ok 46 n e h⟩
  · have e0 : n = 0 := by omega
    subst e0
    refine ⟨by decide +kernel, by decide, fun z => absurd (by decide : (((0 : Nat) : Int) < 1)) z, fun z => absurd (by decide : (((0 : Nat) : Int) < 1)) z⟩
theorem ColsR.set {high wide j : Nat} {ls : List (List Nat)} {r : List Nat} (h : ColsR high wide ls) (hr : RowR high r) : ColsR high wide (ls.set j r) :=
  ⟨by rw [List.length_set, h.len], fun l hl => (List.mem_or_eq_of_mem_set hl).elim (h.col l) fun e => e ▸ hr⟩
theorem set_map {ls : List (List Nat)} {j : Nat} {r : List Nat} : (ls.map rv).set j (V.str (S r)) = (ls.set j r).map rv := by
  rw [List.map_set]
  rfl
abbrev sCl : Stmt := topS 74
abbrev nCl : List Str := ["s", "high", "wide", "way", "found", "at", "k"]
theorem scCl : FnScope nCl ["s", "high", "wide"] (defScope sCl) := ⟨rfl, rfl, rfl, by decide +kernel, rfl, by decide +kernel, by decide +kernel⟩
def spCl : Sp := fun vs H Q _ => ∃ (d q high wide : Nat), vs = [.ref d, .int high, .int wide] ∧ Ds H d q ∧ 1 ≤ high ∧ high ≤ 60 ∧ 1 ≤ wide ∧ wide ≤ 60 ∧ ∀ (l : Addr) (ls : List (List Nat)) (H' : Hp), H l = none → H' l = some (.lst (ls.map rv)) → l ≠ d → l ≠ q → ColsR high wide ls → (∃ c ∈ ls, 35 ∈ c) → Ds H' d q → Dq d q H H' → Q (.ref l) H'
section
variable {P : Program} {w : World} {K : PySem.W.Frag} {mg : Str → Option Value} {base : Heap}
theorem ok_cl {f : Addr} {fd : FuncData} {k : Nat} (F : Fun K "_law_columns" "_law_columns" sCl f fd) (T : Tx mg) (GN : Pm P w K mg base CX0 (k + 1) "_law_draw" ["s", "top"] spDw) : FnOk P w K mg base CX0 (k + 2) f fd ["s", "high", "wide"] spCl := by
  obtain ⟨fN, fdN, GN, mN, kN, bN⟩ := GN.ex
  refine F.ok scCl (fun vs H Q E h => ?_) (fun cdv A outer s H vs Q E hr h => ?_)
  · obtain ⟨_, _, _, _, rfl, _⟩ := h
    rfl
  · obtain ⟨d, q', high, wide, rfl, D, h0, h1, w0, w1, q⟩ := h
    have nd := scCl.nd
    refine ⟨_, C8.pss_cut (ps_set (i := 3) nd rfl (.inl rfl) (pe_call GN hr (by rfl) mN kN bN .nil pass0 (pa_cons (pv 0) (pa_cons pe_int pa_nil))))
      (C8.pss_cut (ps_setLc (i := 4) (own := [("at", 5)]) (g := gName 5) (tt := tYes) (by rfl) nd rfl rfl (sw_true rfl rfl rfl (by decide +kernel)) (pi_range1 rfl T.range (pa_cons (pv 2) pa_nil)) (blkOk_by (N := nCl) (sc := defScope sCl) (by decide +kernel)) (fun _ _ _ _ _ => pg_name (i := 5) nd rfl (Or.inl rfl)) (fun _ _ _ _ _ => pts_nil)
          (fun _ _ _ _ _ => pe_joinK (K := K) rfl pe_str (pe_lc (own := [("k", 6)]) (g := gName 6) (tt := tYes) rfl nd (pi_range1 rfl T.range (pa_cons (pv 1) pa_nil)) (blkOk_by (N := nCl) (sc := { kind := .function, names := [(".0", .local), ("at", .local), ("range", .globalImplicit), ("high", .cell), ("s", .cell)], isGenerator := false, isCoroutine := false }) (by decide +kernel)) (fun _ _ _ _ _ => pg_name (i := 6) nd rfl (Or.inl rfl)) (fun _ _ _ _ _ => pts_nil)
            (fun _ _ _ _ _ => pe_ix ix_str pe_str (pe_call GN hr (by rfl) mN kN bN .nil pass0 (pa_cons (pv 0) (pa_cons pe_int pa_nil))) (fun _ _ => rfl)))))
      (C8.pss_cut (ps_if (PW.pt (pw_and (pt_cmpR op_eq (pv 3) pe_int (nomark _)) (pw_and1 (pt_cmpR op_gt (pv 2) pe_int (nomark _))))) (pss_one (ps_asg (pe_op op_mul_str pe_str (pv 1)) (pg_sub (pv 4) (pe_call GN hr (by rfl) mN kN bN .nil pass0 (pa_cons (pv 0) (pa_cons (pv 2) pa_nil))) set_list))) pss_nil)
      (C8.pss_cut (ps_if (pt_cmpR op_notIn_sign pe_str (pe_joinK (K := K) rfl pe_str (pv 4)) (by with_unfolding_all rfl)) (pss_cons (ps_set (i := 5) nd rfl (.inl rfl) (pe_call GN hr (by rfl) mN kN bN .nil pass0 (pa_cons (pv 0) (pa_cons (pv 1) pa_nil))))
          (pss_one (ps_asg (pe_op op_add_str (pe_op op_add_str (pe_op op_mul_str pe_str (pv 5)) pe_str) (pe_op op_mul_str pe_str (pe_op op_sub (pe_op op_sub (pv 1) (pv 5)) pe_int))) (pg_sub (pv 4) (pe_call GN hr (by rfl) mN kN bN .nil pass0 (pa_cons (pv 0) (pa_cons (pv 2) pa_nil))) set_list)))) pss_nil)
      (pss_one (ps_ret (pv 4)))))), ?_⟩
    -- the way
    refine ⟨fun σ' H' => ∃ way : Int, σ' = [some (.ref d), some (.int high), some (.int wide), some (.int way), none, none, none] ∧ Ds H' d q' ∧ Dq d q' H H', ?_, ?_⟩
    · exact ⟨.ref d, rfl, d, q', 4, rfl, D, by decide, by decide, fun m H1 _ _ D1 dq1 => ⟨m, rfl, D1, dq1⟩⟩
    rintro _ H1 ⟨way, rfl, D1, dq1⟩
    -- any
    refine ⟨fun σ' H' => ∃ (l : Addr) (ls : List (List Nat)), σ' = [some (.ref d), some (.int high), some (.int wide), some (.int way), some (.ref l), none, none] ∧ H' l = some (.lst (ls.map rv)) ∧ H l = none ∧ l ≠ d ∧ l ≠ q' ∧ ColsR high wide ls ∧ Ds H' d q' ∧ Dq d q' H H', ?_, ?_⟩
    · refine ⟨.int wide, rfl, wide, rfl, by omega, by omega, fun D0 hD0 => lc_range (lo := 0) (n := wide) (fun i H2 => ∃ ls : List (List Nat), ls.length = i ∧ (∀ l ∈ ls, RowR high l) ∧ H2 D0 = some (.lst (ls.map rv)) ∧ Ds H2 d q' ∧ Dq d q' H H2) ⟨[], rfl, (fun _ h => nomatch h), upd_same, D1.same (same_upd hD0), dq1.trans (Dq.same (same_upd hD0))⟩ ?_ ?_⟩
      · rintro i H2 hi ⟨ls, lls, rls, h2, D2, dq2⟩
        have nD := D1.new hD0
        refine ⟨rfl, ⟨"", rfl⟩, .int high, rfl, high, rfl, by omega, by omega, fun E0 hE0 => lc_range (lo := 0) (n := high) (fun j H3 => ∃ cs : List Nat, cs.length = j ∧ (∀ c ∈ cs, c = 35 ∨ c = 46) ∧ H3 E0 = some (.lst (cs.map fun c => rv [c])) ∧ H3 D0 = some (.lst (ls.map rv)) ∧ Ds H3 d q' ∧ Dq d q' H H3) ⟨[], rfl, (fun _ h => nomatch h), upd_same, same_upd hE0 _ _ h2, D2.same (same_upd hE0), dq2.trans (Dq.same (same_upd hE0))⟩ ?_ ?_⟩
        · rintro j H3 hj ⟨cs, lcs, rcs, h3, h3D, D3, dq3⟩
          have nE := D2.new hE0
          have nED : E0 ≠ D0 := (ne_of_none h2 hE0).symm
          refine ⟨rfl, .ref d, rfl, d, q', 2, rfl, D3, by decide, by decide, fun m H4 m0 m1 D4 dq4 => ?_⟩
          obtain ⟨c, hc, hat⟩ : ∃ c : Nat, (c = 35 ∨ c = 46) ∧ atI (".#" : Str).cps.toList m = some c := by
            rcases (show m = 0 ∨ m = 1 by omega) with rfl | rfl
            · exact ⟨46, .inr rfl, by decide +kernel⟩
            · exact ⟨35, .inl rfl, by decide +kernel⟩
          refine ⟨".#", m, c, rfl, rfl, by decide +kernel, hat, _, dq4 _ _ h3 nE.1 nE.2, ?_, cs ++ [c], ?_, ?_, ?_, ?_, D4.upd nE.1 nE.2, (dq3.trans dq4).upd (dq2.nn D2 hE0)⟩
          · rw [List.length_map]
            exact small1000 (by omega)
          · rw [List.length_append, lcs]
            rfl
          · intro y hy
            rcases List.mem_append.mp hy with z | z
            · exact rcs y z
            · rw [List.mem_singleton.mp z]
              exact hc
          · rw [upd_same, List.map_append]
            rfl
          · rw [upd_ne nED.symm]
            exact dq4 _ _ h3D nD.1 nD.2
        · rintro H3 ⟨cs, lcs, rcs, h3, h3D, D3, dq3⟩
          refine ⟨"", E0, cs.map fun c => S [c], rfl, rfl, .inl (SqL.of ?_), ?_, ?_⟩
          · rw [h3, List.map_map]
            rfl
          · rw [lens_ones]
            show cs.length + _ * 0 ≤ 16777216
            omega
          rw [join_ones]
          refine ⟨_, h3D, ?_, ls ++ [cs], ?_, ?_, ?_, D3.upd nD.1 nD.2, dq3.upd (dq1.nn D1 hD0)⟩
          · rw [List.length_map]
            exact small1000 (by omega)
          · rw [List.length_append, lls]
            rfl
          · intro y hy
            rcases List.mem_append.mp hy with z | z
            · exact rls y z
            · rw [List.mem_singleton.mp z]
              exact ⟨lcs, rcs⟩
          · rw [upd_same, List.map_append]
            rfl
      · rintro H2 ⟨ls, lls, rls, h2, D2, dq2⟩
        have nD := D1.new hD0
        exact ⟨D0, ls, rfl, h2, dq1.nn D1 hD0, nD.1, nD.2, ⟨lls, rls⟩, D2, dq2⟩
    rintro _ H2 ⟨l, ls, rfl, hl, nl, n1, n2, C2, D2, dq2⟩
    have md := mulDot (n := high) (by omega)
    -- one white
    refine ⟨fun σ' H' => ∃ ls : List (List Nat), σ' = [some (.ref d), some (.int high), some (.int wide), some (.int way), some (.ref l), none, none] ∧ H' l = some (.lst (ls.map rv)) ∧ ColsR high wide ls ∧ Ds H' d q' ∧ Dq d q' H H', ?_, ?_⟩
    · refine ⟨.int way, rfl, rfl, _, rfl, ite2 (fun _ => ?_) (fun _ => ⟨ls, rfl, hl, C2, D2, dq2⟩)⟩
      refine ⟨.int wide, rfl, wide, 2, rfl, rfl, _, rfl, ite2 (fun _ => ?_) (fun _ => ⟨ls, rfl, hl, C2, D2, dq2⟩)⟩
      refine ⟨.int high, rfl, ".", high, rfl, rfl, md.2, ?_⟩
      rw [md.1]
      refine ⟨.ref l, rfl, .ref d, rfl, .int wide, rfl, d, q', wide, rfl, D2, by omega, by omega, fun m H3 m0 m1 D3 dq3 => ?_⟩
      obtain ⟨j, rfl⟩ := Int.eq_ofNat_of_zero_le m0
      refine ⟨l, _, (j : Int), j, rfl, rfl, dq3 _ _ hl n1 n2, ?_, ?_⟩
      · rw [List.length_map, C2.len]
        exact ixN_of (by omega)
      · rw [set_map]
        exact ⟨_, rfl, upd_same, C2.set (row_rep 46 high (.inr rfl)), D3.upd n1 n2, (dq2.trans dq3).upd nl⟩
    rintro _ H3 ⟨ls3, rfl, hl3, C3, D3, dq3⟩
    -- a dot at least
    refine ⟨fun σ' H' => ∃ (y5 : Option V) (ls : List (List Nat)), σ' = [some (.ref d), some (.int high), some (.int wide), some (.int way), some (.ref l), y5, none] ∧ H' l = some (.lst (ls.map rv)) ∧ ColsR high wide ls ∧ (∃ c ∈ ls, 35 ∈ c) ∧ Ds H' d q' ∧ Dq d q' H H', ?_, ?_⟩
    · refine ⟨⟨"", rfl⟩, .ref l, rfl, "", l, ls3.map S, rfl, rfl, .inl (SqL.of (by rw [List.map_map]; exact hl3)), ?_, ?_⟩
      · rw [lens_flat (w := high) fun r hr' => (C3.col r hr').len, C3.len]
        have := Nat.mul_le_mul w1 h1
        show wide * high + _ * 0 ≤ 16777216
        omega
      rw [join_flat]
      refine ⟨35, S ls3.flatten, congrArg V.str s_hash, rfl, _, rfl, ?_⟩
      by_cases hd : 35 ∈ ls3.flatten
      · refine iteE (by rw [decide_eq_true (show 35 ∈ (S ls3.flatten).cps.toList by simpa [S] using hd)]; rfl) ⟨none, ls3, rfl, hl3, C3, ?_, D3, dq3⟩
        obtain ⟨c, hc, hm⟩ := List.mem_flatten.mp hd
        exact ⟨c, hc, hm⟩
      · refine iteY (by rw [decide_eq_false (show ¬ 35 ∈ (S ls3.flatten).cps.toList by simpa [S] using hd)]; rfl) ?_
        refine ⟨.ref d, rfl, .int high, rfl, d, q', high, rfl, D3, by omega, by omega, fun m H4 m0 m1 D4 dq4 => ?_⟩
        obtain ⟨t, rfl⟩ := Int.eq_ofNat_of_zero_le m0
        have mt := mulDot (n := t) (by omega)
        have mr := mulDot (n := high - t - 1) (by omega)
        have er : ((high : Int) - (t : Int) - 1) = ((high - t - 1 : Nat) : Int) := by omega
        refine ⟨.int t, rfl, ".", t, rfl, rfl, mt.2, ?_⟩
        rw [mt.1]
        refine ⟨S (List.replicate t 46), "#", rfl, rfl, ?_, ?_⟩
        · rw [s_hash, SX.S_len, SX.S_len, List.length_replicate]
          exact Nat.le_of_lt (small1000 (by show t + 1 ≤ 1000; omega))
        rw [s_hash, SX.S_cat]
        refine ⟨.int high, rfl, .int t, rfl, high, t, rfl, rfl, _, 1, rfl, rfl, ".", (high - t - 1 : Nat), rfl, congrArg V.int er, mr.2, ?_⟩
        rw [mr.1]
        refine ⟨S (List.replicate t 46 ++ [35]), S (List.replicate (high - t - 1) 46), rfl, rfl, ?_, ?_⟩
        · rw [SX.S_len, SX.S_len, List.length_append, List.length_replicate, List.length_replicate]
          exact Nat.le_of_lt (small1000 (by simp; omega))
        rw [SX.S_cat]
        have rr : RowR high (List.replicate t 46 ++ [35] ++ List.replicate (high - t - 1) 46) := by
          refine ⟨by rw [List.length_append, List.length_append, List.length_replicate, List.length_replicate]; simp; omega, fun c hc => ?_⟩
          rcases List.mem_append.mp hc with hc | hc
          · rcases List.mem_append.mp hc with hc | hc
            · exact .inr (List.eq_of_mem_replicate hc)
            · exact .inl (List.mem_singleton.mp hc)
          · exact .inr (List.eq_of_mem_replicate hc)
        refine ⟨.ref l, rfl, .ref d, rfl, .int wide, rfl, d, q', wide, rfl, D4, by omega, by omega, fun m2 H5 m20 m21 D5 dq5 => ?_⟩
        obtain ⟨j, rfl⟩ := Int.eq_ofNat_of_zero_le m20
        refine ⟨l, _, (j : Int), j, rfl, rfl, dq5 _ _ (dq4 _ _ hl3 n1 n2) n1 n2, ?_, ?_⟩
        · rw [List.length_map, C3.len]
          exact ixN_of (by omega)
        · rw [set_map]
          refine ⟨_, _, rfl, upd_same, C3.set rr, ⟨_, List.mem_iff_getElem?.mpr ⟨j, List.getElem?_set_self (by rw [C3.len]; omega)⟩, by simp⟩, D5.upd n1 n2, ((dq3.trans dq4).trans dq5).upd nl⟩
    rintro _ H4 ⟨y5, ls4, rfl, hl4, C4, dot, D4, dq4⟩
    exact ⟨.ref l, rfl, q l ls4 H4 nl hl4 n1 n2 C4 dot D4 dq4⟩
end
end Dt
namespace L2X
open PySem PySem.Spec PyProof.Rows L2
end L2X
namespace Dt
open PySem PySem.Spec PyProof.Rows L2 L2X
open SX (S)
/-! ### columns turned to rows; one place turned over -/
def rowC (ls : List (List Nat)) (k : Nat) : List Nat := ls.map fun c => c.getD k 46
def rowsC (high : Nat) (ls : List (List Nat)) : List (List Nat) := (List.range high).map (rowC ls)
theorem rowsC_pic {high wide : Nat} {ls : List (List Nat)} (C : ColsR high wide ls) (h0 : 1 ≤ high) (h1 : high ≤ 60) (w0 : 1 ≤ wide) (w1 : wide ≤ 120) : PicR high wide (rowsC high ls) := by
  refine ⟨by unfold rowsC; rw [List.length_map, List.length_range], fun l hl => ?_, h0, h1, w0, w1⟩
  unfold rowsC at hl
  obtain ⟨k, hk, rfl⟩ := List.mem_map.mp hl
  refine ⟨by unfold rowC; rw [List.length_map, C.len], fun c hc => ?_⟩
  unfold rowC at hc
  obtain ⟨m, hm, rfl⟩ := List.mem_map.mp hc
  have R := C.col m hm
  have hk' : k < m.length := by
    rw [R.len]
    exact List.mem_range.mp hk
  rw [List.getD_eq_getElem?_getD, List.getElem?_eq_getElem hk']
  exact R.sg _ (List.getElem_mem hk')
theorem rowsC_dot {high wide : Nat} {ls : List (List Nat)} (C : ColsR high wide ls) (h : ∃ c ∈ ls, 35 ∈ c) : ∃ r ∈ rowsC high ls, 35 ∈ r := by
  obtain ⟨c, hc, hd⟩ := h
  obtain ⟨k, hk⟩ := List.mem_iff_getElem?.mp hd
  have hk' := (List.getElem?_eq_some_iff.mp hk).1
  rw [(C.col c hc).len] at hk'
  refine ⟨rowC ls k, List.mem_map.mpr ⟨k, List.mem_range.mpr hk', rfl⟩, List.mem_map.mpr ⟨c, hc, ?_⟩⟩
  rw [List.getD_eq_getElem?_getD, hk]
  rfl
theorem getD_inj {a b : List Nat} (h : a.length = b.length) (e : ∀ k, k < a.length → a.getD k 46 = b.getD k 46) : a = b := by
  apply List.ext_getElem h
  intro k h1 h2
  have := e k h1
  rw [List.getD_eq_getElem?_getD, List.getD_eq_getElem?_getD, List.getElem?_eq_getElem h1, List.getElem?_eq_getElem h2] at this
  exact this
theorem rowsC_inj {high wide wide2 : Nat} {ls ms : List (List Nat)} (C : ColsR high wide ls) (C2 : ColsR high wide2 ms) (h0 : 1 ≤ high) (e : rowsC high ls = rowsC high ms) : ls = ms := by
  have row : ∀ k, k < high → rowC ls k = rowC ms k := fun k hk => by
    have : (rowsC high ls)[k]? = (rowsC high ms)[k]? := by rw [e]
    unfold rowsC at this
    rw [List.getElem?_map, List.getElem?_map, List.getElem?_range hk] at this
    exact Option.some.inj this
  have hl : ls.length = ms.length := by
    have := congrArg List.length (row 0 (by omega))
    unfold rowC at this
    rw [List.length_map, List.length_map] at this
    exact this
  apply List.ext_getElem hl
  intro j h1 h2
  have R1 := C.col _ (List.getElem_mem h1)
  have R2 := C2.col _ (List.getElem_mem h2)
  refine getD_inj (by rw [R1.len, R2.len]) fun k hk => ?_
  rw [R1.len] at hk
  have q : (rowC ls k)[j]? = (rowC ms k)[j]? := by rw [row k hk]
  unfold rowC at q
  rw [List.getElem?_map, List.getElem?_map, List.getElem?_eq_getElem h1, List.getElem?_eq_getElem h2] at q
  exact Option.some.inj q
abbrev sLr : Stmt := topS 75
abbrev nLr : List Str := ["columns", "k", "column"]
theorem scLr : FnScope nLr ["columns"] (defScope sLr) := ⟨rfl, rfl, rfl, by decide +kernel, rfl, by decide +kernel, by decide +kernel⟩
def spLr : Sp := fun vs H Q _ => ∃ (l high wide : Nat) (ls : List (List Nat)), vs = [.ref l] ∧ H l = some (.lst (ls.map rv)) ∧ ColsR high wide ls ∧ 1 ≤ high ∧ high ≤ 60 ∧ 1 ≤ wide ∧ wide ≤ 100 ∧ ∀ (p : Addr) (H' : Hp), Same H H' → H' p = some (.tup ((rowsC high ls).map rv)) → Q (.ref p) H'
section
variable {P : Program} {w : World} {K : PySem.W.Frag} {mg : Str → Option Value} {base : Heap}
theorem ok_lr {f : Addr} {fd : FuncData} {k : Nat} (F : Fun K "_law_rows" "_law_rows" sLr f fd) (T : Tx mg) : FnOk P w K mg base CX0 (k + 1) f fd ["columns"] spLr := by
  refine F.ok scLr (fun vs H Q E h => ?_) (fun cdv A outer s H vs Q E hr h => ?_)
  · obtain ⟨_, _, _, _, rfl, _⟩ := h
    rfl
  · obtain ⟨l, high, wide, ls, rfl, hl, C, h0, h1, w0, w1, q⟩ := h
    have nd := scLr.nd
    refine ⟨_, pss_one (ps_ret (pe_callTy call_tuple_of (by rfl) T.tuple (by decide +kernel) (pa_cons (pe_lc (own := [("k", 1)]) (g := gName 1) (tt := tYes) rfl nd (pi_range1 rfl T.range (pa_cons (pe_callB call_len_str (by rfl) T.len PySem.boot_len (pa_cons (pe_ix (r := rIxL K) ix_list (pv 0) pe_int (fun _ _ => rfl)) pa_nil)) pa_nil)) (blkOk_by (N := nLr) (sc := defScope sLr) (by decide +kernel)) (fun _ _ _ _ _ => pg_name (i := 1) nd rfl (Or.inr rfl)) (fun _ _ _ _ _ => pts_nil)
          (fun _ _ _ _ _ => pe_joinK (K := K) rfl pe_str (pe_lc (own := [("column", 2)]) (g := gName 2) (tt := tYes) rfl nd (pi_listK (K := K) rfl (pv 0)) (blkOk_by (N := nLr) (sc := { kind := .function, names := [(".0", .local), ("k", .cell), ("columns", .cell)], isGenerator := false, isCoroutine := false }) (by decide +kernel)) (fun _ _ _ _ _ => pg_name (i := 2) nd rfl (Or.inl rfl)) (fun _ _ _ _ _ => pts_nil)
            (fun _ _ _ _ _ => pe_ix ix_str (pv 2) (pv 1) (fun _ _ => rfl))))) pa_nil))), ?_⟩
    have ex : ls[0]? = some (ls[0]'(by rw [C.len]; omega)) := List.getElem?_eq_getElem (by rw [C.len]; omega)
    generalize ls[0]'(by rw [C.len]; omega) = c0 at ex
    have l0 := (C.col c0 (List.mem_of_getElem? ex)).len
    have zl : ∀ c ∈ ls, (S c).length ≤ sizeLine := fun c hc => by
      rw [SX.S_len, (C.col c hc).len]
      exact Nat.le_of_lt (small1000 (by omega))
    have lw := C.len
    refine ⟨.ref l, rfl, l, _, 0, rv c0, rfl, rfl, SqL.of hl, atI_nat (j := 0) (by rw [List.getElem?_map, ex]; rfl), S c0, rfl, zl c0 (List.mem_of_getElem? ex), high, by rw [SX.S_len, l0], by omega, by omega, fun D hD => lc_range (lo := 0) (n := high) (fun i H2 => Same H H2 ∧ H2 D = some (.lst (((rowsC high ls).take i).map rv))) ⟨same_upd hD, upd_same⟩ ?_ ?_⟩
    · rintro i H2 hi ⟨sm, h2⟩
      have e0 : (0 + (i : Int)) = (i : Int) := Int.zero_add _
      rw [e0]
      have er : (rowsC high ls)[i]? = some (rowC ls i) := by
        unfold rowsC
        rw [List.getElem?_map, List.getElem?_range hi]
        rfl
      refine ⟨rfl, ⟨"", rfl⟩, .ref l, rfl, l, rfl, ⟨_, SqL.of (sm _ _ hl)⟩, fun D2 hD2 => lc_list (K := K) (a := l) (xs := ls.map rv) (fun j H3 => Same H2 H3 ∧ H3 D2 = some (.lst (((ls.take j).map fun c => c.getD i 46).map ch))) ⟨same_upd hD2, upd_same⟩ (fun j H3 _ z => SqL.of (z.1 _ _ (sm _ _ hl))) ?_ ?_⟩
      · rintro j x H3 hx ⟨sm3, h3⟩
        obtain ⟨c, hc, rfl⟩ := map_at2 hx
        have cm := List.mem_of_getElem? hc
        have hj : j < ls.length := (List.getElem?_eq_some_iff.mp hc).1
        have ec : c[i]? = some (c.getD i 46) := by
          rw [List.getD_eq_getElem?_getD, List.getElem?_eq_getElem (by rw [(C.col c cm).len]; exact hi)]
          rfl
        refine ⟨rfl, rv c, rfl, .int i, rfl, S c, (i : Int), c.getD i 46, rfl, rfl, zl c cm, by rw [show (S c).cps.toList = c by simp [S]]; exact atI_nat ec, _, h3, ?_, same_over sm3 hD2, ?_⟩
        · rw [List.length_map, List.length_map, List.length_take]
          exact small1000 (by omega)
        · rw [upd_same, take_snoc hc, List.map_append, List.map_append]
          rfl
      · rintro H3 ⟨sm3, h3⟩
        rw [List.length_map, List.take_length] at h3
        refine ⟨"", D2, (rowC ls i).map fun c => S [c], rfl, rfl, .inl (SqL.of ?_), ?_, ?_⟩
        · rw [h3, List.map_map (g := V.str)]
          rfl
        · rw [lens_ones]
          unfold rowC
          rw [List.length_map]
          show ls.length + _ * 0 ≤ 16777216
          omega
        rw [join_ones]
        refine ⟨_, sm3 _ _ h2, ?_, ?_, ?_⟩
        · rw [List.length_map, List.length_take]
          exact small1000 (by omega)
        · exact fun b o e => by
            have sm2 := sm.trans sm3
            rw [upd_ne (ne_of_none e hD)]
            exact sm2 _ _ e
        · rw [upd_same, take_snoc er, List.map_append]
          rfl
    · rintro H2 ⟨sm, h2⟩
      have e2 : (rowsC high ls).take high = rowsC high ls := List.take_of_length_le (by unfold rowsC; rw [List.length_map, List.length_range]; exact Nat.le_refl _)
      rw [e2] at h2
      exact ⟨D, _, rfl, .inl ⟨SqL.of h2, fun p hp => q p _ (sm.trans (same_upd hp)) upd_same⟩⟩
end
end Dt
namespace Dt
open PySem PySem.Spec PyProof.Rows L2 L2X
open SX (S)
/-! ### one place turned over -/
def flipL (c : List Nat) (k : Nat) : List Nat := c.take k ++ [if c.getD k 46 = 35 then 46 else 35] ++ c.drop (k + 1)
def turnC (ls : List (List Nat)) (i k : Nat) : List (List Nat) := ls.set i (flipL (ls.getD i []) k)
theorem flipL_row {high k : Nat} {c : List Nat} (R : RowR high c) (hk : k < high) : RowR high (flipL c k) := by
  unfold flipL
  refine ⟨?_, fun x hx => ?_⟩
  · rw [List.length_append, List.length_append, List.length_take, List.length_drop, R.len]
    simp
    omega
  · rcases List.mem_append.mp hx with hx | hx
    · rcases List.mem_append.mp hx with hx | hx
      · exact R.sg x (List.mem_of_mem_take hx)
      · rw [List.mem_singleton.mp hx]
        split
        · exact .inr rfl
        · exact .inl rfl
    · exact R.sg x (List.mem_of_mem_drop hx)
theorem turnC_cols {high wide i k : Nat} {ls : List (List Nat)} (C : ColsR high wide ls) (hi : i < wide) (hk : k < high) : ColsR high wide (turnC ls i k) := by
  refine C.set (flipL_row ?_ hk)
  have hi' : i < ls.length := by rw [C.len]; exact hi
  rw [List.getD_eq_getElem?_getD, List.getElem?_eq_getElem hi']
  exact C.col _ (List.getElem_mem hi')
theorem cutS_from (l : List Nat) (n : Nat) : cutS (S l) (some (n : Int)) none = S (l.drop n) := by
  unfold cutS
  rw [HT.sIx_nat]
  have e : HT.sIx (S l).length (S l).length none = l.length := by rw [HT.sIx_none, SX.S_len]
  rw [e, SX.S_len]
  show (⟨((l.drop (min n l.length)).take (l.length - min n l.length)).toArray⟩ : Str) = _
  by_cases h : n ≤ l.length
  · rw [Nat.min_eq_left h, List.take_of_length_le (by rw [List.length_drop]; omega)]
  · rw [Nat.min_eq_right (by omega), List.drop_of_length_le (Nat.le_refl _), List.drop_of_length_le (by omega), List.take_nil]
abbrev sLt : Stmt := topS 76
abbrev nLt : List Str := ["columns", "at", "k", "column", "found"]
theorem scLt : FnScope nLt ["columns", "at", "k"] (defScope sLt) := ⟨rfl, rfl, rfl, by decide +kernel, rfl, by decide +kernel, by decide +kernel⟩
def spLt : Sp := fun vs H Q _ => ∃ (l high wide i k : Nat) (ls : List (List Nat)), vs = [.ref l, .int i, .int k] ∧ H l = some (.lst (ls.map rv)) ∧ ColsR high wide ls ∧ i < wide ∧ k < high ∧ high ≤ 60 ∧ wide ≤ 100 ∧ ∀ (m : Addr) (H' : Hp), Same H H' → H m = none → H' m = some (.lst ((turnC ls i k).map rv)) → Q (.ref m) H'
section
variable {P : Program} {w : World} {K : PySem.W.Frag} {mg : Str → Option Value} {base : Heap}
theorem ok_lt {f : Addr} {fd : FuncData} {k : Nat} (F : Fun K "_law_turned" "_law_turned" sLt f fd) (T : Tx mg) : FnOk P w K mg base CX0 (k + 1) f fd ["columns", "at", "k"] spLt := by
  refine F.ok scLt (fun vs H Q E h => ?_) (fun cdv A outer s H vs Q E hr h => ?_)
  · obtain ⟨_, _, _, _, _, _, rfl, _⟩ := h
    rfl
  · obtain ⟨l, high, wide, i, kk, ls, rfl, hl, C, hi, hk, h60, w100, q⟩ := h
    have nd := scLt.nd
    refine ⟨_, pss_cons (ps_par (i := 3) (j := 4) (by rfl) nd rfl rfl (by decide) rfl rfl (pa_cons (pe_ix (r := rIxL K) ix_list (pv 0) (pv 1) (fun _ _ => rfl)) (pa_cons (pe_callTy call_list_of (by rfl) T.list (by decide +kernel) (pa_cons (pv 0) pa_nil)) pa_nil)) (by rfl))
      (pss_cons (ps_asg (pe_op op_add_str (pe_op op_add_str (pe_slice sl_str (pv 3) po_none (po_some (pv 2))) (pe_ix (r := rIxL K) ix_list (pe_lst (pa_cons pe_str (pa_cons pe_str pa_nil))) (pe_callTy call_int1 (by rfl) T.int (by decide +kernel) (pa_cons (pe_cmpR op_eq (pe_ix ix_str (pv 3) (pv 2) (fun _ _ => rfl)) pe_str (nomark _)) pa_nil)) (fun _ _ => rfl))) (pe_slice sl_str (pv 3) (po_some (pe_op op_add (pv 2) pe_int)) po_none)) (pg_sub (pv 4) (pv 1) set_list))
      (pss_one (ps_ret (pv 4)))), ?_⟩
    have hi' : i < ls.length := by rw [C.len]; exact hi
    have ex : ls[i]? = some ls[i] := List.getElem?_eq_getElem hi'
    have eg : ls.getD i [] = ls[i] := by
      rw [List.getD_eq_getElem?_getD, ex]
      rfl
    have R := C.col ls[i] (List.getElem_mem hi')
    have et : turnC ls i kk = ls.set i (flipL ls[i] kk) := by unfold turnC; rw [eg]
    rw [et] at q
    generalize ls[i] = c at ex R q
    have lw := C.len
    have lz : (S c).length ≤ sizeLine := by
      rw [SX.S_len, R.len]
      exact Nat.le_of_lt (small1000 (by omega))
    have ec : c[kk]? = some (c.getD kk 46) := by
      rw [List.getD_eq_getElem?_getD, List.getElem?_eq_getElem (by rw [R.len]; exact hk)]
      rfl
    have rc : c.getD kk 46 = 35 ∨ c.getD kk 46 = 46 := R.sg _ (List.mem_of_getElem? ec)
    refine ⟨.ref l, rfl, .int i, rfl, l, _, (i : Int), rv c, rfl, rfl, SqL.of hl, atI_nat (by rw [List.getElem?_map, ex]; rfl), .ref l, rfl, l, ls.map rv, rfl, .inl (SqL.of hl), fun m hm => ⟨_, _, rfl, ?_⟩⟩
    have sm := same_upd (o := .lst (ls.map rv)) hm
    have em := upd_same (H := H) (a := m) (o := .lst (ls.map rv))
    generalize upd H m (.lst (ls.map rv)) = H1 at sm em ⊢
    refine ⟨rv c, rfl, .int kk, rfl, kk, rfl, S c, rfl, lz, ?_⟩
    rw [show cutS (S c) none (some (kk : Int)) = S (c.take kk) from cutS_to c kk]
    refine ⟨by show 2 ≤ sizeLine; decide, fun b2 hb2 => ?_⟩
    have s2 := same_upd (o := .lst [V.str "#", V.str "."]) hb2
    have e2 := upd_same (H := H1) (a := b2) (o := .lst [V.str "#", V.str "."])
    have em2 := s2 _ _ em
    generalize upd H1 b2 (.lst [V.str "#", V.str "."]) = H2 at s2 e2 em2 ⊢
    refine ⟨rv c, rfl, .int kk, rfl, S c, (kk : Int), c.getD kk 46, rfl, rfl, lz, by rw [show (S c).cps.toList = c by simp [S]]; exact atI_nat ec, rfl, .inr ⟨_, rfl, ?_⟩⟩
    have fin : ∀ (x : Nat), x = (if c.getD kk 46 = 35 then 46 else 35) → Q (.ref m) (upd H2 m (.lst ((ls.map rv).set i (V.str (S (c.take kk ++ [x] ++ c.drop (kk + 1))))))) := fun x hx => by
      rw [set_map, hx]
      refine q m _ (fun b o e => ?_) hm upd_same
      rw [upd_ne (ne_of_none e hm)]
      exact s2 _ _ (sm _ _ e)
    have go : ∀ (x : Nat) (t : Str), t = S [x] → x = (if c.getD kk 46 = 35 then 46 else 35) → ∃ i j : Str, V.str (S (c.take kk)) = .str i ∧ V.str t = .str j ∧ i.length + j.length ≤ sizeLine ∧ True := fun x t ht _ => ⟨_, _, rfl, rfl, by
      rw [ht, SX.S_len, SX.S_len, List.length_take]
      exact Nat.le_of_lt (small1000 (by show min kk c.length + 1 ≤ 1000; rw [R.len]; omega)), trivial⟩
    have small : ∀ x : Nat, (S (c.take kk ++ [x])).length + (S (c.drop (kk + 1))).length ≤ sizeLine := fun x => by
      rw [SX.S_len, SX.S_len, List.length_append, List.length_take, List.length_drop, R.len]
      exact Nat.le_of_lt (small1000 (by simp; omega))
    have ek : ((kk : Int) + 1) = ((kk + 1 : Nat) : Int) := by omega
    have l1 : ∀ x : Nat, (S (c.take kk)).length + (S [x]).length ≤ sizeLine := fun x => by
      rw [SX.S_len, SX.S_len, List.length_take, R.len]
      exact Nat.le_of_lt (small1000 (by show min kk high + 1 ≤ 1000; omega))
    rcases rc with h | h
    · rw [h]
      refine ⟨b2, _, 1, .str ".", rfl, by decide +kernel, SqL.of e2, rfl, S (c.take kk), ".", rfl, rfl, by rw [s_dot]; exact l1 46, ?_⟩
      rw [s_dot, SX.S_cat]
      refine ⟨rv c, rfl, .int kk, rfl, kk, 1, rfl, rfl, _, rfl, ?_⟩
      dsimp only [tNoPart]
      refine ⟨S c, rfl, lz, ?_⟩
      rw [ek, cutS_from]
      refine ⟨_, _, rfl, rfl, small 46, ?_⟩
      rw [SX.S_cat]
      exact ⟨.ref m, rfl, .int i, rfl, m, _, (i : Int), i, rfl, rfl, em2, by rw [List.length_map]; exact ixN_of hi', .ref m, rfl, fin 46 (by rw [h]; rfl)⟩
    · rw [h]
      refine ⟨b2, _, 0, .str "#", rfl, by decide +kernel, SqL.of e2, rfl, S (c.take kk), "#", rfl, rfl, by rw [s_hash]; exact l1 35, ?_⟩
      rw [s_hash, SX.S_cat]
      refine ⟨rv c, rfl, .int kk, rfl, kk, 1, rfl, rfl, _, rfl, ?_⟩
      dsimp only [tNoPart]
      refine ⟨S c, rfl, lz, ?_⟩
      rw [ek, cutS_from]
      refine ⟨_, _, rfl, rfl, small 35, ?_⟩
      rw [SX.S_cat]
      exact ⟨.ref m, rfl, .int i, rfl, m, _, (i : Int), i, rfl, rfl, em2, by rw [List.length_map]; exact ixN_of hi', .ref m, rfl, fin 35 (by rw [h]; rfl)⟩
end
end Dt
namespace Dt
open PySem PySem.Spec PyProof.Rows L2 L2X
open SX (S)
/-! ### shapes as lists of columns -/
structure CsAt (H : Hp) (d q l : Addr) (xs : List V) (css : List (List (List Nat))) : Prop where
  len : xs.length = css.length
  at_ : ∀ (i : Nat) (x : V) (cs : List (List Nat)), xs[i]? = some x → css[i]? = some cs → ∃ a : Addr, x = .ref a ∧ a ≠ d ∧ a ≠ q ∧ a ≠ l ∧ H a = some (.lst (cs.map rv))
theorem CsAt.dq {H H' : Hp} {d q l : Addr} {xs : List V} {css : List (List (List Nat))} (h : CsAt H d q l xs css) (s : Dq d q H H') : CsAt H' d q l xs css :=
  ⟨h.len, fun i x cs a b => let ⟨t, e, n1, n2, n3, z⟩ := h.at_ i x cs a b; ⟨t, e, n1, n2, n3, s _ _ z n1 n2⟩⟩
theorem CsAt.same {H H' : Hp} {d q l : Addr} {xs : List V} {css : List (List (List Nat))} (h : CsAt H d q l xs css) (s : Same H H') : CsAt H' d q l xs css := h.dq (Dq.same s)
theorem CsAt.upd {H : Hp} {d q l : Addr} {xs : List V} {css : List (List (List Nat))} {o : HO} (h : CsAt H d q l xs css) : CsAt (upd H l o) d q l xs css :=
  ⟨h.len, fun i x cs a b => let ⟨t, e, n1, n2, n3, z⟩ := h.at_ i x cs a b; ⟨t, e, n1, n2, n3, by rw [upd_ne n3]; exact z⟩⟩
theorem CsAt.add {H : Hp} {d q l a : Addr} {xs : List V} {css : List (List (List Nat))} {cs : List (List Nat)} (h : CsAt H d q l xs css) (n1 : a ≠ d) (n2 : a ≠ q) (n3 : a ≠ l) (ha : H a = some (.lst (cs.map rv))) : CsAt H d q l (xs ++ [.ref a]) (css ++ [cs]) := by
  refine ⟨by rw [List.length_append, List.length_append, h.len]; rfl, fun i x c hx hc => ?_⟩
  by_cases hi : i < xs.length
  · rw [List.getElem?_append_left hi] at hx
    rw [List.getElem?_append_left (by rw [← h.len]; exact hi)] at hc
    exact h.at_ i x c hx hc
  · rw [List.getElem?_append_right (by omega)] at hx
    rw [List.getElem?_append_right (by rw [← h.len]; omega), ← h.len] at hc
    rcases hk : i - xs.length with _ | k
    · rw [hk] at hx hc
      cases hx
      cases hc
      exact ⟨a, rfl, n1, n2, n3, ha⟩
    · rw [hk] at hx
      cases hx
structure GoodC (high wide : Nat) (cs : List (List Nat)) : Prop where
  w : 1 ≤ cs.length ∧ cs.length ≤ wide
  c : ColsR high cs.length cs
  dot : ∃ c ∈ cs, 35 ∈ c
theorem ColsR.self {high wide : Nat} {ls : List (List Nat)} (h : ColsR high wide ls) : ColsR high ls.length ls := ⟨rfl, h.col⟩
def clD (cs : List (List Nat)) : PyData := .list (cs.map rD)
theorem clD_eq (a b : List (List Nat)) : PyData.eqv (clD a) (clD b) = decide (a = b) := by
  unfold clD
  rw [PyData.eqv]
  exact eqv_rowsD a b
theorem any_cls (css : List (List (List Nat))) (c : List (List Nat)) : ((css.map clD).any fun z => PyData.eqv z (clD c)) = decide (c ∈ css) := by
  induction css with
  | nil => simp
  | cons x r ih =>
    rw [List.map_cons, List.any_cons, ih, clD_eq]
    by_cases h : x = c
    · simp [h]
    · have : ¬ c = x := fun z => h z.symm
      simp [h, this]
theorem lay_cl {cs : List (List Nat)} (h : ∀ l ∈ cs, ∀ c ∈ l, c = 35 ∨ c = 46) : (clD cs).canLay0 = true ∧ (clD cs).depth ≤ 2 := by
  obtain ⟨h1, h2⟩ := lay_rows cs h
  unfold clD
  refine ⟨by simp [PyData.canLay0, h1], ?_⟩
  simp only [PyData.depth]
  omega
theorem lay_cls : ∀ css : List (List (List Nat)), (∀ cs ∈ css, ∀ l ∈ cs, ∀ c ∈ l, c = 35 ∨ c = 46) → PyData.canLayAll0 (css.map clD) = true ∧ PyData.depthAll (css.map clD) ≤ 3
  | [], _ => ⟨by simp [PyData.canLayAll0], by simp [PyData.depthAll]⟩
  | c :: r, h => by
    obtain ⟨h1, h2⟩ := lay_cls r fun x hx => h x (List.mem_cons_of_mem _ hx)
    obtain ⟨g1, g2⟩ := lay_cl (h c List.mem_cons_self)
    refine ⟨?_, ?_⟩
    · rw [List.map_cons]
      simp [PyData.canLayAll0, g1, h1]
    · rw [List.map_cons]
      simp only [PyData.depthAll]
      omega
theorem dp_cls {K : PySem.W.Frag} {H : Hp} {d q l : Addr} : ∀ {xs : List V} {css : List (List (List Nat))}, CsAt H d q l xs css → DpAll K H xs (css.map clD)
  | [], [], _ => .nil
  | [], _ :: _, h => nomatch h.len
  | _ :: _, [], h => nomatch h.len
  | x :: xs, c :: css, h => by
    obtain ⟨a, rfl, _, _, _, ha⟩ := h.at_ 0 x c rfl rfl
    exact .cons (.lst (SqL.of ha) (dp_rows c)) (dp_cls ⟨Nat.succ.inj h.len, fun i y q a b => h.at_ (i + 1) y q a b⟩)
theorem notin_cls {K : PySem.W.Frag} {H : Hp} {d q l a : Addr} {xs : List V} {css : List (List (List Nat))} {cs : List (List Nat)} (hl : H l = some (.lst xs)) (C : CsAt H d q l xs css) (g : ∀ cs ∈ css, ∀ l ∈ cs, ∀ c ∈ l, c = 35 ∨ c = 46)
    (ha : H a = some (.lst (cs.map rv))) (gc : ∀ l ∈ cs, ∀ c ∈ l, c = 35 ∨ c = 46) {Q : VK} (qq : Q (.bl (!decide (cs ∈ css))) H) : rNotInD K (.ref a) (.ref l) H Q := by
  obtain ⟨h1, h2⟩ := lay_cls css g
  obtain ⟨g1, g2⟩ := lay_cl gc
  refine ⟨clD cs, css.map clD, .lst (SqL.of ha) (dp_rows cs), .lst (SqL.of hl) (dp_cls C), ?_, ?_, ?_⟩
  · unfold SeqAt.shaped
    rw [Bool.and_eq_true, decide_eq_true_iff]
    exact ⟨g1, by omega⟩
  · unfold SeqAt.shaped
    rw [Bool.and_eq_true, decide_eq_true_iff]
    refine ⟨by simp [PyData.canLay0, h1], ?_⟩
    simp only [PyData.depth]
    omega
  · rw [any_cls]
    exact qq
abbrev sLs : Stmt := topS 77
abbrev nLs : List Str := ["s", "high", "many", "wide", "found", "k", "way", "one", "shape"]
theorem scLs : FnScope nLs ["s", "high", "many", "wide"] (defScope sLs) := ⟨rfl, rfl, rfl, by decide +kernel, rfl, by decide +kernel, by decide +kernel⟩
def spLs : Sp := fun vs H Q _ => ∃ (d q high many wide : Nat), vs = [.ref d, .int high, .int many, .int wide] ∧ Ds H d q ∧ 1 ≤ high ∧ high ≤ 60 ∧ 1 ≤ many ∧ many ≤ 20 ∧ 1 ≤ wide ∧ wide ≤ 30 ∧
  ∀ (l : Addr) (xs : List V) (css : List (List (List Nat))) (H' : Hp), H l = none → H' l = some (.lst xs) → l ≠ d → l ≠ q → CsAt H' d q l xs css → (∀ cs ∈ css, GoodC high wide cs) → css.Nodup → 1 ≤ css.length → css.length ≤ many → Ds H' d q → Dq d q H H' → Q (.ref l) H'
section
variable {P : Program} {w : World} {K : PySem.W.Frag} {mg : Str → Option Value} {base : Heap}
theorem ok_ls {f : Addr} {fd : FuncData} {k : Nat} (F : Fun K "_law_shapes" "_law_shapes" sLs f fd) (T : Tx mg) (GN : Pm P w K mg base CX0 (k + 1) "_law_draw" ["s", "top"] spDw) (GC : Pm P w K mg base CX0 (k + 1) "_law_columns" ["s", "high", "wide"] spCl) (GU : Pm P w K mg base CX0 (k + 1) "_law_turned" ["columns", "at", "k"] spLt) : FnOk P w K mg base CX0 (k + 2) f fd ["s", "high", "many", "wide"] spLs := by
  obtain ⟨fN, fdN, GN, mN, kN, bN⟩ := GN.ex
  obtain ⟨fC, fdC, GC, mC, kC, bC⟩ := GC.ex
  obtain ⟨fU, fdU, GU, mU, kU, bU⟩ := GU.ex
  refine F.ok scLs (fun vs H Q E h => ?_) (fun cdv A outer s H vs Q E hr h => ?_)
  · obtain ⟨_, _, _, _, _, rfl, _⟩ := h
    rfl
  · obtain ⟨d, q', high, many, wide, rfl, D, h0, h1, m0, m1, w0, w1, q⟩ := h
    have nd := scLs.nd
    have hu65 : (A.deeper (envOfC "_law_shapes" (defScope sLs) s.heap.objs.size f cdv)).units + 65 < cLine := by
      have := hr.un
      omega
    refine ⟨_, C8.pss_cut (ps_set (i := 4) nd rfl (.inl rfl) (pe_lst (pa_cons (pe_call GC hr (by rfl) mC kC bC .nil pass0 (pa_cons (pv 0) (pa_cons (pv 1) (pa_cons (pe_op op_add pe_int (pe_call GN hr (by rfl) mN kN bN .nil pass0 (pa_cons (pv 0) (pa_cons (pv 3) pa_nil)))) pa_nil)))) pa_nil)))
      (pss_cons (ps_for PassesOwn.never rfl (pi_range1 rfl T.range (pa_cons (pe_call GN hr (by rfl) mN kN bN .nil pass0 (pa_cons (pv 0) (pa_cons (pv 2) pa_nil))) pa_nil)) (pg_name (i := 5) nd rfl (.inl rfl))
        (C8.pss_cut (ps_par (i := 6) (j := 7) (by rfl) nd rfl rfl (by decide) rfl rfl (pa_cons (pe_call GN hr (by rfl) mN kN bN .nil pass0 (pa_cons (pv 0) (pa_cons pe_int pa_nil))) (pa_cons (pe_ix (r := rIxL K) ix_list (pv 4) (pe_call GN hr (by rfl) mN kN bN .nil pass0 (pa_cons (pv 0) (pa_cons (pe_callB call_len_seq (by rfl) T.len PySem.boot_len (pa_cons (pv 4) pa_nil)) pa_nil))) (fun _ _ => rfl)) pa_nil)) (by rfl))
        (C8.pss_cut (ps_set (i := 8) nd rfl (.inl rfl) (pe_call GC hr (by rfl) mC kC bC .nil pass0 (pa_cons (pv 0) (pa_cons (pv 1) (pa_cons (pe_op op_add pe_int (pe_call GN hr (by rfl) mN kN bN .nil pass0 (pa_cons (pv 0) (pa_cons (pv 3) pa_nil)))) pa_nil)))))
        (C8.pss_cut (ps_if (pt_cmpR op_eq (pv 6) pe_int (nomark _)) (pss_one (ps_set (i := 8) nd rfl (.inl rfl) (pe_call GU hr (by rfl) mU kU bU .nil pass0 (pa_cons (pv 7) (pa_cons (pe_call GN hr (by rfl) mN kN bN .nil pass0 (pa_cons (pv 0) (pa_cons (pe_callB call_len_seq (by rfl) T.len PySem.boot_len (pa_cons (pv 7) pa_nil)) pa_nil))) (pa_cons (pe_call GN hr (by rfl) mN kN bN .nil pass0 (pa_cons (pv 0) (pa_cons (pv 1) pa_nil))) pa_nil)))))) (pss_one (ps_if (PW.pt (pw_and (pt_cmpR op_eq (pv 6) pe_int (nomark _)) (pw_and1 (pt_cmpR op_gt (pe_callB call_len_seq (by rfl) T.len PySem.boot_len (pa_cons (pv 7) pa_nil)) pe_int (nomark _))))) (pss_one (ps_set (i := 8) nd rfl (.inl rfl) (pe_slice sl_list (pv 7) po_none (po_some (pe_op op_sub (pe_callB call_len_seq (by rfl) T.len PySem.boot_len (pa_cons (pv 7) pa_nil)) pe_int))))) (pss_one (ps_if (pt_cmpR op_eq (pv 6) pe_int (nomark _)) (pss_one (ps_set (i := 8) nd rfl (.inl rfl) (pe_slice sl_list (pe_op op_cat (pe_op op_cat (pv 7) (pe_op op_rep (pe_lst (pa_cons (pe_op op_mul_str pe_str (pv 1)) pa_nil)) (pe_call GN hr (by rfl) mN kN bN .nil pass0 (pa_cons (pv 0) (pa_cons pe_int pa_nil))))) (pe_ix (r := rIxL K) ix_list (pv 4) pe_int (fun _ _ => rfl))) po_none (po_some (pv 3))))) pss_nil)))))
        (pss_one (ps_if (PW.pt (pw_and (pt_cmpR op_in_sign pe_str (pe_joinK (K := K) rfl pe_str (pv 8)) (by with_unfolding_all rfl)) (pw_and1 (pt_cmpR (op_notInD hu65) (pv 8) (pv 4) (by with_unfolding_all rfl))))) (pss_one (ps_expr (pe_bm PySem.F.plainAttrs_list PySem.F.slot_list_append PySem.F.type_list_append mt_append (pv 4) (pa_cons (pv 8) pa_nil)))) pss_nil))))))
      (pss_one (ps_ret (pv 4)))), ?_⟩
    have cols : ∀ {cs : List (List Nat)}, GoodC high wide cs → ∀ l ∈ cs, ∀ c ∈ l, c = 35 ∨ c = 46 := fun g l hl => (g.c.col l hl).sg
    -- the first
    refine ⟨fun σ' H' => ∃ (l : Addr) (xs : List V) (css : List (List (List Nat))), σ' = [some (.ref d), some (.int high), some (.int many), some (.int wide), some (.ref l), none, none, none, none] ∧ H l = none ∧ l ≠ d ∧ l ≠ q' ∧ css.length = 1 ∧ H' l = some (.lst xs) ∧ CsAt H' d q' l xs css ∧ (∀ cs ∈ css, GoodC high wide cs) ∧ css.Nodup ∧ Ds H' d q' ∧ Dq d q' H H', ?_, ?_⟩
    · refine ⟨.ref d, rfl, .int high, rfl, .ref d, rfl, .int wide, rfl, d, q', wide, rfl, D, by omega, by omega, fun m H1 m0' m1' D1 dq1 => ⟨1, m, rfl, rfl, ?_⟩⟩
      obtain ⟨m, rfl⟩ := Int.eq_ofNat_of_zero_le m0'
      have e1 : (1 + (m : Int)) = ((1 + m : Nat) : Int) := by omega
      refine ⟨d, q', high, 1 + m, congrArg (fun z => [V.ref d, V.int high, V.int z]) e1, D1, h0, h1, by omega, by omega, fun a cs H2 na ha n1 n2 C dot D2 dq2 => ⟨by show 1 ≤ sizeLine; decide, fun l hl => ?_⟩⟩
      have sl := same_upd (o := .lst [V.ref a]) hl
      have lw := C.len
      refine ⟨l, _, [cs], rfl, (dq1.trans dq2).nn D2 hl, (D2.new hl).1, (D2.new hl).2, rfl, upd_same, ⟨rfl, fun i x c hx hc => ?_⟩, fun c hc => ?_, by simp, D2.same sl, (dq1.trans dq2).trans (Dq.same sl)⟩
      · cases i with
        | zero =>
          cases hx
          cases hc
          exact ⟨a, rfl, n1, n2, ne_of_none ha hl, sl _ _ ha⟩
        | succ i => exact nomatch hx
      · rw [List.mem_singleton.mp hc]
        exact ⟨by omega, C.self, dot⟩
    rintro _ H1 ⟨l, xs1, css1, rfl, nl, n1, n2, lc1, hl1, C1, G1, N1, D1, dq1⟩
    refine ⟨.ref d, rfl, .int many, rfl, d, q', many, rfl, D1, by omega, by omega, fun cnt H2 c0 c1 D2 dq2 => ?_⟩
    obtain ⟨cnt, rfl⟩ := Int.eq_ofNat_of_zero_le c0
    refine ⟨cnt, rfl, by omega, by omega, for_range (lo := 0) (n := cnt) (fun i σ H' => ∃ (y5 y6 y7 y8 : Option V) (xs : List V) (css : List (List (List Nat))), σ = [some (.ref d), some (.int high), some (.int many), some (.int wide), some (.ref l), y5, y6, y7, y8] ∧ 1 ≤ css.length ∧ css.length ≤ i + 1 ∧ H' l = some (.lst xs) ∧ CsAt H' d q' l xs css ∧ (∀ cs ∈ css, GoodC high wide cs) ∧ css.Nodup ∧ Ds H' d q' ∧ Dq d q' H H') ⟨none, none, none, none, xs1, css1, rfl, by omega, by omega, dq2 _ _ hl1 n1 n2, C1.dq dq2, G1, N1, D2, dq1.trans dq2⟩ ?_ ?_⟩
    · rintro i σ H3 hi ⟨y5, y6, y7, y8, xs, css, rfl, l1, l2, hl3, C3, G3, N3, D3, dq3⟩
      generalize (V.int (0 + (i : Int))) = tv
      have lx := C3.len
      -- the way, and one of them
      refine ⟨fun σ' H' => ∃ (way : Int) (one : Addr) (co : List (List Nat)), σ' = [some (.ref d), some (.int high), some (.int many), some (.int wide), some (.ref l), some tv, some (.int way), some (.ref one), y8] ∧ one ≠ d ∧ one ≠ q' ∧ one ≠ l ∧ H' one = some (.lst (co.map rv)) ∧ GoodC high wide co ∧ H' l = some (.lst xs) ∧ CsAt H' d q' l xs css ∧ (∀ cs ∈ css, GoodC high wide cs) ∧ css.Nodup ∧ Ds H' d q' ∧ Dq d q' H H', ?_, ?_⟩
      · refine ⟨.ref d, rfl, d, q', 5, rfl, D3, by decide, by decide, fun way H4 _ _ D4 dq4 => ?_⟩
        have C4 := C3.dq dq4
        have hl4 := dq4 _ _ hl3 n1 n2
        refine ⟨.ref l, rfl, .ref d, rfl, .ref l, rfl, l, xs, rfl, .inl (SqL.of hl4), d, q', (xs.length : Int), rfl, D4, by omega, by omega, fun m H5 m0' m1' D5 dq5 => ?_⟩
        obtain ⟨j, rfl⟩ := Int.eq_ofNat_of_zero_le m0'
        have hj : j < css.length := by omega
        have ec : css[j]? = some css[j] := List.getElem?_eq_getElem hj
        have gj := G3 _ (List.getElem_mem hj)
        generalize css[j] = co at ec gj
        have ex : xs[j]? = some (xs[j]'(by omega)) := List.getElem?_eq_getElem (by omega)
        have C5 := C4.dq dq5
        obtain ⟨a, ea, b1, b2, b3, ha⟩ := C5.at_ j _ co ex ec
        rw [ea] at ex
        have hl5 := dq5 _ _ hl4 n1 n2
        refine ⟨l, xs, (j : Int), .ref a, rfl, rfl, SqL.of hl5, atI_nat ex, _, _, rfl, way, a, co, rfl, b1, b2, b3, ha, gj, hl5, C5, G3, N3, D5, (dq3.trans dq4).trans dq5⟩
      rintro _ H4 ⟨way, one, co, rfl, b1, b2, b3, ho4, go, hl4, C4, _, _, D4, dq4⟩
      have wo := go.w
      -- any
      refine ⟨fun σ' H' => ∃ (a : Addr) (cs : List (List Nat)), σ' = [some (.ref d), some (.int high), some (.int many), some (.int wide), some (.ref l), some tv, some (.int way), some (.ref one), some (.ref a)] ∧ a ≠ d ∧ a ≠ q' ∧ a ≠ l ∧ H' a = some (.lst (cs.map rv)) ∧ ColsR high cs.length cs ∧ 1 ≤ cs.length ∧ cs.length ≤ wide ∧ H' one = some (.lst (co.map rv)) ∧ H' l = some (.lst xs) ∧ CsAt H' d q' l xs css ∧ (∀ cs ∈ css, GoodC high wide cs) ∧ css.Nodup ∧ Ds H' d q' ∧ Dq d q' H H', ?_, ?_⟩
      · refine ⟨.ref d, rfl, .int high, rfl, .ref d, rfl, .int wide, rfl, d, q', wide, rfl, D4, by omega, by omega, fun m H5 m0' m1' D5 dq5 => ⟨1, m, rfl, rfl, ?_⟩⟩
        obtain ⟨m, rfl⟩ := Int.eq_ofNat_of_zero_le m0'
        have e1 : (1 + (m : Int)) = ((1 + m : Nat) : Int) := by omega
        refine ⟨d, q', high, 1 + m, congrArg (fun z => [V.ref d, V.int high, V.int z]) e1, D5, h0, h1, by omega, by omega, fun a cs H6 na ha a1 a2 C dot D6 dq6 => ?_⟩
        have dq46 := dq5.trans dq6
        have lw := C.len
        exact ⟨a, cs, rfl, a1, a2, (ne_of_none (dq5 _ _ hl4 n1 n2) na).symm, ha, C.self, by omega, by omega, dq46 _ _ ho4 b1 b2, dq46 _ _ hl4 n1 n2, C4.dq dq46, G3, N3, D6, dq4.trans dq46⟩
      rintro _ H5 ⟨a, cs, rfl, a1, a2, a3, ha5, Ca, w5, w6, ho5, hl5, C5, _, _, D5, dq5⟩
      -- another one
      refine ⟨fun σ' H' => ∃ (a : Addr) (cs : List (List Nat)), σ' = [some (.ref d), some (.int high), some (.int many), some (.int wide), some (.ref l), some tv, some (.int way), some (.ref one), some (.ref a)] ∧ a ≠ d ∧ a ≠ q' ∧ a ≠ l ∧ H' a = some (.lst (cs.map rv)) ∧ ColsR high cs.length cs ∧ 1 ≤ cs.length ∧ cs.length ≤ wide ∧ H' l = some (.lst xs) ∧ CsAt H' d q' l xs css ∧ (∀ cs ∈ css, GoodC high wide cs) ∧ css.Nodup ∧ Ds H' d q' ∧ Dq d q' H H', ?_, ?_⟩
      · have stay : ∃ (a' : Addr) (cs' : List (List Nat)), ([some (.ref d), some (.int high), some (.int many), some (.int wide), some (.ref l), some tv, some (.int way), some (.ref one), some (.ref a)] : L2.St) = [some (.ref d), some (.int high), some (.int many), some (.int wide), some (.ref l), some tv, some (.int way), some (.ref one), some (.ref a')] ∧ a' ≠ d ∧ a' ≠ q' ∧ a' ≠ l ∧ H5 a' = some (.lst (cs'.map rv)) ∧ ColsR high cs'.length cs' ∧ 1 ≤ cs'.length ∧ cs'.length ≤ wide ∧ H5 l = some (.lst xs) ∧ CsAt H5 d q' l xs css ∧ (∀ cs ∈ css, GoodC high wide cs) ∧ css.Nodup ∧ Ds H5 d q' ∧ Dq d q' H H5 := ⟨a, cs, rfl, a1, a2, a3, ha5, Ca, w5, w6, hl5, C5, G3, N3, D5, dq5⟩
        have new : ∀ {H6 : Hp} {m : Addr} {ms : List (List Nat)}, Dq d q' H5 H6 → Ds H6 d q' → H6 m = none → ColsR high ms.length ms → 1 ≤ ms.length → ms.length ≤ wide → ∃ (a : Addr) (cs : List (List Nat)), ([some (.ref d), some (.int high), some (.int many), some (.int wide), some (.ref l), some tv, some (.int way), some (.ref one), some (.ref m)] : L2.St) = [some (.ref d), some (.int high), some (.int many), some (.int wide), some (.ref l), some tv, some (.int way), some (.ref one), some (.ref a)] ∧ a ≠ d ∧ a ≠ q' ∧ a ≠ l ∧ (upd H6 m (.lst (ms.map rv))) a = some (.lst (cs.map rv)) ∧ ColsR high cs.length cs ∧ 1 ≤ cs.length ∧ cs.length ≤ wide ∧ (upd H6 m (.lst (ms.map rv))) l = some (.lst xs) ∧ CsAt (upd H6 m (.lst (ms.map rv))) d q' l xs css ∧ (∀ cs ∈ css, GoodC high wide cs) ∧ css.Nodup ∧ Ds (upd H6 m (.lst (ms.map rv))) d q' ∧ Dq d q' H (upd H6 m (.lst (ms.map rv))) := fun {H6 m ms} dq D6 hm Cm w5 w6 => by
          have s6 := same_upd (o := .lst (ms.map rv)) hm
          have hl6 := dq _ _ hl5 n1 n2
          exact ⟨m, ms, rfl, (D6.new hm).1, (D6.new hm).2, (ne_of_none hl6 hm).symm, upd_same, Cm, w5, w6, s6 _ _ hl6, (C5.dq dq).same s6, G3, N3, D6.same s6, (dq5.trans dq).trans (Dq.same s6)⟩
        refine ⟨.int way, rfl, rfl, _, rfl, ite2 (fun _ => ?_) (fun _ => ⟨.int way, rfl, rfl, _, rfl, ite2 (fun _ => ?_) (fun _ => iteF ⟨.int way, rfl, rfl, _, rfl, ite2 (fun _ => ?_) (fun _ => stay)⟩)⟩)⟩
        · refine ⟨.ref one, rfl, .ref d, rfl, .ref one, rfl, one, _, rfl, .inl (SqL.of ho5), d, q', ((co.map rv).length : Int), rfl, D5, by rw [List.length_map]; omega, by rw [List.length_map]; omega, fun i1 H6 i0 i1' D6 dq6 => ?_⟩
          obtain ⟨i1, rfl⟩ := Int.eq_ofNat_of_zero_le i0
          refine ⟨.ref d, rfl, .int high, rfl, d, q', high, rfl, D6, by omega, by omega, fun k1 H7 k0 k1' D7 dq7 => ?_⟩
          obtain ⟨k1, rfl⟩ := Int.eq_ofNat_of_zero_le k0
          rw [List.length_map] at i1'
          have dq57 := dq6.trans dq7
          refine ⟨one, high, co.length, i1, k1, co, rfl, dq57 _ _ ho5 b1 b2, go.c, by omega, by omega, h1, by omega, fun m H8 s8 nm hm => ?_⟩
          have Ct := turnC_cols (i := i1) (k := k1) go.c (by omega) (by omega)
          have lt : (turnC co i1 k1).length = co.length := Ct.len
          have D8 := D7.same s8
          have hl8 := s8 _ _ (dq57 _ _ hl5 n1 n2)
          exact ⟨m, turnC co i1 k1, rfl, (D7.new nm).1, (D7.new nm).2, (ne_of_none (dq57 _ _ hl5 n1 n2) nm).symm, hm, Ct.self, by omega, by omega, hl8, (C5.dq dq57).same s8, G3, N3, D8, (dq5.trans dq57).trans (Dq.same s8)⟩
        · refine ⟨.ref one, rfl, one, _, rfl, .inl (SqL.of ho5), _, 1, rfl, rfl, _, rfl, ite2 (fun e => ?_) (fun _ => ⟨.int way, rfl, rfl, _, rfl, ite2 (fun _ => ?_) (fun _ => stay)⟩)⟩
          · have e' := of_decide_eq_true e
            rw [List.length_map] at e'
            refine ⟨.ref one, rfl, .ref one, rfl, one, _, rfl, .inl (SqL.of ho5), _, 1, rfl, rfl, _, rfl, one, _, rfl, SqL.of ho5, fun m hm => ?_⟩
            have ec : cutV (co.map rv) none (some (((co.map rv).length : Int) - 1)) = (co.take (co.length - 1)).map rv := by
              rw [List.length_map, show ((co.length : Int) - 1) = ((co.length - 1 : Nat) : Int) by omega, List.map_take]
              unfold cutV
              rw [HT.sIx_nat]
              show ((co.map rv).drop 0).take (min (co.length - 1) (co.map rv).length - 0) = _
              rw [List.drop_zero, Nat.sub_zero, ← List.take_eq_take_min]
            rw [ec]
            exact new (ms := co.take (co.length - 1)) Dq.refl D5 hm ⟨rfl, fun l hl => go.c.col l (List.mem_of_mem_take hl)⟩ (by rw [List.length_take]; omega) (by rw [List.length_take]; omega)
          · have md := mulDot (n := high) (by omega)
            refine ⟨.ref one, rfl, .int high, rfl, ".", high, rfl, rfl, md.2, ?_⟩
            rw [md.1]
            refine ⟨by show 1 ≤ sizeLine; decide, fun t1 ht1 => ?_⟩
            have s1 := same_upd (o := .lst [V.str (S (List.replicate high 46))]) ht1
            have e1 := upd_same (H := H5) (a := t1) (o := .lst [V.str (S (List.replicate high 46))])
            have D6 := D5.same s1
            have nt1 := D5.new ht1
            generalize upd H5 t1 (.lst [V.str (S (List.replicate high 46))]) = H6 at s1 e1 D6 ⊢
            refine ⟨.ref d, rfl, d, q', 2, rfl, D6, by decide, by decide, fun k1 H7 k0 k1' D7 dq7 => ?_⟩
            obtain ⟨k1, rfl⟩ := Int.eq_ofNat_of_zero_le k0
            have dq57 : Dq d q' H5 H7 := (Dq.same s1).trans dq7
            have er : (List.replicate (k1 : Int).toNat [V.str (S (List.replicate high 46))]).flatten = (List.replicate k1 (List.replicate high 46)).map rv := by
              rw [Int.toNat_natCast, List.map_replicate]
              have flat : ∀ n : Nat, (List.replicate n [V.str (S (List.replicate high 46))]).flatten = List.replicate n (V.str (S (List.replicate high 46))) := by
                intro n
                induction n with
                | zero => rfl
                | succ n ih => rw [List.replicate_succ, List.flatten_cons, ih, List.replicate_succ]; rfl
              exact flat k1
            refine ⟨t1, (k1 : Int), _, rfl, rfl, dq7 _ _ e1 nt1.1 nt1.2, by omega, by omega, ?_, fun p1 hp1 => ?_⟩
            · rw [Int.toNat_natCast]
              exact Nat.le_of_lt (small1000 (by show 1 * k1 ≤ 1000; omega))
            rw [er]
            have s2 := same_upd (o := .lst ((List.replicate k1 (List.replicate high 46)).map rv)) hp1
            have e2 := upd_same (H := H7) (a := p1) (o := .lst ((List.replicate k1 (List.replicate high 46)).map rv))
            have D8 := D7.same s2
            generalize upd H7 p1 (.lst ((List.replicate k1 (List.replicate high 46)).map rv)) = H8 at s2 e2 D8 ⊢
            have dq58 := dq57.trans (Dq.same s2)
            refine ⟨one, p1, _, _, rfl, rfl, dq58 _ _ ho5 b1 b2, e2, ?_, fun c1 hc1 => ?_⟩
            · rw [List.length_map, List.length_map, List.length_replicate]
              exact Nat.le_of_lt (small1000 (by omega))
            rw [← List.map_append]
            have s3 := same_upd (o := .lst ((co ++ List.replicate k1 (List.replicate high 46)).map rv)) hc1
            have e3 := upd_same (H := H8) (a := c1) (o := .lst ((co ++ List.replicate k1 (List.replicate high 46)).map rv))
            have D9 := D8.same s3
            generalize upd H8 c1 (.lst ((co ++ List.replicate k1 (List.replicate high 46)).map rv)) = H9 at s3 e3 D9 ⊢
            have dq59 := dq58.trans (Dq.same s3)
            have ec0 : css[0]? = some (css[0]'(by omega)) := List.getElem?_eq_getElem (by omega)
            have g0 := G3 _ (List.getElem_mem (show 0 < css.length by omega))
            generalize css[0]'(by omega) = cf at ec0 g0
            have ex0 : xs[0]? = some (xs[0]'(by omega)) := List.getElem?_eq_getElem (by omega)
            obtain ⟨f0, ef, _, _, _, hf⟩ := (C5.dq dq59).at_ 0 _ cf ex0 ec0
            rw [ef] at ex0
            have wf := g0.w
            refine ⟨.ref l, rfl, l, xs, 0, .ref f0, rfl, rfl, SqL.of (dq59 _ _ hl5 n1 n2), atI_nat (j := 0) ex0, c1, f0, _, _, rfl, rfl, e3, hf, ?_, fun c2 hc2 => ?_⟩
            · rw [List.length_map, List.length_map, List.length_append, List.length_replicate]
              exact Nat.le_of_lt (small1000 (by omega))
            rw [← List.map_append]
            have s4 := same_upd (o := .lst ((co ++ List.replicate k1 (List.replicate high 46) ++ cf).map rv)) hc2
            have e4 := upd_same (H := H9) (a := c2) (o := .lst ((co ++ List.replicate k1 (List.replicate high 46) ++ cf).map rv))
            have DA := D9.same s4
            generalize upd H9 c2 (.lst ((co ++ List.replicate k1 (List.replicate high 46) ++ cf).map rv)) = HA at s4 e4 DA ⊢
            have dq5A := dq59.trans (Dq.same s4)
            refine ⟨.int wide, rfl, wide, rfl, c2, _, rfl, SqL.of e4, fun m hm => ?_⟩
            have ec : cutV ((co ++ List.replicate k1 (List.replicate high 46) ++ cf).map rv) none (some (wide : Int)) = ((co ++ List.replicate k1 (List.replicate high 46) ++ cf).take wide).map rv := by
              rw [List.map_take]
              generalize (co ++ List.replicate k1 (List.replicate high 46) ++ cf).map rv = zs
              unfold cutV
              rw [HT.sIx_nat]
              show (zs.drop 0).take (min wide zs.length - 0) = _
              rw [List.drop_zero, Nat.sub_zero, ← List.take_eq_take_min]
            rw [ec]
            refine new (ms := (co ++ List.replicate k1 (List.replicate high 46) ++ cf).take wide) dq5A DA hm ⟨rfl, fun l hl => ?_⟩ (by rw [List.length_take, List.length_append, List.length_append]; omega) (by rw [List.length_take]; omega)
            rcases List.mem_append.mp (List.mem_of_mem_take hl) with hl | hl
            · rcases List.mem_append.mp hl with hl | hl
              · exact go.c.col l hl
              · rw [List.eq_of_mem_replicate hl]
                exact row_rep 46 high (.inr rfl)
            · exact g0.c.col l hl
        · have md := mulDot (n := high) (by omega)
          refine ⟨.ref one, rfl, .int high, rfl, ".", high, rfl, rfl, md.2, ?_⟩
          rw [md.1]
          refine ⟨by show 1 ≤ sizeLine; decide, fun t1 ht1 => ?_⟩
          have s1 := same_upd (o := .lst [V.str (S (List.replicate high 46))]) ht1
          have e1 := upd_same (H := H5) (a := t1) (o := .lst [V.str (S (List.replicate high 46))])
          have D6 := D5.same s1
          have nt1 := D5.new ht1
          generalize upd H5 t1 (.lst [V.str (S (List.replicate high 46))]) = H6 at s1 e1 D6 ⊢
          refine ⟨.ref d, rfl, d, q', 2, rfl, D6, by decide, by decide, fun k1 H7 k0 k1' D7 dq7 => ?_⟩
          obtain ⟨k1, rfl⟩ := Int.eq_ofNat_of_zero_le k0
          have dq57 : Dq d q' H5 H7 := (Dq.same s1).trans dq7
          have er : (List.replicate (k1 : Int).toNat [V.str (S (List.replicate high 46))]).flatten = (List.replicate k1 (List.replicate high 46)).map rv := by
            rw [Int.toNat_natCast, List.map_replicate]
            have flat : ∀ n : Nat, (List.replicate n [V.str (S (List.replicate high 46))]).flatten = List.replicate n (V.str (S (List.replicate high 46))) := by
              intro n
              induction n with
              | zero => rfl
              | succ n ih => rw [List.replicate_succ, List.flatten_cons, ih, List.replicate_succ]; rfl
            exact flat k1
          refine ⟨t1, (k1 : Int), _, rfl, rfl, dq7 _ _ e1 nt1.1 nt1.2, by omega, by omega, ?_, fun p1 hp1 => ?_⟩
          · rw [Int.toNat_natCast]
            exact Nat.le_of_lt (small1000 (by show 1 * k1 ≤ 1000; omega))
          rw [er]
          have s2 := same_upd (o := .lst ((List.replicate k1 (List.replicate high 46)).map rv)) hp1
          have e2 := upd_same (H := H7) (a := p1) (o := .lst ((List.replicate k1 (List.replicate high 46)).map rv))
          have D8 := D7.same s2
          generalize upd H7 p1 (.lst ((List.replicate k1 (List.replicate high 46)).map rv)) = H8 at s2 e2 D8 ⊢
          have dq58 := dq57.trans (Dq.same s2)
          refine ⟨one, p1, _, _, rfl, rfl, dq58 _ _ ho5 b1 b2, e2, ?_, fun c1 hc1 => ?_⟩
          · rw [List.length_map, List.length_map, List.length_replicate]
            exact Nat.le_of_lt (small1000 (by omega))
          rw [← List.map_append]
          have s3 := same_upd (o := .lst ((co ++ List.replicate k1 (List.replicate high 46)).map rv)) hc1
          have e3 := upd_same (H := H8) (a := c1) (o := .lst ((co ++ List.replicate k1 (List.replicate high 46)).map rv))
          have D9 := D8.same s3
          generalize upd H8 c1 (.lst ((co ++ List.replicate k1 (List.replicate high 46)).map rv)) = H9 at s3 e3 D9 ⊢
          have dq59 := dq58.trans (Dq.same s3)
          have ec0 : css[0]? = some (css[0]'(by omega)) := List.getElem?_eq_getElem (by omega)
          have g0 := G3 _ (List.getElem_mem (show 0 < css.length by omega))
          generalize css[0]'(by omega) = cf at ec0 g0
          have ex0 : xs[0]? = some (xs[0]'(by omega)) := List.getElem?_eq_getElem (by omega)
          obtain ⟨f0, ef, _, _, _, hf⟩ := (C5.dq dq59).at_ 0 _ cf ex0 ec0
          rw [ef] at ex0
          have wf := g0.w
          refine ⟨.ref l, rfl, l, xs, 0, .ref f0, rfl, rfl, SqL.of (dq59 _ _ hl5 n1 n2), atI_nat (j := 0) ex0, c1, f0, _, _, rfl, rfl, e3, hf, ?_, fun c2 hc2 => ?_⟩
          · rw [List.length_map, List.length_map, List.length_append, List.length_replicate]
            exact Nat.le_of_lt (small1000 (by omega))
          rw [← List.map_append]
          have s4 := same_upd (o := .lst ((co ++ List.replicate k1 (List.replicate high 46) ++ cf).map rv)) hc2
          have e4 := upd_same (H := H9) (a := c2) (o := .lst ((co ++ List.replicate k1 (List.replicate high 46) ++ cf).map rv))
          have DA := D9.same s4
          generalize upd H9 c2 (.lst ((co ++ List.replicate k1 (List.replicate high 46) ++ cf).map rv)) = HA at s4 e4 DA ⊢
          have dq5A := dq59.trans (Dq.same s4)
          refine ⟨.int wide, rfl, wide, rfl, c2, _, rfl, SqL.of e4, fun m hm => ?_⟩
          have ec : cutV ((co ++ List.replicate k1 (List.replicate high 46) ++ cf).map rv) none (some (wide : Int)) = ((co ++ List.replicate k1 (List.replicate high 46) ++ cf).take wide).map rv := by
            rw [List.map_take]
            generalize (co ++ List.replicate k1 (List.replicate high 46) ++ cf).map rv = zs
            unfold cutV
            rw [HT.sIx_nat]
            show (zs.drop 0).take (min wide zs.length - 0) = _
            rw [List.drop_zero, Nat.sub_zero, ← List.take_eq_take_min]
          rw [ec]
          refine new (ms := (co ++ List.replicate k1 (List.replicate high 46) ++ cf).take wide) dq5A DA hm ⟨rfl, fun l hl => ?_⟩ (by rw [List.length_take, List.length_append, List.length_append]; omega) (by rw [List.length_take]; omega)
          rcases List.mem_append.mp (List.mem_of_mem_take hl) with hl | hl
          · rcases List.mem_append.mp hl with hl | hl
            · exact go.c.col l hl
            · rw [List.eq_of_mem_replicate hl]
              exact row_rep 46 high (.inr rfl)
          · exact g0.c.col l hl
      rintro _ H6 ⟨a6, cs6, rfl, z1, z2, z3, ha6, Ca6, w7, w8, hl6, C6, _, _, D6, dq6⟩
      have lx6 := C6.len
      refine ⟨⟨"", rfl⟩, .ref a6, rfl, "", a6, cs6.map S, rfl, rfl, .inl (SqL.of (by rw [List.map_map]; exact ha6)), ?_, ?_⟩
      · rw [lens_flat (w := high) fun r hr' => (Ca6.col r hr').len]
        have := Nat.mul_le_mul w8 h1
        show cs6.length * high + _ * 0 ≤ 16777216
        omega
      rw [join_flat]
      refine ⟨35, S cs6.flatten, congrArg V.str s_hash, rfl, _, rfl, ?_⟩
      by_cases hd : 35 ∈ cs6.flatten
      · refine iteY (decide_eq_true (show 35 ∈ (S cs6.flatten).cps.toList by simpa [S] using hd)) ⟨.ref a6, rfl, .ref l, rfl, notin_cls hl6 C6 (fun c hc => cols (G3 c hc)) ha6 (fun l hl => (Ca6.col l hl).sg) ⟨_, rfl, ?_⟩⟩
        have dot : ∃ c ∈ cs6, 35 ∈ c := by
          obtain ⟨c, hc, hm⟩ := List.mem_flatten.mp hd
          exact ⟨c, hc, hm⟩
        by_cases hin : cs6 ∈ css
        · exact iteE (by rw [decide_eq_true hin]; rfl) ⟨_, _, _, _, xs, css, rfl, l1, by omega, hl6, C6, G3, N3, D6, dq6⟩
        · refine iteY (by rw [decide_eq_false hin]; rfl) ⟨.ref l, rfl, .inl ⟨rfl, _, SqL.of hl6⟩, .ref a6, rfl, l, xs, .ref a6, rfl, rfl, hl6, small1000 (by omega), _, _, _, _, xs ++ [.ref a6], css ++ [cs6], rfl, by rw [List.length_append]; omega, by rw [List.length_append]; show css.length + 1 ≤ _; omega, upd_same, (C6.add z1 z2 z3 ha6).upd, fun c hc => ?_, ?_, D6.upd n1 n2, dq6.upd nl⟩
          · rcases List.mem_append.mp hc with h | h
            · exact G3 c h
            · rw [List.mem_singleton.mp h]
              exact ⟨⟨w7, w8⟩, Ca6, dot⟩
          · exact List.nodup_append.mpr ⟨N3, by simp, fun x hx y hy e => hin (by rw [← List.mem_singleton.mp hy, ← e]; exact hx)⟩
      · exact iteE (decide_eq_false (show ¬ 35 ∈ (S cs6.flatten).cps.toList by simpa [S] using hd)) ⟨_, _, _, _, xs, css, rfl, l1, by omega, hl6, C6, G3, N3, D6, dq6⟩
    · rintro σ H3 ⟨y5, y6, y7, y8, xs, css, rfl, l1, l2, hl3, C3, G3, N3, D3, dq3⟩
      exact ⟨.ref l, rfl, q l xs css H3 nl hl3 n1 n2 C3 G3 N3 l1 (by omega) D3 dq3⟩
end
end Dt
namespace Dt
open PySem PySem.Spec PyProof.Rows L2 L2X
open SX (S)
theorem ShAt.dq {H H' : Hp} {d q : Addr} {x : V} {s : Sh} (h : ShAt H x s) (D : Ds H d q) (sm : Dq d q H H') : ShAt H' x s := by
  obtain ⟨t, p, e, h1, h2⟩ := h
  exact ⟨t, p, e, sm.tup D h1, sm.tup D h2⟩
theorem Shs.dq {H H' : Hp} {d q : Addr} {xs : List V} {ss : List Sh} (h : Shs H xs ss) (D : Ds H d q) (sm : Dq d q H H') : Shs H' xs ss := ⟨h.len, fun i x s a b => (h.at_ i x s a b).dq D sm⟩
/-! ### named shapes -/
abbrev sNm : Stmt := topS 78
abbrev nNm : List Str := ["s", "shapes", "signs", "found", "k", "shape"]
theorem scNm : FnScope nNm ["s", "shapes"] (defScope sNm) := ⟨rfl, rfl, rfl, by decide +kernel, rfl, by decide +kernel, by decide +kernel⟩
/-- these shapes are of these columns -/
structure NmC (high : Nat) (ss : List Sh) (css : List (List (List Nat))) : Prop where
  rs : ss.map (·.rs) = css.map (rowsC high)
  w : ss.map (·.w) = css.map List.length
def spNm : Sp := fun vs H Q _ => ∃ (d q l0 l' high wide : Nat) (xs : List V) (css : List (List (List Nat))), vs = [.ref d, .ref l0] ∧ Ds H d q ∧ l0 ≠ d ∧ l0 ≠ q ∧ H l0 = some (.lst xs) ∧ CsAt H d q l' xs css ∧ (∀ cs ∈ css, GoodC high wide cs) ∧ css.Nodup ∧ 1 ≤ high ∧ high ≤ 60 ∧ wide ≤ 60 ∧ css.length ≤ 80 ∧
  ∀ (l : Addr) (ys : List V) (ss : List Sh) (H' : Hp), H l = none → H' l = some (.lst ys) → l ≠ d → l ≠ q → Shs H' ys ss → Goods high wide ss → NmC high ss css → Ds H' d q → Dq d q H H' → Q (.ref l) H'
theorem goods_nd {high wide : Nat} : ∀ {css : List (List (List Nat))}, (∀ cs ∈ css, GoodC high wide cs) → 1 ≤ high → css.Nodup → (css.map (rowsC high)).Nodup
  | [], _, _, _ => List.nodup_nil
  | c :: r, g, h0, nd => by
    rw [List.nodup_cons] at nd
    rw [List.map_cons, List.nodup_cons]
    refine ⟨fun h => ?_, goods_nd (fun x hx => g x (List.mem_cons_of_mem _ hx)) h0 nd.2⟩
    obtain ⟨x, hx, e⟩ := List.mem_map.mp h
    have := rowsC_inj (g x (List.mem_cons_of_mem _ hx)).c (g c List.mem_cons_self).c h0 e
    exact nd.1 (this ▸ hx)
section
variable {P : Program} {w : World} {K : PySem.W.Frag} {mg : Str → Option Value} {base : Heap} {CA : Addr}
theorem ok_nm {f : Addr} {fd : FuncData} {k : Nat} (F : Fun K "_law_named" "_law_named" sNm f fd) (T : Tx mg) (en : mg "enumerate" = none) (GN : Pm P w K mg base CX0 (k + 1) "_law_draw" ["s", "top"] spDw) (GG : Pm P w K mg base CX0 (k + 1) "_law_signs" ["s", "many"] spSg2) (GR : Pm P w K mg base CX0 (k + 1) "_law_rows" ["columns"] spLr) : FnOk P w K mg base CX0 (k + 2) f fd ["s", "shapes"] spNm := by
  obtain ⟨fN, fdN, GN, mN, kN, bN⟩ := GN.ex
  obtain ⟨fG, fdG, GG, mG, kG, bG⟩ := GG.ex
  obtain ⟨fR, fdR, GR, mR, kR, bR⟩ := GR.ex
  refine F.ok scNm (fun vs H Q E h => ?_) (fun cdv A outer s H vs Q E hr h => ?_)
  · obtain ⟨_, _, _, _, _, _, _, _, rfl, _⟩ := h
    rfl
  · obtain ⟨d, q', l0, l', high, wide, xs, css, rfl, D, n1, n2, hl, C, G, N, h0, h1, w60, c80, q⟩ := h
    have nd := scNm.nd
    refine ⟨_, C8.pss_cut (ps_set (i := 2) nd rfl (.inl rfl) (pe_call GG hr (by rfl) mG kG bG .nil pass0 (pa_cons (pv 0) (pa_cons (pe_callB call_len_seq (by rfl) T.len PySem.boot_len (pa_cons (pv 1) pa_nil)) pa_nil))))
      (C8.pss_cut (ps_set (i := 3) nd rfl (.inl rfl) (pe_lst pa_nil))
      (pss_cons (ps_for PassesOwn.never rfl (pi_enumG (by rfl) en (pa_cons (pv 1) pa_nil)) (pg_tup rfl (pgs_cons (pg_name (i := 4) nd rfl (Or.inl rfl)) (pgs_cons (pg_name (i := 5) nd rfl (Or.inl rfl)) pgs_nil)))
        (pss_one (ps_expr (pe_bm PySem.F.plainAttrs_list PySem.F.slot_list_append PySem.F.type_list_append mt_append (pv 3) (pa_cons (pe_tup (pa_cons (pe_ifExp (pt_cmpR op_eq (pe_call GN hr (by rfl) mN kN bN .nil pass0 (pa_cons (pv 0) (pa_cons pe_int pa_nil))) pe_int (nomark _)) (pe_ix (r := rIxL K) ix_list (pv 2) (pe_call GN hr (by rfl) mN kN bN .nil pass0 (pa_cons (pv 0) (pa_cons (pe_op op_add (pv 4) pe_int) pa_nil))) (fun _ _ => rfl)) (pe_ix (r := rIxL K) ix_list (pv 2) (pv 4) (fun _ _ => rfl))) (pa_cons (pe_call GR hr (by rfl) mR kR bR .nil pass0 (pa_cons (pv 5) pa_nil)) pa_nil))) pa_nil)))))
      (pss_one (ps_ret (pv 3))))), ?_⟩
    have lx := C.len
    -- signs
    refine ⟨fun σ' H' => ∃ (g : Addr) (fs : List Nat), σ' = [some (.ref d), some (.ref l0), some (.ref g), none, none, none] ∧ g ≠ d ∧ g ≠ q' ∧ H' g = some (.lst (fs.map ch)) ∧ fs.length = css.length ∧ (∀ c ∈ fs, 33 ≤ c ∧ c ≤ 126) ∧ Ds H' d q' ∧ Dq d q' H H', ?_, ?_⟩
    · refine ⟨.ref d, rfl, .ref l0, rfl, l0, xs, rfl, .inl (SqL.of hl), d, q', xs.length, rfl, D, by omega, fun g fs H1 ng hg g1 g2 lf ndf rf D1 dq1 => ⟨g, fs, rfl, g1, g2, hg, by omega, rf, D1, dq1⟩⟩
    rintro _ H1 ⟨g, fs, rfl, g1, g2, hg, lf, rf, D1, dq1⟩
    refine ⟨fun σ' H' => ∃ l : Addr, σ' = [some (.ref d), some (.ref l0), some (.ref g), some (.ref l), none, none] ∧ H l = none ∧ l ≠ d ∧ l ≠ q' ∧ l ≠ g ∧ l ≠ l0 ∧ H' l = some (.lst []) ∧ Same H1 H', ?_, ?_⟩
    · refine ⟨by show 0 ≤ sizeLine; decide, fun l hl' => ?_⟩
      exact ⟨l, rfl, dq1.nn D1 hl', (D1.new hl').1, (D1.new hl').2, (ne_of_none hg hl').symm, (ne_of_none (dq1 _ _ hl n1 n2) hl').symm, upd_same, same_upd hl'⟩
    rintro _ H2 ⟨l, rfl, nl, b1, b2, b3, b4, hl2, s12⟩
    have dq2 : Dq d q' H H2 := dq1.trans (Dq.same s12)
    refine ⟨.ref l0, rfl, .lst l0, xs, rfl, SqL.of (dq2 _ _ hl n1 n2), for_enumG (K := K) (A := .lst l0) (xs := xs) (fun i σ H3 => ∃ (y4 y5 : Option V) (ys : List V) (ss : List Sh), σ = [some (.ref d), some (.ref l0), some (.ref g), some (.ref l), y4, y5] ∧ H3 l = some (.lst ys) ∧ Shs H3 ys ss ∧ (∀ s ∈ ss, Good high wide s) ∧ NmC high ss (css.take i) ∧ H3 g = some (.lst (fs.map ch)) ∧ Ds H3 d q' ∧ Dq d q' H H3) ⟨none, none, [], [], rfl, hl2, Shs.nil, (fun s h => nomatch h), ⟨rfl, rfl⟩, s12 _ _ hg, D1.same s12, dq2⟩ (fun i σ H3 _ z => by
      obtain ⟨_, _, _, _, _, _, _, _, _, _, _, dq3⟩ := z
      exact SqL.of (dq3 _ _ hl n1 n2)) ?_ ?_⟩
    · rintro i x σ H3 T' hx ⟨y4, y5, ys, ss, rfl, hl3, S3, G3, NM, hg3, D3, dq3⟩ hT
      have hi : i < css.length := by
        rw [← lx]
        exact (List.getElem?_eq_some_iff.mp hx).1
      have ec : css[i]? = some css[i] := List.getElem?_eq_getElem hi
      have gi := G _ (List.getElem_mem hi)
      generalize css[i] = cs at ec gi
      obtain ⟨a, rfl, a1, a2, _, _⟩ := C.at_ i x cs hx ec
      refine ⟨T', _, rfl, SqT.of upd_same, rfl, _, _, rfl, _, _, rfl, rfl, ?_⟩
      have sT := same_upd (o := .tup [V.int (i : Nat), V.ref a]) hT
      have hl4 := sT _ _ hl3
      have S4 := S3.same sT
      have hg4 := sT _ _ hg3
      have D4 := D3.same sT
      have dq4 := dq3.trans (Dq.same sT)
      generalize upd H3 T' (.tup [V.int (i : Nat), V.ref a]) = H4 at hl4 S4 hg4 D4 dq4
      refine ⟨.ref l, rfl, .inl ⟨rfl, _, SqL.of hl4⟩, ?_⟩
      refine ⟨.ref d, rfl, d, q', 4, rfl, D4, by decide, by decide, fun m H5 _ _ D5 dq5 => ⟨rfl, _, rfl, ?_⟩⟩
      have hl5 := dq5 _ _ hl4 b1 b2
      have S5 := S4.dq D4 dq5
      have hg5 := dq5 _ _ hg4 g1 g2
      have dq05 := dq4.trans dq5
      have lss : ss.length = i := by
        have := congrArg List.length NM.w
        rw [List.length_map, List.length_map, List.length_take] at this
        omega
      -- the sign, and the rest of it
      have both : ∀ (Kk : VK), (∀ (c : Nat) (H6 : Hp), 33 ≤ c ∧ c ≤ 126 → Ds H6 d q' → Dq d q' H5 H6 → Kk (ch c) H6) →
          (if decide (V.int m = V.int 0) = true then
            tOp (rIxL K) (tVar 2) (tCall spDw [] E0 (tCons (tVar 0) (tCons (tOp (rI0 fun i j => V.int (i + j)) (tVar 4) (tC (V.int 1))) tNil))) (([some (V.ref d), some (V.ref l0), some (V.ref g), some (V.ref l), y4, y5].set 4 (some (V.int i))).set 5 (some (V.ref a))) H5 Kk
          else tOp (rIxL K) (tVar 2) (tVar 4) (([some (V.ref d), some (V.ref l0), some (V.ref g), some (V.ref l), y4, y5].set 4 (some (V.int i))).set 5 (some (V.ref a))) H5 Kk) := by
        intro Kk z
        have at_ : ∀ (j : Nat), j < css.length → ∃ c, fs[j]? = some c ∧ 33 ≤ c ∧ c ≤ 126 := fun j hj => ⟨fs[j], List.getElem?_eq_getElem (by omega), rf _ (List.getElem_mem (by omega))⟩
        have lfs : (fs.map ch).length = css.length := by rw [List.length_map, lf]
        split
        · refine ⟨.ref g, rfl, .ref d, rfl, .int (i : Nat), rfl, _, _, rfl, rfl, d, q', ((i : Nat) : Int) + 1, rfl, D5, by omega, by omega, fun m2 H6 p0 p1 D6 dq6 => ?_⟩
          obtain ⟨j2, rfl⟩ := Int.eq_ofNat_of_zero_le p0
          obtain ⟨c, e, hc⟩ := at_ j2 (by omega)
          exact ⟨g, _, _, _, rfl, rfl, SqL.of (dq6 _ _ hg5 g1 g2), atI_nat (j := j2) (by rw [List.getElem?_map, e]; rfl), z c H6 hc D6 dq6⟩
        · obtain ⟨c, e, hc⟩ := at_ i hi
          exact ⟨.ref g, rfl, .int (i : Nat), rfl, g, _, _, _, rfl, rfl, SqL.of hg5, atI_nat (j := i) (by rw [List.getElem?_map, e]; rfl), z c H5 hc D5 (Dq.refl)⟩
      refine both _ fun c H6 hc D6 dq6 => ?_
      have hl6 := dq6 _ _ hl5 b1 b2
      have S6 := S5.dq D5 dq6
      have hg6 := dq6 _ _ hg5 g1 g2
      have dq06 := dq05.trans dq6
      obtain ⟨_, ha0⟩ : ∃ z : V, H a = some (.lst (cs.map rv)) := ⟨.non, by
        obtain ⟨a', ea, _, _, _, z⟩ := C.at_ i (.ref a) cs hx ec
        cases ea
        exact z⟩
      refine ⟨.ref a, rfl, a, high, cs.length, cs, rfl, dq06 _ _ ha0 a1 a2, gi.c, h0, h1, gi.w.1, by have := gi.w.2; omega, fun p H7 s67 hp => ?_⟩
      refine ⟨by show 2 ≤ sizeLine; decide, fun t ht => ?_⟩
      have hl7 := s67 _ _ hl6
      have s7t := same_upd (o := .tup [ch c, .ref p]) ht
      have hl8 := s7t _ _ hl7
      have nlt := (ne_of_none hl7 ht).symm
      have S8 := (S6.same s67).same s7t
      have sh : ShAt (upd H7 t (.tup [ch c, .ref p])) (.ref t) ⟨c, cs.length, rowsC high cs⟩ := ⟨t, p, rfl, upd_same, s7t _ _ hp⟩
      have D8 := (D6.same s67).same s7t
      have dq08 := (dq06.trans (Dq.same s67)).trans (Dq.same s7t)
      have hg8 := s7t _ _ (s67 _ _ hg6)
      have ly : ys.length < sizeLine := by
        rw [S3.len, lss]
        have : (80 : Nat) < sizeLine := by decide
        omega
      have gl : g ≠ l := b3.symm
      have et : css.take (i + 1) = css.take i ++ [cs] := by rw [List.take_succ, ec]; rfl
      refine ⟨l, ys, .ref t, rfl, rfl, hl8, ly, _, _, ys ++ [.ref t], ss ++ [⟨c, cs.length, rowsC high cs⟩], rfl, upd_same, ?_, ?_, ?_, ?_, D8.upd b1 b2, dq08.upd nl⟩
      · exact (S8.add sh).updl hl8
      · intro s' hs'
        rcases List.mem_append.mp hs' with z | z
        · exact G3 s' z
        · rw [List.mem_singleton.mp z]
          exact ⟨rowsC_pic gi.c h0 h1 gi.w.1 (Nat.le_trans gi.w.2 (by omega)), gi.w.2, hc.1, hc.2, rowsC_dot gi.c gi.dot⟩
      · rw [et]
        exact ⟨by rw [List.map_append, List.map_append, NM.rs]; rfl, by rw [List.map_append, List.map_append, NM.w]; rfl⟩
      · rw [upd_ne gl]
        exact hg8
    · rintro σ H3 ⟨y4, y5, ys, ss, rfl, hl3, S3, G3, NM, hg3, D3, dq3⟩
      have e : css.take xs.length = css := by rw [lx, List.take_length]
      rw [e] at NM
      refine ⟨.ref l, rfl, q l ys ss H3 nl hl3 b1 b2 S3 ⟨G3, ?_⟩ NM D3 dq3⟩
      rw [NM.rs]
      exact goods_nd G h0 N
end
end Dt
namespace Dt
open PySem PySem.Spec PyProof.Rows L2 L2X
open SX (S)
/-! ### the alphabet of named shapes; few columns in all -/
abbrev sTa : Stmt := topS 79
abbrev nTa : List Str := ["pairs"]
theorem scTa : FnScope nTa ["pairs"] (defScope sTa) := ⟨rfl, rfl, rfl, by decide +kernel, rfl, by decide +kernel, by decide +kernel⟩
def spTa (CA : Addr) : Sp := fun vs H Q _ => ∃ (l : Addr) (high : Nat) (xs : List V) (ss : List Sh), vs = [.ref l] ∧ H l = some (.lst xs) ∧ Shs H xs ss ∧ Goods high 8 ss ∧ 1 ≤ high ∧ high ≤ 9 ∧ 1 ≤ ss.length ∧ ss.length ≤ 16 ∧
  ∀ (o : Addr) (H' : Hp), H o = none → AlpG CA H' o high ss → Same H H' → Q (.ref o) H'
abbrev sTn : Stmt := topS 80
abbrev nTn : List Str := ["s", "wide", "found", "shape"]
theorem scTn : FnScope nTn ["s", "wide"] (defScope sTn) := ⟨rfl, rfl, rfl, by decide +kernel, rfl, by decide +kernel, by decide +kernel⟩
def spTn : Sp := fun vs H Q _ => ∃ (d q wide : Nat), vs = [.ref d, .int wide] ∧ Ds H d q ∧ 1 ≤ wide ∧ wide ≤ 8 ∧
  ∀ (l : Addr) (xs : List V) (css : List (List (List Nat))) (high : Nat) (H' : Hp), 1 ≤ high → high ≤ 3 → H l = none → H' l = some (.lst xs) → l ≠ d → l ≠ q → CsAt H' d q l xs css → (∀ cs ∈ css, GoodC high wide cs) → css.Nodup → 1 ≤ css.length → css.length ≤ 4 → (css.map List.length).sum ≤ 16 → Ds H' d q → Dq d q H H' → Q (.ref l) H'
theorem CsAt.take {H : Hp} {d q l : Addr} {xs : List V} {css : List (List (List Nat))} (h : CsAt H d q l xs css) (n : Nat) : CsAt H d q l (xs.take n) (css.take n) :=
  ⟨by rw [List.length_take, List.length_take, h.len], fun i x cs a b => h.at_ i x cs (by
    rw [List.getElem?_take] at a
    split at a
    · exact a
    · cases a) (by
    rw [List.getElem?_take] at b
    split at b
    · exact b
    · cases b)⟩
theorem CsAt.move {H : Hp} {d q l m : Addr} {xs : List V} {css : List (List (List Nat))} (h : CsAt H d q l xs css) (hm : H m = none) : CsAt H d q m xs css :=
  ⟨h.len, fun i x cs a b => let ⟨t, e, n1, n2, _, z⟩ := h.at_ i x cs a b; ⟨t, e, n1, n2, ne_of_none z hm, z⟩⟩
theorem cut_all (xs : List V) (h : 1 ≤ xs.length) : cutV xs none (some ((xs.length : Int) - 1)) = xs.take (xs.length - 1) := by
  rw [show ((xs.length : Int) - 1) = ((xs.length - 1 : Nat) : Int) by omega]
  unfold cutV
  rw [HT.sIx_nat]
  show (xs.drop 0).take (min (xs.length - 1) xs.length - 0) = _
  rw [List.drop_zero, Nat.sub_zero, ← List.take_eq_take_min]
theorem call_len_seqK {X : Cx} {K : PySem.W.Frag} (hK : X.K = K) : CallR X (.builtin "len") (fun xs H Q => ∃ (p : Addr) (ys : List V), xs = [V.ref p] ∧ (SqL K H p ys ∨ SqT K H p ys) ∧ Q (V.int ys.length) H) := by
  subst hK
  exact call_len_seq
section
variable {P : Program} {w : World} {K : PySem.W.Frag} {mg : Str → Option Value} {base : Heap} {CA : Addr}
theorem ok_ta {f fI : Addr} {fd fdI : FuncData} {k : Nat} (F : Fun K "_law_tall" "_law_tall" sTa f fd) (T : Tx mg) (TA : Tal K mg CA) (M : Mk K CA fI) (GI : FnOk P w K mg base CX0 (k + 1) fI fdI ["self", "high", "shapes"] (spAI CA)) (bI : Binds K fdI ["self", "high", "shapes"] []) : FnOk P w K mg base CX0 (k + 3) f fd ["pairs"] (spTa CA) := by
  refine F.ok scTa (fun vs H Q E h => ?_) (fun cdv A outer s H vs Q E hr h => ?_)
  · obtain ⟨_, _, _, _, rfl, _⟩ := h
    rfl
  · obtain ⟨l, high, xs, ss, rfl, hl, Ss, Gs, h0, h1, n1, n16, q⟩ := h
    have nd := scTa.nd
    refine ⟨_, pss_one (ps_ret (pe_make M GI hr (by rfl) TA.mC bI .nil pass0 (pa_cons (pe_callB call_len_seq (by rfl) T.len PySem.boot_len (pa_cons (pe_ix (r := rIxT K) ix_tup (pe_ix (r := rIxL K) ix_list (pv 0) pe_int (fun _ _ => rfl)) pe_int (fun _ _ => rfl)) pa_nil)) (pa_cons (pv 0) pa_nil)))), ?_⟩
    have lx := Ss.len
    have ex : xs[0]? = some (xs[0]'(by omega)) := List.getElem?_eq_getElem (by omega)
    have es : ss[0]? = some (ss[0]'(by omega)) := List.getElem?_eq_getElem (by omega)
    generalize xs[0]'(by omega) = x0 at ex
    generalize ss[0]'(by omega) = s0 at es
    have g0 := Gs.all s0 (List.mem_of_getElem? es)
    obtain ⟨t, p, rfl, ht, hp⟩ := Ss.at_ 0 _ s0 ex es
    have lp : s0.rs.length = high := g0.pic.len
    refine ⟨.ref l, rfl, l, xs, 0, .ref t, rfl, rfl, SqL.of hl, atI_nat (j := 0) ex, t, _, 1, .ref p, rfl, rfl, SqT.of ht, atI_nat (j := 1) rfl, p, _, rfl, .inr (SqT.of hp), ?_⟩
    rw [List.length_map, lp]
    refine ⟨.ref l, rfl, fun o dx no ndx nxo => ?_⟩
    have s8 : Same H (upd (upd H dx (.own o)) o (.ins CA dx [])) := fun b u e => by
      rw [upd_ne (ne_of_none e no), upd_ne (ne_of_none e ndx)]
      exact e
    refine ⟨o, dx, l, high, xs, ss, rfl, upd_same, h0, by omega, s8 _ _ hl, Ss.same s8, Gs, by omega, by omega, fun H8 al kp => ?_⟩
    have s78 : Same H H8 := fun b u e => kp b u (s8 b u e) (ne_of_none e no)
    exact ⟨rfl, q o H8 no ⟨al, fun s hs => (Gs.all s hs).pic, by omega, n16⟩ s78⟩
theorem ok_tn {f : Addr} {fd : FuncData} {k : Nat} (F : Fun K "_law_thin" "_law_thin" sTn f fd) (T : Tx mg) (su : mg "sum" = none) (GN : Pm P w K mg base CX0 (k + 1) "_law_draw" ["s", "top"] spDw) (GS : Pm P w K mg base CX0 (k + 1) "_law_shapes" ["s", "high", "many", "wide"] spLs) : FnOk P w K mg base CX0 (k + 2) f fd ["s", "wide"] spTn := by
  obtain ⟨fN, fdN, GN, mN, kN, bN⟩ := GN.ex
  obtain ⟨fS, fdS, GS, mS, kS, bS⟩ := GS.ex
  refine F.ok scTn (fun vs H Q E h => ?_) (fun cdv A outer s H vs Q E hr h => ?_)
  · obtain ⟨_, _, _, rfl, _⟩ := h
    rfl
  · obtain ⟨d, q', wide, rfl, D, w1, w8, q⟩ := h
    have nd := scTn.nd
    refine ⟨_, C8.pss_cut (ps_set (i := 2) nd rfl (.inl rfl) (pe_call GS hr (by rfl) mS kS bS .nil pass0 (pa_cons (pv 0) (pa_cons (pe_op op_add pe_int (pe_call GN hr (by rfl) mN kN bN .nil pass0 (pa_cons (pv 0) (pa_cons pe_int pa_nil)))) (pa_cons (pe_op op_add pe_int (pe_call GN hr (by rfl) mN kN bN .nil pass0 (pa_cons (pv 0) (pa_cons pe_int pa_nil)))) (pa_cons (pv 1) pa_nil))))))
      (pss_cons (ps_while PassesOwn.never (pt_cmpR op_gt (pe_callB (cr_sum rfl) (by rfl) su (by decide +kernel) (pa_cons (pe_lc (own := [("shape", 3)]) (g := gName 3) (tt := tYes) rfl nd (pi_listK (K := K) rfl (pv 2)) (blkOk_by (N := nTn) (sc := defScope sTn) (by decide +kernel)) (fun _ _ _ _ _ => pg_name (i := 3) nd rfl (Or.inl rfl)) (fun _ _ _ _ _ => pts_nil)
          (fun _ _ _ _ _ => pe_callB (call_len_seqK (K := K) rfl) (by rfl) T.len PySem.boot_len (pa_cons (pv 3) pa_nil))) pa_nil)) pe_int (nomark _))
        (pss_one (ps_set (i := 2) nd rfl (.inl rfl) (pe_slice sl_list (pv 2) po_none (po_some (pe_op op_sub (pe_callB call_len_seq (by rfl) T.len PySem.boot_len (pa_cons (pv 2) pa_nil)) pe_int))))))
      (pss_one (ps_ret (pv 2)))), ?_⟩
    refine ⟨fun σ' H' => ∃ (l high : Nat) (xs : List V) (css : List (List (List Nat))), σ' = [some (.ref d), some (.int wide), some (.ref l), none] ∧ 1 ≤ high ∧ high ≤ 3 ∧ H l = none ∧ H' l = some (.lst xs) ∧ l ≠ d ∧ l ≠ q' ∧ CsAt H' d q' l xs css ∧ (∀ cs ∈ css, GoodC high wide cs) ∧ css.Nodup ∧ 1 ≤ css.length ∧ css.length ≤ 4 ∧ Ds H' d q' ∧ Dq d q' H H', ?_, ?_⟩
    · refine ⟨.ref d, rfl, .ref d, rfl, d, q', 3, rfl, D, by decide, by decide, fun m1 H1 p0 p1 D1 dq1 => ⟨_, _, rfl, rfl, .ref d, rfl, d, q', 4, rfl, D1, by decide, by decide, fun m2 H2 p2 p3 D2 dq2 => ⟨_, _, rfl, rfl, .int wide, rfl, ?_⟩⟩⟩
      obtain ⟨a1, rfl⟩ := Int.eq_ofNat_of_zero_le p0
      obtain ⟨a2, rfl⟩ := Int.eq_ofNat_of_zero_le p2
      refine ⟨d, q', 1 + a1, 1 + a2, wide, ?_, D2, by omega, by omega, by omega, by omega, w1, by omega, fun l xs css H3 nl hl n1 n2 C G N c1 c2 D3 dq3 => ?_⟩
      · show [V.ref d, V.int (1 + (a1 : Int)), V.int (1 + (a2 : Int)), V.int wide] = [V.ref d, V.int ((1 + a1 : Nat) : Int), V.int ((1 + a2 : Nat) : Int), V.int wide]
        rw [show ((1 + a1 : Nat) : Int) = 1 + (a1 : Int) by omega, show ((1 + a2 : Nat) : Int) = 1 + (a2 : Int) by omega]
      exact ⟨l, 1 + a1, xs, css, rfl, by omega, by omega, (dq1.trans dq2).nn D2 nl, hl, n1, n2, C, G, N, c1, by omega, D3, (dq1.trans dq2).trans dq3⟩
    rintro _ H1 ⟨l0, high, xs0, css0, rfl, h1, h3, nl0, hl0, a1, a2, C0, G0, N0, c1, c4, D1, dq1⟩
    refine ⟨fun m σ H2 => ∃ (y3 : Option V) (l n : Nat) (xs : List V), n = m ∧ σ = [some (.ref d), some (.int wide), some (.ref l), y3] ∧ H l = none ∧ H2 l = some (.lst xs) ∧ l ≠ d ∧ l ≠ q' ∧ CsAt H2 d q' l xs (css0.take n) ∧ 1 ≤ n ∧ n ≤ css0.length ∧ Ds H2 d q' ∧ Dq d q' H H2, ⟨css0.length, none, l0, css0.length, xs0, rfl, rfl, nl0, hl0, a1, a2, by rw [List.take_length]; exact C0, c1, Nat.le_refl _, D1, dq1⟩, ?_⟩
    rintro m σ H2 ⟨y3, l, n, xs, rfl, rfl, nl, hl, n1, n2, C, m1, mm, D2, dq2⟩
    have lx := C.len
    rw [List.length_take] at lx
    have sumOf : ∀ (Kk : VK), (∀ H3, Same H2 H3 → Kk (.int (((css0.take n).map List.length).sum : Nat)) H3) →
        tCB (rSum K) (tCons (tLc (iList K (tVar 2)) (gName 3) tYes (tCB (fun xs H Q => ∃ (p : Addr) (ys : List V), xs = [V.ref p] ∧ (SqL K H p ys ∨ SqT K H p ys) ∧ Q (V.int ys.length) H) (tCons (tVar 3) tNil)) [3]) tNil)
          [some (V.ref d), some (V.int wide), some (V.ref l), y3] H2 Kk := by
      intro Kk z
      refine ⟨.ref l, rfl, l, rfl, ⟨_, SqL.of hl⟩, fun D2 hD2 => lc_list (K := K) (a := l) (xs := xs) (fun j H3 => Same H2 H3 ∧ H3 D2 = some (.lst (((css0.take n).take j).map fun c => V.int c.length))) ⟨same_upd hD2, upd_same⟩ (fun j H3 _ z => SqL.of (z.1 _ _ hl)) ?_ ?_⟩
      · rintro j x H3 hx ⟨sm3, h3⟩
        have hj : j < (css0.take n).length := by
          rw [← C.len]
          exact (List.getElem?_eq_some_iff.mp hx).1
        have ec : (css0.take n)[j]? = some (css0.take n)[j] := List.getElem?_eq_getElem hj
        generalize (css0.take n)[j] = cs at ec
        obtain ⟨a, rfl, b1, b2, b3, ha⟩ := C.at_ j x cs hx ec
        refine ⟨rfl, .ref a, rfl, a, _, rfl, .inl (SqL.of (sm3 _ _ ha)), _, h3, ?_, same_over sm3 hD2, ?_⟩
        · rw [List.length_map, List.length_take, List.length_take]
          exact small1000 (by omega)
        · rw [upd_same, take_snoc ec, List.map_append, List.length_map]
          rfl
      · rintro H3 ⟨sm3, h3⟩
        have e : xs.length = (css0.take n).length := C.len
        rw [e, List.take_length] at h3
        refine ⟨D2, (css0.take n).map fun c => (c.length : Int), rfl, ?_, ?_⟩
        · rw [List.map_map]
          exact SqL.of h3
        · have e2 : ((css0.take n).map fun c => (c.length : Int)).sum = (((css0.take n).map List.length).sum : Nat) := by
            generalize css0.take n = cs
            induction cs with
            | nil => rfl
            | cons a r ih =>
              rw [List.map_cons, List.map_cons, List.sum_cons, List.sum_cons, ih]
              omega
          rw [e2]
          exact z H3 sm3
    refine sumOf _ fun H3 s23 => ⟨_, _, rfl, rfl, _, rfl, ite2 (fun e => ?_) (fun e => ?_)⟩
    · have e' := of_decide_eq_true e
      have n2' : 2 ≤ n := by
        by_cases c : 2 ≤ n
        · exact c
        · have : n = 1 := by omega
          subst this
          have c00 : 0 < css0.length := by omega
          have e1 : css0.take 1 = [css0[0]] := by
            rw [List.take_one, List.head?_eq_getElem?, List.getElem?_eq_getElem c00]
            rfl
          have g0 := (G0 css0[0] (List.getElem_mem c00)).w.2
          rw [e1] at e'
          have e3 : (16 : Int) < (([css0[0]].map List.length).sum : Nat) := e'
          rw [List.map_cons, List.map_nil, List.sum_cons, List.sum_nil] at e3
          omega
      refine ⟨fun σ' H' => ∃ m', m' < n ∧ ∃ (y3 : Option V) (l n : Nat) (xs : List V), n = m' ∧ σ' = [some (.ref d), some (.int wide), some (.ref l), y3] ∧ H l = none ∧ H' l = some (.lst xs) ∧ l ≠ d ∧ l ≠ q' ∧ CsAt H' d q' l xs (css0.take n) ∧ 1 ≤ n ∧ n ≤ css0.length ∧ Ds H' d q' ∧ Dq d q' H H', fun _ _ h => h, ?_⟩
      have hl3 := s23 _ _ hl
      have C3 := C.same s23
      refine ⟨.ref l, rfl, .ref l, rfl, l, _, rfl, .inl (SqL.of hl3), _, 1, rfl, rfl, _, rfl, l, _, rfl, SqL.of hl3, fun g hg => ?_⟩
      rw [cut_all xs (by omega)]
      have ng : H g = none := (dq2.trans (Dq.same s23)).nn (D2.same s23) hg
      have D3 := D2.same s23
      have C4 := ((C3.move hg).take (n - 1)).upd (o := .lst (xs.take (n - 1)))
      rw [List.take_take, Nat.min_eq_left (by omega)] at C4
      have ex : xs.length - 1 = n - 1 := by omega
      rw [ex]
      exact ⟨n - 1, by omega, y3, g, n - 1, _, rfl, rfl, ng, upd_same, (D3.new hg).1, (D3.new hg).2, C4, by omega, by omega, D3.upd (D3.new hg).1 (D3.new hg).2, (dq2.trans (Dq.same s23)).trans (Dq.same (same_upd hg))⟩
    · have e' : ¬ (16 : Int) < (((css0.take n).map List.length).sum : Nat) := fun c => e (decide_eq_true c)
      have e2 : ¬ (16 : Int) < (((css0.take n).map List.length).sum : Nat) := e'
      have dq3 : Dq d q' H2 H3 := Dq.same s23
      refine ⟨.ref l, rfl, q l xs (css0.take n) high H3 h1 h3 nl (s23 _ _ hl) n1 n2 (C.same s23) (fun cs hc => G0 cs (List.mem_of_mem_take hc)) (N0.sublist (List.take_sublist _ _)) ?_ ?_ ?_ (D2.same s23) (dq2.trans dq3)⟩
      · rw [List.length_take]
        omega
      · rw [List.length_take]
        omega
      · omega
end
end Dt
namespace Dt
open PySem PySem.Spec PyProof.Rows L2 L2X
open SX (S)
/-! ### what may stand in a column, on the heap -/
def oV : Option Nat → V
  | none => .non
  | some k => .int k
def stV (e : St) : List V := [.int e.1, .int e.2.1, oV e.2.2]
def StA (H : Hp) (x : V) (e : St) : Prop := ∃ t, x = .ref t ∧ H t = some (.tup (stV e))
structure RowS (H : Hp) (ys : List V) (es : List St) : Prop where
  len : ys.length = es.length
  at_ : ∀ (i : Nat) (y : V) (e : St), ys[i]? = some y → es[i]? = some e → StA H y e
def RowA (H : Hp) (a : Addr) (es : List St) : Prop := ∃ ys, H a = some (.lst ys) ∧ RowS H ys es
structure StpS (H : Hp) (xs : List V) (S : List (List St)) : Prop where
  len : xs.length = S.length
  at_ : ∀ (i : Nat) (x : V) (es : List St), xs[i]? = some x → S[i]? = some es → ∃ a, x = .ref a ∧ RowA H a es
/-- .. none of them the list at a0 -/
structure RstS (H : Hp) (a0 : Addr) (xs : List V) (S : List (List St)) : Prop where
  len : xs.length = S.length
  at_ : ∀ (i : Nat) (x : V) (es : List St), xs[i]? = some x → S[i]? = some es → ∃ a, x = .ref a ∧ a ≠ a0 ∧ RowA H a es
theorem RowS.same {H H' : Hp} {ys : List V} {es : List St} (h : RowS H ys es) (s : Same H H') : RowS H' ys es :=
  ⟨h.len, fun i y e a b => let ⟨t, e1, e2⟩ := h.at_ i y e a b; ⟨t, e1, s _ _ e2⟩⟩
theorem RowA.same {H H' : Hp} {a : Addr} {es : List St} (h : RowA H a es) (s : Same H H') : RowA H' a es :=
  let ⟨ys, e, r⟩ := h; ⟨ys, s _ _ e, r.same s⟩
theorem StpS.same {H H' : Hp} {xs : List V} {S : List (List St)} (h : StpS H xs S) (s : Same H H') : StpS H' xs S :=
  ⟨h.len, fun i x es a b => let ⟨c, e, r⟩ := h.at_ i x es a b; ⟨c, e, r.same s⟩⟩
theorem RstS.same {H H' : Hp} {a0 : Addr} {xs : List V} {S : List (List St)} (h : RstS H a0 xs S) (s : Same H H') : RstS H' a0 xs S :=
  ⟨h.len, fun i x es a b => let ⟨c, e, n, r⟩ := h.at_ i x es a b; ⟨c, e, n, r.same s⟩⟩
theorem RowS.but {H H' : Hp} {a0 : Addr} {z : List V} {ys : List V} {es : List St} (h : RowS H ys es) (h0 : H a0 = some (.lst z)) (s : But a0 H H') : RowS H' ys es :=
  ⟨h.len, fun i y e a b => let ⟨t, e1, e2⟩ := h.at_ i y e a b; ⟨t, e1, s _ _ e2 (fun q => by rw [q, h0] at e2; cases e2)⟩⟩
theorem RstS.but {H H' : Hp} {a0 : Addr} {z : List V} {xs : List V} {S : List (List St)} (h : RstS H a0 xs S) (h0 : H a0 = some (.lst z)) (s : But a0 H H') : RstS H' a0 xs S :=
  ⟨h.len, fun i x es a b => let ⟨c, e, n, ys, e2, r⟩ := h.at_ i x es a b; ⟨c, e, n, ys, s _ _ e2 n, r.but h0 s⟩⟩
theorem RowS.nil {H : Hp} : RowS H [] [] := ⟨rfl, fun i y e h => nomatch h⟩
theorem RowS.add {H : Hp} {ys : List V} {es : List St} {y : V} {e : St} (h : RowS H ys es) (a : StA H y e) : RowS H (ys ++ [y]) (es ++ [e]) := by
  have hl := h.len
  refine ⟨by rw [List.length_append, List.length_append, hl]; rfl, fun i x f hx hf => ?_⟩
  by_cases c : i < ys.length
  · rw [List.getElem?_append_left c] at hx
    rw [List.getElem?_append_left (by omega)] at hf
    exact h.at_ i x f hx hf
  · rw [List.getElem?_append_right (by omega)] at hx hf
    have h1 := (List.getElem?_eq_some_iff.mp hx).1
    have h1' : i - ys.length < 1 := h1
    rw [show i - ys.length = 0 by omega] at hx
    rw [show i - es.length = 0 by omega] at hf
    cases hx
    cases hf
    exact a
theorem RstS.add {H : Hp} {a0 c : Addr} {xs : List V} {S : List (List St)} {es : List St} (h : RstS H a0 xs S) (n : c ≠ a0) (a : RowA H c es) : RstS H a0 (xs ++ [.ref c]) (S ++ [es]) := by
  have hl := h.len
  refine ⟨by rw [List.length_append, List.length_append, hl]; rfl, fun i x f hx hf => ?_⟩
  by_cases q : i < xs.length
  · rw [List.getElem?_append_left q] at hx
    rw [List.getElem?_append_left (by omega)] at hf
    exact h.at_ i x f hx hf
  · rw [List.getElem?_append_right (by omega)] at hx hf
    have h1 := (List.getElem?_eq_some_iff.mp hx).1
    have h1' : i - xs.length < 1 := h1
    rw [show i - xs.length = 0 by omega] at hx
    rw [show i - S.length = 0 by omega] at hf
    cases hx
    cases hf
    exact ⟨c, rfl, n, a⟩
theorem RstS.app {H : Hp} {a0 : Addr} {xs zs : List V} {S T : List (List St)} (h : RstS H a0 xs S) (g : RstS H a0 zs T) : RstS H a0 (xs ++ zs) (S ++ T) := by
  have hl := h.len
  refine ⟨by rw [List.length_append, List.length_append, hl, g.len], fun i x f hx hf => ?_⟩
  by_cases q : i < xs.length
  · rw [List.getElem?_append_left q] at hx
    rw [List.getElem?_append_left (by omega)] at hf
    exact h.at_ i x f hx hf
  · rw [List.getElem?_append_right (by omega)] at hx hf
    rw [show i - S.length = i - xs.length by omega] at hf
    exact g.at_ _ x f hx hf
theorem RstS.two {H H' : Hp} {a0 D : Addr} {xs : List V} {S : List (List St)} (h : RstS H a0 xs S) (g : RstS H' D xs S) : RstS H' a0 xs S :=
  ⟨h.len, fun i x es a b => by
    obtain ⟨c, e, n, _⟩ := h.at_ i x es a b
    obtain ⟨c', e', _, r⟩ := g.at_ i x es a b
    rw [e] at e'
    cases e'
    exact ⟨c, e, n, r⟩⟩
theorem nums_lt {w n : Nat} {rs : List (List Nat)} (h : n ∈ nums w rs) : n < 2 ^ rs.length := by
  unfold nums at h
  obtain ⟨l, hl, rfl⟩ := List.mem_map.mp h
  unfold colsW at hl
  obtain ⟨c, _, rfl⟩ := List.mem_map.mp hl
  have := numN_lt (rs.map fun l => l.getD c 0)
  rw [List.length_map] at this
  exact this
theorem rg_sts (n w : Nat) (h : 1 ≤ w) : rgV (n : Int) ((n : Int) + (w : Int) - 1) ++ [V.int 0] = (stsN n w).map iv := by
  unfold rgV stsN
  rw [show ((n : Int) + (w : Int) - 1 - (n : Int)).toNat = w - 1 by omega, List.map_append, List.map_map]
  congr 1
theorem cut_one (xs : List V) : cutV xs (some 1) none = xs.drop 1 := by
  unfold cutV
  show (xs.drop (min 1 xs.length)).take (xs.length - min 1 xs.length) = _
  by_cases h : 1 ≤ xs.length
  · rw [Nat.min_eq_left h, List.take_of_length_le (by rw [List.length_drop]; omega)]
  · have : xs = [] := List.eq_nil_of_length_eq_zero (by omega)
    subst this
    rfl
abbrev sSps : Stmt := topS 60
abbrev nSps : List Str := ["alphabet", "steps", "number", "_", "picture", "columns", "states", "dots", "state"]
theorem scSps : FnScope nSps ["alphabet"] (defScope sSps) := ⟨rfl, rfl, rfl, by decide +kernel, rfl, by decide +kernel, by decide +kernel⟩
def spSps (CA : Addr) : Sp := fun vs H Q _ => ∃ (o : Addr) (high : Nat) (ss : List Sh), vs = [.ref o] ∧ AlpG CA H o high ss ∧
  ∀ (l : Addr) (xs : List V) (b : List St) (r : List (List St)) (rl : List (List Nat)) (H' : Hp), Same H H' → H l = none → H' l = some (.lst xs) → StpS H' xs (b :: r) → GSt ss high ss.length b r rl → r.length ≤ 2000 → Q (.ref l) H'
section
variable {P : Program} {w : World} {K : PySem.W.Frag} {mg : Str → Option Value} {base : Heap} {CA : Addr}
theorem ok_sps {f : Addr} {fd : FuncData} {k : Nat} (F : Fun K "_steps" "_steps" sSps f fd) (T : Tx mg) (TA : Tal K mg CA) (en : mg "enumerate" = none) (hz : mg "zip" = none) (GS : Mm P w K mg base (k + 1) CA "shapes" ["self"] (spAS CA)) (GN : Pm P w K mg base CX0 (k + 1) "column_numbers" ["picture"] spCN) :
    FnOk P w K mg base CX0 (k + 2) f fd ["alphabet"] (spSps CA) := by
  obtain ⟨fS, fdS, GS, mS, bS⟩ := GS.ex
  obtain ⟨fN, fdN, GN, mN, kN, bN⟩ := GN.ex
  refine F.ok scSps (fun vs H Q E h => ?_) (fun cdv A outer s H vs Q E hr h => ?_)
  · obtain ⟨_, _, _, rfl, _⟩ := h
    rfl
  · obtain ⟨o, high, ss, rfl, al, q⟩ := h
    have nd := scSps.nd
    refine ⟨_, C8.pss_cut (ps_set (i := 1) nd rfl (.inl rfl) (pe_lst (pa_cons (pe_lst (pa_cons (pe_tup (pa_cons pe_int (pa_cons pe_int (pa_cons pe_non pa_nil)))) pa_nil)) pa_nil)))
      (pss_cons (ps_for PassesOwn.never rfl (pi_enumG (by rfl) en (pa_cons (pe_meth0 (pv 0) TA.cl mS GS hr bS .nil pass0) pa_nil)) (pg_tup rfl (pgs_cons (pg_name (i := 2) nd rfl (Or.inl rfl)) (pgs_cons (pg_tup rfl (pgs_cons (pg_name (i := 3) nd rfl (Or.inl rfl)) (pgs_cons (pg_name (i := 4) nd rfl (Or.inl rfl)) pgs_nil))) pgs_nil)))
        (C8.pss_cut (ps_set (i := 5) nd rfl (.inl rfl) (pe_call GN hr (by rfl) mN kN bN .nil pass0 (pa_cons (pv 4) pa_nil)))
        (C8.pss_cut (ps_set (i := 6) nd rfl (.inl rfl) (pe_op op_cat (pe_listRg rfl (by rfl) T.list (prg_2 (by rfl) T.range (pe_callB call_len_seq (by rfl) T.len PySem.boot_len (pa_cons (pv 1) pa_nil)) (pe_op op_sub (pe_op op_add (pe_callB call_len_seq (by rfl) T.len PySem.boot_len (pa_cons (pv 1) pa_nil)) (pe_callB call_len_seq (by rfl) T.len PySem.boot_len (pa_cons (pv 5) pa_nil))) pe_int))) (pe_lst (pa_cons pe_int pa_nil))))
        (C8.pss_cut (ps_expr (pe_bm PySem.F.plainAttrs_list PySem.F.slot_list_append PySem.F.type_list_append mt_append (pe_ix (r := rIxL K) ix_list (pv 1) pe_int (fun _ _ => rfl)) (pa_cons (pe_tup (pa_cons (pe_ix (r := rIxL K) ix_list (pv 5) pe_int (fun _ _ => rfl)) (pa_cons (pe_ix (r := rIxL K) ix_list (pv 6) pe_int (fun _ _ => rfl)) (pa_cons (pv 2) pa_nil)))) pa_nil)))
        (pss_one (ps_set (i := 1) nd rfl (.inl rfl) (pe_op op_cat (pv 1) (pe_lc (own := [("dots", 7), ("state", 8)]) (g := gTup K 2 (gCons (gName 7) (gCons (gName 8) gNil))) (tt := tYes) rfl nd (pi_zipG (by rfl) hz (pa_cons (pe_slice sl_list (pv 5) (po_some pe_int) po_none) (pa_cons (pe_slice sl_list (pv 6) (po_some pe_int) po_none) pa_nil))) (blkOk_by (N := nSps) (sc := defScope sSps) (by decide +kernel))
            (fun _ _ _ _ _ => pg_tup rfl (pgs_cons (pg_name (i := 7) nd rfl (Or.inl rfl)) (pgs_cons (pg_name (i := 8) nd rfl (Or.inl rfl)) pgs_nil))) (fun _ _ _ _ _ => pts_nil)
            (fun _ _ _ _ _ => pe_lst (pa_cons (pe_tup (pa_cons (pv 7) (pa_cons (pv 8) (pa_cons pe_non pa_nil)))) pa_nil))))))))))
      (pss_one (ps_ret (pv 1)))), ?_⟩
    refine ⟨fun σ' H' => ∃ g a0 t0, σ' = [some (.ref o), some (.ref g), none, none, none, none, none, none, none] ∧ Same H H' ∧ H g = none ∧ H a0 = none ∧ g ≠ a0 ∧ H' g = some (.lst [.ref a0]) ∧ H' a0 = some (.lst [.ref t0]) ∧ H' t0 = some (.tup (stV (0, 0, none))), ?_, ?_⟩
    · refine ⟨by show 3 ≤ sizeLine; decide, fun t ht => ⟨by show 1 ≤ sizeLine; decide, fun a0 ha0 => ⟨by show 1 ≤ sizeLine; decide, fun g hg => ?_⟩⟩⟩
      have s1 := same_upd (o := .tup [V.int 0, V.int 0, V.non]) ht
      have s2 := same_upd (o := .lst [V.ref t]) ha0
      have s3 := same_upd (o := .lst [V.ref a0]) hg
      have ne : g ≠ a0 := (ne_of_none upd_same hg).symm
      exact ⟨g, a0, t, rfl, (s1.trans s2).trans s3, (s1.trans s2).free hg, s1.free ha0, ne, upd_same, s3 _ _ upd_same, s3 _ _ (s2 _ _ upd_same)⟩
    rintro _ H1 ⟨g0, a0, t0, rfl, s1, ng0, na0, ne0, hg0, ha0, ht0⟩
    obtain ⟨dx, tt, ys0, ho, hts, Ss0⟩ := id (al.same s1).al
    refine ⟨.ref o, rfl, o, dx, _, rfl, ho, aF_no _ _ (by decide +kernel) (by decide +kernel), o, high, ss, rfl, (al.same s1).al, fun l ys H2 s2 nl hl Sl => ⟨.lst l, ys, rfl, SqL.of hl, ?_⟩⟩
    have la : l ≠ a0 := (ne_of_none ha0 nl).symm
    have ha2 := s2 _ _ ha0
    refine for_enumG (K := K) (A := .lst l) (xs := ys) (fun i σ H3 => ∃ y2 y3 y4 y5 y6 g xs zs b r rl, σ = [some (.ref o), some (.ref g), y2, y3, y4, y5, y6, none, none] ∧ But a0 H2 H3 ∧ H3 g = some (.lst (.ref a0 :: xs)) ∧ g ≠ a0 ∧ H g = none ∧ H3 a0 = some (.lst zs) ∧ RowS H3 zs b ∧ RstS H3 a0 xs r ∧ GSt ss high i b r rl ∧ r.length ≤ i * 120)
      ⟨none, none, none, none, none, g0, [], [.ref t0], [(0, 0, none)], [], [], rfl, fun _ _ e _ => e, s2 _ _ hg0, ne0, ng0, ha2, ⟨rfl, fun i y e h1 h2 => ?_⟩, ⟨rfl, fun i x es h => nomatch h⟩, GSt.start ss high, Nat.zero_le _⟩ (fun i σ H3 _ z => ?_) ?_ ?_
    · match i, h1, h2 with
      | 0, h1, h2 =>
        cases h1
        cases h2
        exact ⟨t0, rfl, s2 _ _ ht0⟩
      | i + 1, h1, _ => cases h1
    · obtain ⟨_, _, _, _, _, _, _, _, _, _, _, _, bt, _⟩ := z
      exact SqL.of (bt _ _ hl la)
    · rintro i x σ H3 T' hx ⟨y2, y3, y4, y5, y6, g, xs, zs, b, r, rl, rfl, bt, hg, ga, ngH, ha, Rb, Rr, G, rl120⟩ hT
      have hi : i < ss.length := by
        rw [← Sl.len]
        exact (List.getElem?_eq_some_iff.mp hx).1
      have es : ss[i]? = some ss[i] := List.getElem?_eq_getElem hi
      have ps := al.pr ss[i] (List.getElem_mem hi)
      generalize ss[i] = s' at es ps
      obtain ⟨t2, p2, rfl, ht2, hp2⟩ := Sl.at_ i x s' hx es
      have tn : ∀ (c : Addr) (us : List V), H2 c = some (.tup us) → H3 c = some (.tup us) := fun c us e => bt _ _ e (fun q => by rw [q, ha2] at e; cases e)
      have sT := same_upd (o := .tup [V.int (i : Nat), V.ref t2]) hT
      refine ⟨T', _, rfl, SqT.of upd_same, rfl, _, _, rfl, _, _, rfl, t2, _, rfl, SqT.of (sT _ _ (tn _ _ ht2)), rfl, _, _, rfl, _, _, rfl, rfl, rfl, ?_⟩
      have bt4 : But a0 H2 (upd H3 T' (.tup [V.int (i : Nat), V.ref t2])) := fun b' o' e n => sT _ _ (bt b' o' e n)
      have hp4 := sT _ _ (tn _ _ hp2)
      have hg4 := sT _ _ hg
      have ha4 := sT _ _ ha
      have Rb4 := Rb.same sT
      have Rr4 := Rr.same sT
      generalize upd H3 T' (.tup [V.int (i : Nat), V.ref t2]) = H4 at bt4 hp4 hg4 ha4 Rb4 Rr4
      -- the columns
      refine ⟨fun σ' H' => ∃ c, σ' = [some (.ref o), some (.ref g), some (.int i), some (ch s'.sg), some (.ref p2), some (.ref c), y6, none, none] ∧ Same H4 H' ∧ H4 c = none ∧ H' c = some (.lst ((nums s'.w s'.rs).map iv)), ?_, ?_⟩
      · exact ⟨.ref p2, rfl, p2, high, s'.w, s'.rs, rfl, hp4, ps, fun c H5 s5 nc hc => ⟨c, rfl, s5, nc, hc⟩⟩
      rintro _ H5 ⟨c, rfl, s5, nc, hc⟩
      have lc : (nums s'.w s'.rs).length = s'.w := nums_len
      have lb : ∀ n ∈ nums s'.w s'.rs, n < 2 ^ high := fun n hn => by
        have := nums_lt hn
        rw [ps.len] at this
        exact this
      have ec : clk ss i = nums s'.w s'.rs := clk_at es
      generalize nums s'.w s'.rs = cs at hc lc lb ec
      -- the states
      refine ⟨fun σ' H' => ∃ st, σ' = [some (.ref o), some (.ref g), some (.int i), some (ch s'.sg), some (.ref p2), some (.ref c), some (.ref st), none, none] ∧ Same H5 H' ∧ H5 st = none ∧ H' st = some (.lst ((stsN (1 + r.length) cs.length).map iv)), ?_, ?_⟩
      · have hg5 := s5 _ _ hg4
        have l16 := al.l16
        have L1 : (V.ref a0 :: xs).length = 1 + r.length := by rw [List.length_cons, Rr.len]; omega
        have w1 := ps.w0
        have w2 := ps.w1
        refine ⟨.ref g, rfl, g, _, rfl, .inl (SqL.of hg5), .ref g, rfl, g, _, rfl, .inl (SqL.of hg5), .ref c, rfl, c, _, rfl, .inl (SqL.of hc), _, _, rfl, rfl, _, 1, rfl, rfl, _, _, rfl, rfl, ?_⟩
        rw [L1, List.length_map]
        refine ⟨RgOk.of_le (by omega) (by omega) (by omega) (by omega), fun q1 hq1 => ⟨by show 1 ≤ sizeLine; decide, fun l2 hl2 => ⟨q1, l2, _, _, rfl, rfl, same_upd hl2 _ _ upd_same, upd_same, ?_, fun st hst => ⟨st, rfl, ((same_upd hq1).trans (same_upd hl2)).trans (same_upd hst), ((same_upd hq1).trans (same_upd hl2)).free hst, ?_⟩⟩⟩⟩
        · rw [rgV_length]
          show _ + 1 ≤ 16777216
          omega
        · rw [upd_same, rg_sts (1 + r.length) cs.length (by omega)]
      rintro _ H6 ⟨st, rfl, s6, nst, hst⟩
      have s46 := s5.trans s6
      have hc6 := s6 _ _ hc
      have hg6 := s46 _ _ hg4
      have ha6 := s46 _ _ ha4
      have Rb6 := Rb4.same s46
      have Rr6 := Rr4.same s46
      have bt6 : But a0 H2 H6 := fun b' o' e n => s46 _ _ (bt4 b' o' e n)
      have w1 := ps.w0
      have ec0 : cs[0]? = some (cs.getD 0 0) := by
        rw [List.getD_eq_getElem?_getD, List.getElem?_eq_getElem (by omega)]
        rfl
      have ls := stsN_len (1 + r.length) cs.length (by omega)
      have es0 : (stsN (1 + r.length) cs.length)[0]? = some ((stsN (1 + r.length) cs.length).getD 0 0) := by
        rw [List.getD_eq_getElem?_getD, List.getElem?_eq_getElem (by omega)]
        rfl
      -- begun
      refine ⟨fun σ' H' => ∃ t, σ' = [some (.ref o), some (.ref g), some (.int i), some (ch s'.sg), some (.ref p2), some (.ref c), some (.ref st), none, none] ∧ But a0 H6 H' ∧ H' a0 = some (.lst (zs ++ [.ref t])) ∧ H' t = some (.tup (stV (cs.getD 0 0, (stsN (1 + r.length) cs.length).getD 0 0, some i))), ?_, ?_⟩
      · refine ⟨.ref g, rfl, g, _, 0, .ref a0, rfl, rfl, SqL.of hg6, atI_nat (j := 0) rfl, .inl ⟨rfl, _, SqL.of ha6⟩, .ref c, rfl, c, _, 0, iv (cs.getD 0 0), rfl, rfl, SqL.of hc6, atI_nat (j := 0) (by rw [List.getElem?_map, ec0]; rfl), .ref st, rfl, st, _, 0, iv ((stsN (1 + r.length) cs.length).getD 0 0), rfl, rfl, SqL.of hst, atI_nat (j := 0) (by rw [List.getElem?_map, es0]; rfl), .int i, rfl, by show 3 ≤ sizeLine; decide, fun t ht => ?_⟩
        have st7 := same_upd (o := .tup [iv (cs.getD 0 0), iv ((stsN (1 + r.length) cs.length).getD 0 0), V.int i]) ht
        have ha7 := st7 _ _ ha6
        refine ⟨a0, zs, .ref t, rfl, rfl, ha7, ?_, t, rfl, fun b' o' e n => ?_, upd_same, ?_⟩
        · rw [Rb6.len, G.bl]
          show i + 1 < 16777216
          have := al.l16
          omega
        · rw [upd_ne n]
          exact st7 _ _ e
        · rw [upd_ne (ne_of_none ha6 ht).symm]
          exact upd_same
      rintro _ H7 ⟨t, rfl, b67, ha7, ht7⟩
      have Rb7 : RowS H7 (zs ++ [.ref t]) (b ++ [(cs.getD 0 0, (stsN (1 + r.length) cs.length).getD 0 0, some i)]) := (Rb6.but ha6 b67).add ⟨t, rfl, ht7⟩
      have Rr7 := Rr6.but ha6 b67
      have hg7 := b67 _ _ hg6 ga
      have ca : c ≠ a0 := (ne_of_none ha4 nc).symm
      have sa : st ≠ a0 := (ne_of_none (s5 _ _ ha4) nst).symm
      have hc7 := b67 _ _ hc6 ca
      have hst7 := b67 _ _ hst sa
      have bt7 : But a0 H2 H7 := fun b' o' e n => b67 _ _ (bt6 b' o' e n) n
      refine ⟨.ref g, rfl, .ref c, rfl, _, rfl, c, _, rfl, SqL.of hc7, fun m1 hm1 => ?_⟩
      rw [cut_one]
      refine ⟨.ref st, rfl, _, rfl, st, _, rfl, SqL.of (same_upd hm1 _ _ hst7), fun m2 hm2 => ?_⟩
      rw [cut_one]
      have s79 := (same_upd (o := .lst ((cs.map iv).drop 1)) hm1).trans (same_upd (o := .lst (((stsN (1 + r.length) cs.length).map iv).drop 1)) hm2)
      have hm1' : (upd (upd H7 m1 (.lst ((cs.map iv).drop 1))) m2 (.lst (((stsN (1 + r.length) cs.length).map iv).drop 1))) m1 = some (.lst ((cs.map iv).drop 1)) := same_upd hm2 _ _ upd_same
      have hm2' : (upd (upd H7 m1 (.lst ((cs.map iv).drop 1))) m2 (.lst (((stsN (1 + r.length) cs.length).map iv).drop 1))) m2 = some (.lst (((stsN (1 + r.length) cs.length).map iv).drop 1)) := upd_same
      generalize upd (upd H7 m1 (.lst ((cs.map iv).drop 1))) m2 (.lst (((stsN (1 + r.length) cs.length).map iv).drop 1)) = H8 at s79 hm1' hm2'
      refine ⟨.lst m1, .lst m2, _, _, rfl, SqL.of hm1', SqL.of hm2', fun D hD => lc_zipG (K := K) (A := .lst m1) (B := .lst m2) (xs := (cs.map iv).drop 1) (ys := ((stsN (1 + r.length) cs.length).map iv).drop 1) ?_ (fun j H9 => Same H8 H9 ∧ ∃ ws, H9 D = some (.lst ws) ∧ RstS H9 a0 ws ((newR (1 + r.length) cs).take j) ∧ RstS H9 D ws ((newR (1 + r.length) cs).take j)) ⟨same_upd hD, [], upd_same, ⟨rfl, fun i x es h => nomatch h⟩, ⟨rfl, fun i x es h => nomatch h⟩⟩ (fun j H9 _ z => ⟨SqL.of (z.1 _ _ hm1'), SqL.of (z.1 _ _ hm2')⟩) ?_ ?_⟩
      · rw [List.length_drop, List.length_drop, List.length_map, List.length_map, ls]
      · rintro j x y H9 T9 hx hy ⟨sm, ws, h9, R9, RD⟩ nT
        have hj : j < cs.length - 1 := by
          have := (List.getElem?_eq_some_iff.mp hx).1
          rw [List.length_drop, List.length_map] at this
          exact this
        obtain rfl : x = iv (cs.getD (j + 1) 0) := by
          rw [List.getElem?_drop, List.getElem?_map, Nat.add_comm 1 j, List.getElem?_eq_getElem (by omega)] at hx
          rw [List.getD_eq_getElem?_getD, List.getElem?_eq_getElem (by omega)]
          exact (Option.some.inj hx).symm
        obtain rfl : y = iv (if j + 1 < cs.length - 1 then 1 + r.length + (j + 1) else 0) := by
          rw [List.getElem?_drop, List.getElem?_map, Nat.add_comm 1 j, stsN_at (by omega)] at hy
          exact (Option.some.inj hy).symm
        have nr := newR_at (n := 1 + r.length) hj
        have nl := newR_len (1 + r.length) cs (by omega)
        refine ⟨T9, _, rfl, SqT.of upd_same, rfl, _, _, rfl, _, _, rfl, rfl, rfl, _, rfl, _, rfl, by show 3 ≤ sizeLine; decide, fun t9 ht9 => ⟨by show 1 ≤ sizeLine; decide, fun c9 hc9 => ⟨ws, ?_, ?_, ?_, ws ++ [.ref c9], upd_same, ?_⟩⟩⟩
        all_goals
          have sA := ((same_upd (o := .tup [iv (cs.getD (j + 1) 0), iv (if j + 1 < cs.length - 1 then 1 + r.length + (j + 1) else 0)]) nT).trans (same_upd (o := .tup [iv (cs.getD (j + 1) 0), iv (if j + 1 < cs.length - 1 then 1 + r.length + (j + 1) else 0), V.non]) ht9)).trans (same_upd (o := .lst [V.ref t9]) hc9)
        · exact sA _ _ h9
        · rw [R9.len, List.length_take, nl]
          exact small1000 (by have := ps.w1; omega)
        · exact same_over (sm.trans sA) hD
        · rw [take_snoc nr]
          have s1A := (same_upd (o := .tup [iv (cs.getD (j + 1) 0), iv (if j + 1 < cs.length - 1 then 1 + r.length + (j + 1) else 0)]) nT).trans (same_upd (o := .tup [iv (cs.getD (j + 1) 0), iv (if j + 1 < cs.length - 1 then 1 + r.length + (j + 1) else 0), V.non]) ht9)
          have nca : c9 ≠ a0 := (ne_of_none (s1A _ _ (sm _ _ (s79 _ _ ha7))) hc9).symm
          have ncD : c9 ≠ D := (ne_of_none (s1A _ _ h9) hc9).symm
          have row : RowA (upd (upd (upd H9 T9 (.tup [iv (cs.getD (j + 1) 0), iv (if j + 1 < cs.length - 1 then 1 + r.length + (j + 1) else 0)])) t9 (.tup [iv (cs.getD (j + 1) 0), iv (if j + 1 < cs.length - 1 then 1 + r.length + (j + 1) else 0), V.non])) c9 (.lst [V.ref t9])) c9 [(cs.getD (j + 1) 0, (if j + 1 < cs.length - 1 then 1 + r.length + (j + 1) else 0), none)] :=
            ⟨_, upd_same, RowS.nil.add ⟨t9, rfl, same_upd hc9 _ _ upd_same⟩⟩
          have hD9 := sA _ _ h9
          have RD2 := ((RD.same sA).add ncD row).but hD9 (fun b' o' e n => by rw [upd_ne n]; exact e : But D _ (upd _ D (.lst (ws ++ [.ref c9]))))
          exact ⟨((R9.same sA).add nca row).two RD2, RD2⟩
      · rintro H9 ⟨sm, ws, h9, R9, _⟩
        rw [List.length_drop, List.length_map, List.take_of_length_le (by rw [newR_len _ _ (by omega)]; exact Nat.le_refl _)] at R9
        have s9 := s79.trans sm
        have hg9 := s9 _ _ hg7
        refine ⟨g, D, _, _, rfl, rfl, hg9, h9, ?_, fun g2 hg2 => ?_⟩
        · rw [List.length_cons, Rr.len, R9.len, newR_len _ _ (by omega)]
          have l16 := al.l16
          have w2 := ps.w1
          show _ ≤ 16777216
          omega
        have s10 := same_upd (o := .lst (V.ref a0 :: xs ++ ws)) hg2
        have sE := s9.trans s10
        have g2a : g2 ≠ a0 := (ne_of_none (sm _ _ (s79 _ _ ha7)) hg2).symm
        have lw := newR_len (1 + r.length) cs (by omega)
        refine ⟨_, _, _, _, _, g2, xs ++ ws, zs ++ [.ref t], _, r ++ newR (1 + r.length) cs, _, rfl, fun b' o' e n => sE _ _ (bt7 b' o' e n), upd_same, g2a, ?_, sE _ _ ha7, Rb7.same sE, ((Rr7.same s9).app R9).same s10, G.add (by omega) ec lb, ?_⟩
        · exact (show Same H H9 from fun b' o' e => s9 _ _ (bt7 _ _ (s2 _ _ (s1 _ _ e)) (ne_of_none e na0))).free hg2
        · rw [List.length_append, lw]
          have w2 := ps.w1
          omega
    · rintro σ H3 ⟨y2, y3, y4, y5, y6, g, xs, zs, b, r, rl, rfl, bt, hg, ga, ngH, ha, Rb, Rr, G, rl120⟩
      have e : ys.length = ss.length := Sl.len
      rw [e] at G rl120
      have l16 := al.l16
      refine ⟨.ref g, rfl, q g (.ref a0 :: xs) b r rl H3 ?_ ngH hg ?_ G (by omega)⟩
      · exact fun b' o' e => bt _ _ (s2 _ _ (s1 _ _ e)) (ne_of_none e na0)
      · refine ⟨by rw [List.length_cons, List.length_cons, Rr.len], fun j x es h1 h2 => ?_⟩
        match j, h1, h2 with
        | 0, h1, h2 =>
          cases h1
          cases h2
          exact ⟨a0, rfl, zs, ha, Rb⟩
        | j + 1, h1, h2 =>
          obtain ⟨a, e, _, R⟩ := Rr.at_ j x es h1 h2
          exact ⟨a, e, R⟩
end
end Dt
namespace Dt
open PySem PySem.Spec PyProof.Rows L2 L2X
open PySem.W (AlikeAll)
open SX (S)
/-! ### two drawings side by side, on the heap -/
abbrev cPr : Stmt := topS 59
structure Tpr (K : PySem.W.Frag) (mg : Str → Option Value) (C : Addr) : Prop where
  cl : Cls K C
  n1 : NoAttr K C "_counts"
  n2 : NoAttr K C "_steps"
  n3 : NoAttr K C "_column"
  n4 : NoAttr K C "_rest"
  mC : mg "Pairs" = some (.ref C)
structure WnA (H : Hp) (zs : List V) (ws : List (Nat × Nat)) : Prop where
  len : zs.length = ws.length
  at_ : ∀ (i : Nat) (x : V) (q : Nat × Nat), zs[i]? = some x → ws[i]? = some q → ∃ t, x = .ref t ∧ H t = some (.tup [.int (-(q.1 : Int)), .int q.2])
theorem WnA.same {H H' : Hp} {zs : List V} {ws : List (Nat × Nat)} (h : WnA H zs ws) (s : Same H H') : WnA H' zs ws :=
  ⟨h.len, fun i x q a b => let ⟨t, e, z⟩ := h.at_ i x q a b; ⟨t, e, s _ _ z⟩⟩
theorem WnA.nil {H : Hp} : WnA H [] [] := ⟨rfl, fun i x q h => nomatch h⟩
theorem WnA.cons {H : Hp} {zs : List V} {ws : List (Nat × Nat)} {t : Addr} {q : Nat × Nat} (h : WnA H zs ws) (ht : H t = some (.tup [.int (-(q.1 : Int)), .int q.2])) : WnA H (.ref t :: zs) (q :: ws) := by
  refine ⟨by rw [List.length_cons, List.length_cons, h.len], fun i x p a b => ?_⟩
  match i, a, b with
  | 0, a, b =>
    cases a
    cases b
    exact ⟨t, rfl, ht⟩
  | i + 1, a, b => exact h.at_ i x p a b
/-- a number and windows told from behind -/
def PwA (H : Hp) (y : V) (p : Pw) : Prop := ∃ t u zs, y = .ref t ∧ H t = some (.tup [.int p.1, .ref u]) ∧ H u = some (.tup zs) ∧ WnA H zs p.2
theorem PwA.same {H H' : Hp} {y : V} {p : Pw} (h : PwA H y p) (s : Same H H') : PwA H' y p :=
  let ⟨t, u, zs, e, a, b, c⟩ := h; ⟨t, u, zs, e, s _ _ a, s _ _ b, c.same s⟩
/-- tuples stay -/
def Tps (H H' : Hp) : Prop := ∀ a xs, H a = some (.tup xs) → H' a = some (.tup xs)
theorem PwA.tps {H H' : Hp} {y : V} {p : Pw} (h : PwA H y p) (s : Tps H H') : PwA H' y p :=
  let ⟨t, u, zs, e, a, b, c⟩ := h; ⟨t, u, zs, e, s _ _ a, s _ _ b, c.len, fun i x q a b => let ⟨t, e, z⟩ := c.at_ i x q a b; ⟨t, e, s _ _ z⟩⟩
theorem Tps.same {H H' : Hp} (s : Same H H') : Tps H H' := fun a xs e => s _ _ e
/-- a list of the table, at a state -/
structure TrA (ss : List Sh) (rl : List (List Nat)) (n a N : Nat) (H : Hp) (ys : List V) : Prop where
  len : ys.length = N
  at_ : ∀ (b : Nat) (y : V), ys[b]? = some y → ∃ p, PwA H y p ∧ EP ss rl n a b p
structure TabA (ss : List Sh) (rl : List (List Nat)) (n N : Nat) (H : Hp) (zs : List V) : Prop where
  len : zs.length = N
  at_ : ∀ (a : Nat) (x : V), zs[a]? = some x → ∃ c ys, x = .ref c ∧ H c = some (.lst ys) ∧ TrA ss rl n a N H ys
theorem TrA.same {ss : List Sh} {rl : List (List Nat)} {n a N : Nat} {H H' : Hp} {ys : List V} (h : TrA ss rl n a N H ys) (s : Same H H') : TrA ss rl n a N H' ys :=
  ⟨h.len, fun b y e => let ⟨p, z, w⟩ := h.at_ b y e; ⟨p, z.same s, w⟩⟩
theorem TrA.tps {ss : List Sh} {rl : List (List Nat)} {n a N : Nat} {H H' : Hp} {ys : List V} (h : TrA ss rl n a N H ys) (s : Tps H H') : TrA ss rl n a N H' ys :=
  ⟨h.len, fun b y e => let ⟨p, z, w⟩ := h.at_ b y e; ⟨p, z.tps s, w⟩⟩
theorem TabA.same {ss : List Sh} {rl : List (List Nat)} {n N : Nat} {H H' : Hp} {zs : List V} (h : TabA ss rl n N H zs) (s : Same H H') : TabA ss rl n N H' zs :=
  ⟨h.len, fun a x e => let ⟨c, ys, e1, e2, t⟩ := h.at_ a x e; ⟨c, ys, e1, s _ _ e2, t.same s⟩⟩
/-- pairs as they stand, n columns from behind -/
structure PrS (C : Addr) (H : Hp) (p dx : Addr) (fs : List (Str × V)) (ss : List Sh) (high n : Nat) (ct ls lr : Addr) (xs zs : List V) (b : List St) (r : List (List St)) (rl : List (List Nat)) : Prop where
  hp : H p = some (.ins C dx fs)
  f1 : fs.lookup ("_counts" : Str) = some (.ref ct)
  f2 : fs.lookup ("_steps" : Str) = some (.ref ls)
  f3 : fs.lookup ("_column" : Str) = some (.int (-((n : Int) + 1)))
  f4 : fs.lookup ("_rest" : Str) = some (.ref lr)
  m1 : fs.lookup ("first_unlike" : Str) = none
  m2 : fs.lookup ("widen" : Str) = none
  m3 : fs.lookup ("_joined" : Str) = none
  l4 : fs.length ≤ 8
  h1 : H ct = some (.lst ((cntL high).map iv))
  h2 : H ls = some (.lst xs)
  h3 : H lr = some (.lst zs)
  st : StpS H xs (b :: r)
  g : GSt ss high ss.length b r rl
  r2 : r.length ≤ 2000
  tb : TabA ss rl n (r.length + 1) H zs
theorem PrS.same {C : Addr} {H H' : Hp} {p dx : Addr} {fs : List (Str × V)} {ss : List Sh} {high n : Nat} {ct ls lr : Addr} {xs zs : List V} {b : List St} {r : List (List St)} {rl : List (List Nat)} (h : PrS C H p dx fs ss high n ct ls lr xs zs b r rl) (s : Same H H') : PrS C H' p dx fs ss high n ct ls lr xs zs b r rl :=
  ⟨s _ _ h.hp, h.f1, h.f2, h.f3, h.f4, h.m1, h.m2, h.m3, h.l4, s _ _ h.h1, s _ _ h.h2, s _ _ h.h3, h.st.same s, h.g, h.r2, h.tb.same s⟩
/-! ### joined -/
abbrev sPJ : Stmt := inClass cPr 3
abbrev nPJ : List Str := ["self", "one", "other", "dots", "state", "number", "more", "beside", "_", "nearer", "windows"]
theorem scPJ : FnScope nPJ ["self", "one", "other"] (defScope sPJ) := ⟨rfl, rfl, rfl, by decide +kernel, rfl, by decide +kernel, by decide +kernel⟩
def spPJ (K : PySem.W.Frag) (C : Addr) : Sp := fun vs H Q _ => ∃ (p dx : Addr) (fs : List (Str × V)) (ss : List Sh) (high n : Nat) (ct ls lr : Addr) (xs zs : List V) (b : List St) (r : List (List St)) (rl : List (List Nat)) (x y : V) (e f : St), vs = [.ref p, x, y] ∧ PrS C H p dx fs ss high n ct ls lr xs zs b r rl ∧ n ≤ 60 ∧ StA H x e ∧ StA H y f ∧ e.1 < 2 ^ high ∧ f.1 < 2 ^ high ∧ e.2.1 ≤ r.length ∧ f.2.1 ≤ r.length ∧
  ∀ (v : V) (pw : Pw) (H' : Hp), Same H H' → EP ss rl n e.2.1 f.2.1 pw → PwA H' v (joinP n e f pw) → Q v H'
section
variable {P : Program} {w : World} {K : PySem.W.Frag} {mg : Str → Option Value} {base : Heap} {C : Addr}
theorem ok_pj {f : Addr} {fd : FuncData} {k : Nat} (F : Fun K "_joined" "Pairs._joined" sPJ f fd) (T : Tpr K mg C) : FnOk P w K mg base CX0 (k + 1) f fd ["self", "one", "other"] (spPJ K C) := by
  refine F.ok scPJ (fun vs H Q E h => ?_) (fun cdv A outer s H vs Q E hr h => ?_)
  · obtain ⟨_, _, _, _, _, _, _, _, _, _, _, _, _, _, _, _, _, _, rfl, _⟩ := h
    rfl
  · obtain ⟨p, dx, fs, ss, high, n, ct, ls, lr, xs, zs, b, r, rl, x, y, e, g, rfl, S, n60, ⟨t1, rfl, ht1⟩, ⟨t2, rfl, ht2⟩, e1, g1, e2, g2, q⟩ := h
    have nd := scPJ.nd
    refine ⟨_, pss_cons (ps_asg (pv 1) (pg_tup rfl (pgs_cons (pg_name (i := 3) nd rfl (Or.inl rfl)) (pgs_cons (pg_name (i := 4) nd rfl (Or.inl rfl)) (pgs_cons (pg_name (i := 5) nd rfl (Or.inl rfl)) pgs_nil)))))
      (pss_cons (ps_asg (pv 2) (pg_tup rfl (pgs_cons (pg_name (i := 6) nd rfl (Or.inl rfl)) (pgs_cons (pg_name (i := 7) nd rfl (Or.inl rfl)) (pgs_cons (pg_name (i := 8) nd rfl (Or.inl rfl)) pgs_nil)))))
      (pss_cons (ps_asg (pe_ix (r := rIxL K) ix_list (pe_ix (r := rIxL K) ix_list (pe_fld (pv 0) rfl) (pv 4) (fun _ _ => rfl)) (pv 7) (fun _ _ => rfl)) (pg_tup rfl (pgs_cons (pg_name (i := 9) nd rfl (Or.inl rfl)) (pgs_cons (pg_name (i := 10) nd rfl (Or.inl rfl)) pgs_nil))))
      (C8.pss_cut (ps_if (pt_cmp (pc_notN (pv 5))) (pss_one (ps_set (i := 10) nd rfl (.inl rfl) (pe_op op_catT (pe_tup (pa_cons (pe_tup (pa_cons (pe_fld (pv 0) rfl) (pa_cons (pv 5) pa_nil))) pa_nil)) (pv 10)))) pss_nil)
      (pss_one (ps_ret (pe_tup (pa_cons (pe_op op_add (pe_ix (r := rIxL K) ix_list (pe_fld (pv 0) rfl) (pe_op op_xor (pv 3) (pv 6)) (fun _ _ => rfl)) (pv 9)) (pa_cons (pv 10) pa_nil)))))))), ?_⟩
    obtain ⟨d1, s1, o1⟩ := e
    obtain ⟨d2, s2, o2⟩ := g
    have lt := S.tb.len
    have ez : zs[s1]? = some (zs[s1]'(by have : s1 ≤ r.length := e2; omega)) := List.getElem?_eq_getElem _
    obtain ⟨c, ys, ec, hc, TR⟩ := S.tb.at_ s1 _ ez
    have ly := TR.len
    have ey : ys[s2]? = some (ys[s2]'(by have : s2 ≤ r.length := g2; omega)) := List.getElem?_eq_getElem _
    obtain ⟨pw, ⟨t, u, us, et, ht, hu, W⟩, EPw⟩ := TR.at_ s2 _ ey
    rw [ec] at ez
    rw [et] at ey
    refine ⟨.ref t1, rfl, t1, _, rfl, SqT.of ht1, rfl, _, _, rfl, _, _, rfl, _, _, rfl, rfl, .ref t2, rfl, t2, _, rfl, SqT.of ht2, rfl, _, _, rfl, _, _, rfl, _, _, rfl, rfl, ?_⟩
    refine ⟨.ref p, rfl, p, C, dx, fs, .ref lr, rfl, S.hp, T.cl, T.n4, S.f4, .int s1, rfl, lr, zs, s1, .ref c, rfl, rfl, SqL.of S.h3, atI_nat ez, .int s2, rfl, c, ys, s2, .ref t, rfl, rfl, SqL.of hc, atI_nat ey, t, _, rfl, SqT.of ht, rfl, _, _, rfl, _, _, rfl, rfl, ?_⟩
    refine ⟨fun σ' H' => ∃ u' vs, σ' = [some (.ref p), some (.ref t1), some (.ref t2), some (.int d1), some (.int s1), some (oV o1), some (.int d2), some (.int s2), some (oV o2), some (.int pw.1), some (.ref u')] ∧ Same H H' ∧ H' u' = some (.tup vs) ∧ WnA H' vs (joinP n (d1, s1, o1) (d2, s2, o2) pw).2, ?_, ?_⟩
    · cases o1 with
      | none => exact ⟨.non, rfl, _, rfl, iteF ⟨u, us, rfl, Same.refl _, hu, W⟩⟩
      | some k1 =>
        refine ⟨.int k1, rfl, _, rfl, iteT ⟨.ref p, rfl, p, C, dx, fs, .int (-((n : Int) + 1)), rfl, S.hp, T.cl, T.n3, S.f3, .int k1, rfl, by show 2 ≤ sizeLine; decide, fun w1 hw1 => ⟨by show 1 ≤ sizeLine; decide, fun w2 hw2 => ?_⟩⟩⟩
        have sA := same_upd (o := .tup [V.int (-((n : Int) + 1)), V.int k1]) hw1
        have sB := same_upd (o := .tup [V.ref w1]) hw2
        have hu2 := sB _ _ (sA _ _ hu)
        have W2 := (W.same sA).same sB
        have hw := sB _ _ (upd_same (H := H) (a := w1) (o := .tup [V.int (-((n : Int) + 1)), V.int k1]))
        have e1 : (-(((n + 1 : Nat)) : Int)) = -((n : Int) + 1) := by omega
        have W3 := W2.cons (t := w1) (q := (n + 1, k1)) (by rw [e1]; exact hw)
        refine ⟨.ref u, rfl, w2, u, [.ref w1], us, rfl, rfl, SqT.of upd_same, SqT.of hu2, (fun z => by cases z), ?_, fun z => ?_, fun z w3 hw3 => ?_⟩
        · have := W.len
          have := EPw.ln
          show 1 + us.length ≤ 16777216
          omega
        · subst z
          exact ⟨w2, _, rfl, sA.trans sB, upd_same, W3⟩
        · exact ⟨w3, _, rfl, (sA.trans sB).trans (same_upd hw3), upd_same, W3.same (same_upd hw3)⟩
    rintro _ H1 ⟨u', vs, rfl, s1', hu', W'⟩
    have hx : Builtin.bitXor (d1 : Int) (d2 : Int) = ((d1 ^^^ d2 : Nat) : Int) := Bits.bitXor_pp (Int.natCast_nonneg _) (Int.natCast_nonneg _)
    refine ⟨.ref p, rfl, p, C, dx, fs, .ref ct, rfl, s1' _ _ S.hp, T.cl, T.n1, S.f1, .int d1, rfl, .int d2, rfl, _, _, rfl, rfl, ct, _, _, iv (pc (d1 ^^^ d2)), rfl, rfl, SqL.of (s1' _ _ S.h1), ?_, .int pw.1, rfl, _, _, rfl, rfl, .ref u', rfl, by show 2 ≤ sizeLine; decide, fun v hv => ?_⟩
    · rw [hx]
      exact atI_nat (by rw [List.getElem?_map, cntL_at (Nat.xor_lt_two_pow e1 g1)]; rfl)
    · refine q _ pw _ (s1'.trans (same_upd hv)) EPw ⟨v, u', vs, rfl, ?_, same_upd hv _ _ hu', W'.same (same_upd hv)⟩
      rw [upd_same]
      show some (HO.tup [V.int ((pc (d1 ^^^ d2) : Int) + (pw.1 : Int)), V.ref u']) = some (HO.tup [V.int ((pc (d1 ^^^ d2) + pw.1 : Nat) : Int), V.ref u'])
      rw [show ((pc (d1 ^^^ d2) + pw.1 : Nat) : Int) = (pc (d1 ^^^ d2) : Int) + (pw.1 : Int) by omega]
end
end Dt
namespace L2X
open PySem PySem.Spec PyProof.Rows L2
theorem op_neDK {X : Cx} {K : PySem.W.Frag} (hK : X.K = K) (hu : X.A.units + 64 < cLine) : OpR X (compareOp .NotEq) (rNeD K) := by
  subst hK
  exact op_neD hu
end L2X
namespace Dt
open PySem PySem.Spec PyProof.Rows L2 L2X
open PySem.W (AlikeAll)
open SX (S)
/-! ### as data -/
def oD : Option Nat → PyData
  | none => .none
  | some k => .int k
def sD3 (e : St) : PyData := .tuple [.int e.1, .int e.2.1, oD e.2.2]
theorem StA.dp {K : PySem.W.Frag} {H : Hp} {x : V} {e : St} (h : StA H x e) : Dp K H x (sD3 e) := by
  obtain ⟨t, rfl, ht⟩ := h
  obtain ⟨a, b, o⟩ := e
  cases o with
  | none => exact .tup (SqT.of ht) (.cons (.int _) (.cons (.int _) (.cons .non .nil)))
  | some k => exact .tup (SqT.of ht) (.cons (.int _) (.cons (.int _) (.cons (.int _) .nil)))
theorem sD3_shaped (e : St) : SeqAt.shaped (sD3 e) = true := by
  obtain ⟨a, b, o⟩ := e
  cases o <;> rfl
theorem sD3_eqv (e f : St) : PyData.eqv (sD3 e) (sD3 f) = decide (e = f) := by
  obtain ⟨a, b, o⟩ := e
  obtain ⟨c, d, q⟩ := f
  cases o <;> cases q <;> simp [sD3, oD, PyData.eqv, PyData.eqvAll] <;> (rw [Bool.eq_iff_iff]; simp; omega)
theorem WnA.dps {K : PySem.W.Frag} {H : Hp} : ∀ {zs : List V} {ws : List (Nat × Nat)}, WnA H zs ws → DpAll K H zs (ws.map qD)
  | [], [], _ => .nil
  | [], _ :: _, h => nomatch h.len
  | _ :: _, [], h => nomatch h.len
  | z :: zs, q :: ws, h => by
    obtain ⟨t, rfl, ht⟩ := h.at_ 0 z q rfl rfl
    exact .cons (.tup (SqT.of ht) (.cons (.int _) (.cons (.int _) .nil))) (WnA.dps ⟨Nat.succ.inj h.len, fun i x p a b => h.at_ (i + 1) x p a b⟩)
theorem PwA.dp {K : PySem.W.Frag} {H : Hp} {y : V} {p : Pw} (h : PwA H y p) : Dp K H y (wPD p) := by
  obtain ⟨t, u, zs, rfl, h1, h2, W⟩ := h
  exact .tup (SqT.of h1) (.cons (.int _) (.cons (.tup (SqT.of h2) W.dps) .nil))
theorem tps_upd {H : Hp} {D : Addr} {z : List V} {o : HO} (h : H D = some (.lst z)) : Tps H (upd H D o) := fun a xs e => by
  rw [upd_ne]
  · exact e
  · rintro rfl
    rw [h] at e
    cases e
/-- numbers with windows, in a list -/
structure Lis (H : Hp) (xs : List V) (ps : List Pw) : Prop where
  len : xs.length = ps.length
  at_ : ∀ (i : Nat) (x : V) (p : Pw), xs[i]? = some x → ps[i]? = some p → PwA H x p
theorem Lis.nil {H : Hp} : Lis H [] [] := ⟨rfl, fun i x p h => nomatch h⟩
theorem Lis.tps {H H' : Hp} {xs : List V} {ps : List Pw} (h : Lis H xs ps) (s : Tps H H') : Lis H' xs ps := ⟨h.len, fun i x p a b => (h.at_ i x p a b).tps s⟩
theorem Lis.add {H : Hp} {xs : List V} {ps : List Pw} {v : V} {p : Pw} (h : Lis H xs ps) (a : PwA H v p) : Lis H (xs ++ [v]) (ps ++ [p]) := by
  have hl := h.len
  refine ⟨by rw [List.length_append, List.length_append, hl]; rfl, fun i x f hx hf => ?_⟩
  by_cases c : i < xs.length
  · rw [List.getElem?_append_left c] at hx
    rw [List.getElem?_append_left (by omega)] at hf
    exact h.at_ i x f hx hf
  · rw [List.getElem?_append_right (by omega)] at hx hf
    have h1 := (List.getElem?_eq_some_iff.mp hx).1
    have h1' : i - xs.length < 1 := h1
    rw [show i - xs.length = 0 by omega] at hx
    rw [show i - ps.length = 0 by omega] at hf
    cases hx
    cases hf
    exact a
theorem Lis.dps {K : PySem.W.Frag} {H : Hp} : ∀ {xs : List V} {ps : List Pw}, Lis H xs ps → DpAll K H xs (ps.map wPD)
  | [], [], _ => .nil
  | [], _ :: _, h => nomatch h.len
  | _ :: _, [], h => nomatch h.len
  | x :: xs, p :: ps, h => .cons (h.at_ 0 x p rfl rfl).dp (Lis.dps ⟨Nat.succ.inj h.len, fun i y q a b => h.at_ (i + 1) y q a b⟩)
/-- the least of these -/
theorem min_reads {K : PySem.W.Frag} {H : Hp} {l : Addr} {xs : List V} {ps : List Pw} {Q : VK} (hl : H l = some (.lst xs)) (h : Lis H xs ps) (ne : xs ≠ []) (q : ∀ x p, PwA H x p → p ∈ ps → (∀ p' ∈ ps, qLt p' p = false) → Q x H) : rMinD K [.ref l] H Q := by
  refine ⟨l, xs, ps.map wPD, rfl, SqL.of hl, h.dps, fun e => ne ?_, wPDs_alike _, Nat.le_trans (wPDs_depth _) (by decide), fun i x e hx he ls => ?_⟩
  · have : ps = [] := List.map_eq_nil_iff.mp e
    have hl := h.len
    rw [this] at hl
    exact List.eq_nil_of_length_eq_zero hl
  · obtain ⟨p, hp, rfl⟩ := map_at he
    refine q x p (h.at_ i x p hx hp) (List.mem_of_getElem? hp) fun p' hp' => ?_
    rw [← dlt_wPD]
    exact ls _ (List.mem_map_of_mem hp')
/-- joined pairs, up to the j-th behind the i-th -/
def Als (Ψ : St → St → Prop) (A B : List St) (ss : List Sh) (rl : List (List Nat)) (n i j : Nat) (H : Hp) (xs : List V) : Prop :=
  ∃ ps, Lis H xs ps ∧ (∀ p ∈ ps, ∃ e ∈ A, ∃ f ∈ B, Ψ e f ∧ ∃ p0, EP ss rl n e.2.1 f.2.1 p0 ∧ p = joinP n e f p0) ∧
    ∀ a b e f, (a < i ∧ b < B.length ∨ a = i ∧ b < j) → A[a]? = some e → B[b]? = some f → Ψ e f → ∃ p0, EP ss rl n e.2.1 f.2.1 p0 ∧ joinP n e f p0 ∈ ps
section
variable {Ψ : St → St → Prop} {A B : List St} {ss : List Sh} {rl : List (List Nat)} {n i j : Nat} {H H' : Hp} {xs : List V}
theorem Als.nil : Als Ψ A B ss rl n 0 0 H [] := ⟨[], Lis.nil, (fun p h => nomatch h), fun a b e f h => by omega⟩
theorem Als.tps (h : Als Ψ A B ss rl n i j H xs) (s : Tps H H') : Als Ψ A B ss rl n i j H' xs := let ⟨ps, l, a, b⟩ := h; ⟨ps, l.tps s, a, b⟩
theorem Als.add (h : Als Ψ A B ss rl n i j H xs) {e f : St} (he : A[i]? = some e) (hf : B[j]? = some f) (hΨ : Ψ e f) {p0 : Pw} (E : EP ss rl n e.2.1 f.2.1 p0) {v : V} (hv : PwA H v (joinP n e f p0)) : Als Ψ A B ss rl n i (j + 1) H (xs ++ [v]) := by
  obtain ⟨ps, l, a, b⟩ := h
  refine ⟨ps ++ [joinP n e f p0], l.add hv, fun p hp => ?_, fun x y e' f' hxy hx hy hΨ' => ?_⟩
  · rcases List.mem_append.mp hp with z | z
    · exact a p z
    · exact ⟨e, List.mem_of_getElem? he, f, List.mem_of_getElem? hf, hΨ, p0, E, List.mem_singleton.mp z⟩
  · by_cases c : x = i ∧ y = j
    · obtain ⟨rfl, rfl⟩ := c
      rw [he] at hx
      rw [hf] at hy
      cases hx
      cases hy
      exact ⟨p0, E, List.mem_append_right _ (List.mem_singleton.mpr rfl)⟩
    · obtain ⟨p1, E1, m1⟩ := b x y e' f' (by omega) hx hy hΨ'
      exact ⟨p1, E1, List.mem_append_left _ m1⟩
theorem Als.skip (h : Als Ψ A B ss rl n i j H xs) {e f : St} (he : A[i]? = some e) (hf : B[j]? = some f) (hΨ : ¬ Ψ e f) : Als Ψ A B ss rl n i (j + 1) H xs := by
  obtain ⟨ps, l, a, b⟩ := h
  refine ⟨ps, l, a, fun x y e' f' hxy hx hy hΨ' => ?_⟩
  by_cases c : x = i ∧ y = j
  · obtain ⟨rfl, rfl⟩ := c
    rw [he] at hx
    rw [hf] at hy
    cases hx
    cases hy
    exact absurd hΨ' hΨ
  · exact b x y e' f' (by omega) hx hy hΨ'
theorem Als.next (h : Als Ψ A B ss rl n i B.length H xs) : Als Ψ A B ss rl n (i + 1) 0 H xs := by
  obtain ⟨ps, l, a, b⟩ := h
  exact ⟨ps, l, a, fun x y e' f' hxy hx hy => b x y e' f' (by omega) hx hy⟩
/-- the least of all joined -/
theorem als_min {K : PySem.W.Frag} {l : Addr} {Q : VK} (hl : H l = some (.lst xs)) (h : Als Ψ A B ss rl n A.length 0 H xs) (ne : xs ≠ []) (q : ∀ x p, PwA H x p → MJ Ψ A B ss rl n p → Q x H) : rMinD K [.ref l] H Q := by
  obtain ⟨ps, L, a, b⟩ := h
  refine min_reads hl L ne fun x p hx hp ls => q x p hx ⟨a p hp, fun e he f hf hΨ => ?_⟩
  obtain ⟨i, hi⟩ := List.mem_iff_getElem?.mp he
  obtain ⟨j, hj⟩ := List.mem_iff_getElem?.mp hf
  obtain ⟨p0, E, m⟩ := b i j e f (.inl ⟨(List.getElem?_eq_some_iff.mp hi).1, (List.getElem?_eq_some_iff.mp hj).1⟩) hi hj hΨ
  exact ⟨p0, E, ls _ m⟩
end
/-! ### the first of all pairs that begin unlike -/
abbrev sPF : Stmt := inClass cPr 1
abbrev nPF : List Str := ["self", "begun", "one", "other"]
theorem scPF : FnScope nPF ["self"] (defScope sPF) := ⟨rfl, rfl, rfl, by decide +kernel, rfl, by decide +kernel, by decide +kernel⟩
def spPF (K : PySem.W.Frag) (C : Addr) : Sp := fun vs H Q _ => ∃ (p dx : Addr) (fs : List (Str × V)) (ss : List Sh) (high n : Nat) (ct ls lr : Addr) (xs zs : List V) (b : List St) (r : List (List St)) (rl : List (List Nat)), vs = [.ref p] ∧ PrS C H p dx fs ss high n ct ls lr xs zs b r rl ∧ n ≤ 60 ∧ 1 ≤ ss.length ∧ ss.length ≤ 16 ∧
  ∀ (v : V) (pw : Pw) (H' : Hp), Same H H' → UX ss (n + 1) pw → PwA H' v pw → Q v H'
section
variable {P : Program} {w : World} {K : PySem.W.Frag} {mg : Str → Option Value} {base : Heap} {C : Addr}
theorem ok_pf {f : Addr} {fd : FuncData} {k : Nat} (F : Fun K "first_unlike" "Pairs.first_unlike" sPF f fd) (T : Tpr K mg C) (mi : mg "min" = none) (GJ : Mm P w K mg base (k + 1) C "_joined" ["self", "one", "other"] (spPJ K C)) : FnOk P w K mg base CX0 (k + 2) f fd ["self"] (spPF K C) := by
  obtain ⟨fJ, fdJ, GJ, mJ, bJ⟩ := GJ.ex
  refine F.ok scPF (fun vs H Q E h => ?_) (fun cdv A outer s H vs Q E hr h => ?_)
  · obtain ⟨_, _, _, _, _, _, _, _, _, _, _, _, _, _, rfl, _⟩ := h
    rfl
  · obtain ⟨p, dx, fs, ss, high, n, ct, ls, lr, xs, zs, b, r, rl, rfl, S, n60, s1, s16, q⟩ := h
    have nd := scPF.nd
    have hu : (A.deeper (envOfC "Pairs.first_unlike" (defScope sPF) s.heap.objs.size f cdv)).units + 64 < cLine := by
      have := hr.un
      omega
    refine ⟨_, pss_cons (ps_set (i := 1) nd rfl (.inr rfl) (pe_ix (r := rIxL K) ix_list (pe_fld (pv 0) rfl) pe_int (fun _ _ => rfl)))
      (pss_one (ps_ret (pe_callB (cr_minD rfl hu) (by rfl) mi (by decide +kernel) (pa_cons (pe_lc2 (own := [("one", 2), ("other", 3)]) (vs1 := [3]) (g := gName 2) (tt := tYes) (wi1 := iList K (tVar 1)) (g1 := gName 3) rfl nd (pi_list (pv 1)) (blkOk_by (N := nPF) (sc := defScope sPF) (by decide +kernel)) (by decide)
        (fun _ _ _ _ _ => pg_name (i := 2) nd rfl (Or.inl rfl)) (fun _ _ _ _ _ => pts_nil) (fun _ _ _ _ _ => pi_listK (K := K) rfl (pv 1)) (fun _ _ _ _ _ => pg_name (i := 3) nd rfl (Or.inl rfl))
        (fun _ _ _ _ _ => pts_one (pt_cmpR (op_neDK (K := K) rfl hu) (pv 2) (pv 3) (nomark _))) (fun _ _ _ _ _ => pe_meth (pv 0) T.cl mJ GJ hr bJ .nil pass0 (pa_cons (pv 2) (pa_cons (pv 3) pa_nil)))) pa_nil)))), ?_⟩
    have lx := S.st.len
    have ex : xs[0]? = some (xs[0]'(by rw [lx]; exact Nat.succ_pos _)) := List.getElem?_eq_getElem _
    obtain ⟨a, ea, ys, ha, R⟩ := S.st.at_ 0 _ b ex rfl
    rw [ea] at ex
    have ly := R.len
    have lb := S.g.bl
    refine ⟨.ref p, rfl, p, C, dx, fs, .ref ls, rfl, S.hp, T.cl, T.n2, S.f2, ls, xs, 0, .ref a, rfl, rfl, SqL.of S.h2, atI_nat (j := 0) ex, ?_⟩
    refine ⟨.ref a, rfl, a, rfl, ⟨_, SqL.of ha⟩, fun D hD => lc2_by b.length (fun i H2 => Same H H2 ∧ ∃ us, H2 D = some (.lst us) ∧ Als (fun e f => e ≠ f) b b ss rl n i 0 H2 us ∧ (1 ≤ i → us ≠ []) ∧ us.length ≤ i * 17) ?_ ?_ ?_ ?_ ?_⟩
    · exact ⟨same_upd hD, [], upd_same, Als.nil, (fun z => by omega), Nat.zero_le _⟩
    · rintro H2 ⟨sm, _⟩
      exact ⟨_, SqL.of (sm _ _ ha), by omega⟩
    · rintro i H2 hi ⟨sm, _⟩
      exact ⟨_, _, SqL.of (sm _ _ ha), List.getElem?_eq_getElem (by omega)⟩
    · rintro i x H2 H3 hi ⟨sm, us, hus, A2, ne, lu⟩ ⟨rfl, hy⟩
      have hx := hy ys (SqL.of (sm _ _ ha))
      have ee : b[i]? = some b[i] := List.getElem?_eq_getElem hi
      have em := List.getElem_mem hi
      generalize b[i] = e at ee em
      have ae := R.at_ i x e hx ee
      refine ⟨rfl, .ref a, rfl, a, rfl, ⟨_, SqL.of (sm _ _ ha)⟩, lc2_in b.length (fun j H4 => Same H H4 ∧ ∃ vs, H4 D = some (.lst vs) ∧ Als (fun e f => e ≠ f) b b ss rl n i j H4 vs ∧ (1 ≤ i → vs ≠ []) ∧ (e = (0, 0, none) → 2 ≤ j → vs ≠ []) ∧ vs.length ≤ i * 17 + j) ?_ ?_ ?_ ?_ ?_⟩
      · exact ⟨sm, us, hus, A2, ne, (fun _ z => by omega), lu⟩
      · rintro H4 ⟨sm4, _⟩
        exact ⟨_, SqL.of (sm4 _ _ ha), by omega⟩
      · rintro j H4 hj ⟨sm4, _⟩
        exact ⟨_, _, SqL.of (sm4 _ _ ha), List.getElem?_eq_getElem (by omega)⟩
      · rintro j y H4 H5 hj ⟨sm4, vs, hvs, A4, n1, n2, lv⟩ ⟨rfl, hz⟩
        have hy2 := hz ys (SqL.of (sm4 _ _ ha))
        have ef : b[j]? = some b[j] := List.getElem?_eq_getElem hj
        have fm := List.getElem_mem hj
        generalize b[j] = g at ef fm
        have ag := R.at_ j y g hy2 ef
        have st : ∀ {x : V} {e : St}, StA H x e → StA H5 x e := fun ⟨t, z1, z2⟩ => ⟨t, z1, sm4 _ _ z2⟩
        refine ⟨rfl, x, rfl, y, rfl, sD3 e, sD3 g, (st ae).dp, (st ag).dp, sD3_shaped e, sD3_shaped g, _, rfl, ?_⟩
        rw [sD3_eqv]
        obtain ⟨k1, k2, _⟩ := S.g.kind (a := 0) (Nat.zero_le _) em
        obtain ⟨k3, k4, _⟩ := S.g.kind (a := 0) (Nat.zero_le _) fm
        by_cases eg : e = g
        · rw [decide_eq_true eg]
          refine iteF ⟨sm4, vs, hvs, A4.skip ee ef (fun z => z eg), n1, fun z0 z => ?_, by omega⟩
          by_cases j2 : 2 ≤ j
          · exact n2 z0 j2
          · have j1 : j = 1 := by omega
            subst j1
            obtain ⟨c, s', eb, _⟩ := S.g.bk 0 (by omega)
            rw [ef] at eb
            have : g = (c, s', some 0) := Option.some.inj eb
            rw [← eg, z0] at this
            cases this
        · rw [decide_eq_false eg]
          refine iteT ⟨.ref p, rfl, p, dx, fs, rfl, sm4 _ _ S.hp, S.m3, x, rfl, y, rfl, p, dx, fs, ss, high, n, ct, ls, lr, xs, zs, b, r, rl, x, y, e, g, rfl, S.same sm4, n60, st ae, st ag, k1, k3, k2, k4, fun v pw H6 s6 EPw PW => ⟨vs, s6 _ _ hvs, ?_, same_over (sm4.trans s6) hD, vs ++ [v], upd_same, ?_, ?_, ?_, ?_⟩⟩
          · exact smallT (by omega)
          · exact ((A4.tps (Tps.same s6)).add ee ef eg EPw PW).tps (tps_upd (s6 _ _ hvs))
          · intro _ z
            simp at z
          · intro _ _ z
            simp at z
          · rw [List.length_append]
            show vs.length + 1 ≤ _
            omega
      · rintro H4 ⟨sm4, vs, hvs, A4, n1, n2, lv⟩
        refine ⟨sm4, vs, hvs, A4.next, fun _ => ?_, by omega⟩
        by_cases i1 : 1 ≤ i
        · exact n1 i1
        · have i0 : i = 0 := by omega
          subst i0
          rw [S.g.b0] at ee
          exact n2 (Option.some.inj ee).symm (by omega)
    · rintro H2 ⟨sm, us, hus, A2, ne, lu⟩
      exact als_min hus A2 (ne (by omega)) fun v pw a1 a2 => q v pw H2 sm (a2.ux S.g) a1
end
end Dt
namespace Dt
open PySem PySem.Spec PyProof.Rows L2 L2X
open SX (S)
/-! ### ways made, and the first of them -/
theorem WinT.but {C p dx wide n : Nat} {fs : List (Str × V)} {ss : List Sh} {rs : List (List Nat)} {H H' : Hp} {xs : List V} (h : WinT ss rs wide H xs n) (b : But p H H') (hp : H p = some (.ins C dx fs)) : WinT ss rs wide H' xs n := by
  refine ⟨h.1, fun c x e => ?_⟩
  obtain ⟨l, ys, e1, e2, W⟩ := h.2 c x e
  refine ⟨l, ys, e1, b _ _ e2 (ne_ins hp e2 fun _ _ _ z => by cases z), W.ext fun a o z e => ?_⟩
  obtain ⟨zs, rfl⟩ := z
  exact b _ _ e (ne_ins hp e fun _ _ _ z => by cases z)
theorem SplAt.but {C CS p dx sp : Nat} {fs : List (Str × V)} {H H' : Hp} (h : SplAt CS H sp) (b : But p H H') (n : sp ≠ p) (hp : H p = some (.ins C dx fs)) : SplAt CS H' sp := by
  obtain ⟨dx2, fs2, e, F⟩ := h
  have ls : ∀ l xs, H l = some (.lst xs) → H' l = some (.lst xs) := fun l xs e => b _ _ e (ne_ins hp e fun _ _ _ z => by cases z)
  have ds : ∀ l xs, H l = some (.dK xs) → H' l = some (.dK xs) := fun l xs e => b _ _ e (ne_ins hp e fun _ _ _ z => by cases z)
  exact ⟨dx2, fs2, b _ _ e n, F.st, let ⟨l, a, c⟩ := F.be; ⟨l, a, ls _ _ c⟩, let ⟨l, a, c⟩ := F.bw; ⟨l, a, ls _ _ c⟩, F.ss, let ⟨l, a, c⟩ := F.sp; ⟨l, a, ls _ _ c⟩, let ⟨l, d1, d2, a, c, e1, e2⟩ := F.kn; ⟨l, d1, d2, a, ls _ _ c, ds _ _ e1, ds _ _ e2⟩⟩
theorem SplAt.same {CS sp : Nat} {H H' : Hp} (h : SplAt CS H sp) (s : Same H H') : SplAt CS H' sp := by
  obtain ⟨dx2, fs2, e, F⟩ := h
  exact ⟨dx2, fs2, s _ _ e, F.st, let ⟨l, a, c⟩ := F.be; ⟨l, a, s _ _ c⟩, let ⟨l, a, c⟩ := F.bw; ⟨l, a, s _ _ c⟩, F.ss, let ⟨l, a, c⟩ := F.sp; ⟨l, a, s _ _ c⟩, let ⟨l, d1, d2, a, c, e1, e2⟩ := F.kn; ⟨l, d1, d2, a, s _ _ c, s _ _ e1, s _ _ e2⟩⟩
theorem Two.tk {K : PySem.W.Frag} {H H' : Hp} {l : Addr} {y : Wy} (h : Two K H l y) (t : Tk H H') (s : ∀ xs, H l = some (.lst xs) → H' l = some (.lst xs)) : Two K H' l y := by
  obtain ⟨x0, x1, e, a, b⟩ := h
  exact ⟨x0, x1, s _ e, a.tk t, b.tk t⟩
theorem RowsT.same {K : PySem.W.Frag} {H H' : Hp} {rl : List V} {c : Nat} {T : List Wy} (h : RowsT K H rl c T) (s : Same H H') : RowsT K H' rl c T := fun j y e =>
  let ⟨l, e1, t⟩ := h j y e; ⟨l, e1, t.tk (.same s) fun xs e => s _ _ e⟩
theorem RowsT.but {K : PySem.W.Frag} {C p dx : Nat} {fs : List (Str × V)} {H H' : Hp} {rl : List V} {c : Nat} {T : List Wy} (h : RowsT K H rl c T) (b : But p H H') (hp : H p = some (.ins C dx fs)) : RowsT K H' rl c T := fun j y e => by
  obtain ⟨l, e1, t⟩ := h j y e
  refine ⟨l, e1, t.tk (fun a zs => ⟨fun e => b _ _ e (ne_ins hp e fun _ _ _ z => by cases z), fun od e => b _ _ e (ne_ins hp e fun _ _ _ z => by cases z)⟩) fun xs e => b _ _ e (ne_ins hp e fun _ _ _ z => by cases z)⟩
theorem but_put {C p dx : Nat} {gs : List (Str × V)} {H : Hp} : But p H (upd H p (.ins C dx gs)) := fun b o e n => by
  rw [upd_ne n]
  exact e
/-- the ways of a line, made -/
def WayX (CS : Addr) (H : Hp) (fs : List (Str × V)) (ss : List Sh) (rs : List (List Nat)) (wide : Nat) : Prop := ∃ lw xs sp, fs.lookup ("windows" : Str) = some (.ref lw) ∧ H lw = some (.lst xs) ∧ WinT ss rs wide H xs wide ∧ fs.lookup ("spelling" : Str) = some (.ref sp) ∧ SplAt CS H sp ∧
  fs.lookup ("first_ones" : Str) = none ∧ fs.lookup ("_branch" : Str) = none ∧ fs.lookup ("_branches" : Str) = none
def WayAt (K : PySem.W.Frag) (C CS : Addr) (H : Hp) (p : Addr) (ss : List Sh) (rs : List (List Nat)) (wide : Nat) : Prop := ∃ dx fs lr rl, H p = some (.ins C dx fs) ∧ fs.lookup ("white" : Str) = some (.int (whiteN rs)) ∧ fs.lookup ("rest" : Str) = some (.ref lr) ∧ H lr = some (.lst rl) ∧ RowsT K H rl 0 (tabW ss rs wide wide) ∧
  fs.lookup ("told" : Str) = none ∧ fs.lookup ("first" : Str) = none ∧ WayX CS H fs ss rs wide
theorem WayX.same {CS wide : Nat} {H H' : Hp} {fs : List (Str × V)} {ss : List Sh} {rs : List (List Nat)} (h : WayX CS H fs ss rs wide) (s : Same H H') : WayX CS H' fs ss rs wide := by
  obtain ⟨lw, xs, sp, e, h1, W, e2, S, n⟩ := h
  exact ⟨lw, xs, sp, e, s _ _ h1, W.same s, e2, S.same s, n⟩
theorem WayAt.same {K : PySem.W.Frag} {C CS p wide : Nat} {H H' : Hp} {ss : List Sh} {rs : List (List Nat)} (h : WayAt K C CS H p ss rs wide) (s : Same H H') : WayAt K C CS H' p ss rs wide := by
  obtain ⟨dx, fs, lr, rl, e, f1, f2, h1, R, n1, n2, x⟩ := h
  exact ⟨dx, fs, lr, rl, s _ _ e, f1, f2, s _ _ h1, R.same s, n1, n2, x.same s⟩
abbrev sWI : Stmt := inClass cWy 0
theorem scWI : FnScope ["self", "alphabet", "line", "spelling"] ["self", "alphabet", "line", "spelling"] (defScope sWI) := ⟨rfl, rfl, rfl, by decide +kernel, rfl, by decide +kernel, by decide +kernel⟩
def spWI (K : PySem.W.Frag) (C CA CS : Addr) : Sp := fun vs H Q _ => ∃ (p dx o a sp : Addr) (high wide : Nat) (ss : List Sh) (rs : List (List Nat)), vs = [.ref p, .ref o, .ref a, .ref sp] ∧ H p = some (.ins C dx []) ∧ AlpG CA H o high ss ∧ o ≠ p ∧ H a = some (.tup (rs.map rv)) ∧ PicR high wide rs ∧ high ≤ 9 ∧ wide ≤ 60 ∧ (∀ k, k < ss.length → 1 ≤ wdt ss k) ∧ SplAt CS H sp ∧ sp ≠ p ∧
  ∀ H', WayAt K C CS H' p ss rs wide → But p H H' → Q .non H'
abbrev sFi : Stmt := inClass cWy 3
theorem scFi : FnScope ["self"] ["self"] (defScope sFi) := ⟨rfl, rfl, rfl, by decide +kernel, rfl, by decide +kernel, by decide +kernel⟩
def spFi (K : PySem.W.Frag) (C CS : Addr) : Sp := fun vs H Q _ => ∃ (p : Addr) (wide : Nat) (ss : List Sh) (rs : List (List Nat)), vs = [.ref p] ∧ WayAt K C CS H p ss rs wide ∧ ∀ v H', Same H H' → WyA K H' v ((whiteN rs : Int) + ((tabW ss rs wide wide).getD 0 nowW).1, ((tabW ss rs wide wide).getD 0 nowW).2) → Q v H'
abbrev sTo : Stmt := inClass cWy 4
theorem scTo : FnScope ["self", "way", "cost", "windows"] ["self", "way"] (defScope sTo) := ⟨rfl, rfl, rfl, by decide +kernel, rfl, by decide +kernel, by decide +kernel⟩
def spTo (K : PySem.W.Frag) (C CS : Addr) : Sp := fun vs H Q _ => ∃ (p : Addr) (x : V) (wide : Nat) (ss : List Sh) (rs : List (List Nat)) (y : Wy), vs = [.ref p, x] ∧ WayAt K C CS H p ss rs wide ∧ WyA K H x y ∧ ∀ v H', Same H H' → WyA K H' v ((whiteN rs : Int) + y.1, y.2) → Q v H'
section
variable {P : Program} {w : World} {K : PySem.W.Frag} {mg : Str → Option Value} {base : Heap} {C CA CS : Addr}
theorem ok_to {f : Addr} {fd : FuncData} {k : Nat} (F : Fun K "told" "Ways.told" sTo f fd) (TW : Twy K mg C) : FnOk P w K mg base CX0 (k + 1) f fd ["self", "way"] (spTo K C CS) := by
  refine F.ok scTo (fun vs H Q E h => ?_) (fun cdv A outer s H vs Q E hr h => ?_)
  · obtain ⟨p, x, _, _, _, _, rfl, _⟩ := h
    rfl
  · obtain ⟨p, x, wide, ss, rs, y, rfl, ⟨dx, fs, lr, rl, hp, fw, _⟩, ⟨t, u, zs, rfl, h1, h2, h3⟩, q⟩ := h
    have nd := scTo.nd
    refine ⟨_, pss_cons (ps_asg (pv 1) (pg_tup rfl (pgs_cons (pg_name (i := 2) nd rfl (Or.inl rfl)) (pgs_cons (pg_name (i := 3) nd rfl (Or.inl rfl)) pgs_nil))))
      (pss_one (ps_ret (pe_tup (pa_cons (pe_op op_add (pe_fld (pv 0) rfl) (pv 2)) (pa_cons (pv 3) pa_nil))))), ?_⟩
    exact ⟨.ref t, rfl, t, _, rfl, h1, rfl, _, _, rfl, _, _, rfl, rfl, .ref p, rfl, p, C, dx, fs, .int (whiteN rs), rfl, hp, TW.cl, TW.n2, fw, .int y.1, rfl, _, _, rfl, rfl, .ref u, rfl, by show 2 ≤ sizeLine; decide, fun r hr' => q _ _ (same_upd hr') ⟨r, u, zs, rfl, SqT.of upd_same, (Tk.same (same_upd hr')).sq h2, h3.same (same_upd hr')⟩⟩
theorem ok_fi {f : Addr} {fd : FuncData} {k : Nat} (F : Fun K "first" "Ways.first" sFi f fd) (TW : Twy K mg C) (GT : Mm P w K mg base (k + 1) C "told" ["self", "way"] (spTo K C CS)) : FnOk P w K mg base CX0 (k + 2) f fd ["self"] (spFi K C CS) := by
  obtain ⟨fT, fdT, GT, mT, bT⟩ := GT.ex
  refine F.ok scFi (fun vs H Q E h => ?_) (fun cdv A outer s H vs Q E hr h => ?_)
  · obtain ⟨p, _, _, _, rfl, _⟩ := h
    rfl
  · obtain ⟨p, wide, ss, rs, rfl, wa, q⟩ := h
    obtain ⟨dx, fs, lr, rl, hp, fw, fr, hlr, R, n1, n2⟩ := id wa
    have lT := (tab_len ss rs wide wide).1
    obtain ⟨l, el, x0, x1, hl, wx0, _⟩ := R 0 _ (List.getElem?_eq_getElem (by omega))
    have eT : (tabW ss rs wide wide)[0]'(by omega) = (tabW ss rs wide wide).getD 0 nowW := by
      rw [List.getD_eq_getElem?_getD, List.getElem?_eq_getElem (by omega)]
      rfl
    rw [eT] at wx0
    refine ⟨_, pss_one (ps_ret (pe_meth (pv 0) TW.cl mT GT hr bT .nil pass0 (pa_cons (pe_ix (r := rIxL K) ix_list (pe_ix (r := rIxL K) ix_list (pe_fld (pv 0) rfl) pe_int (fun _ _ => rfl)) pe_int (fun _ _ => rfl)) pa_nil))), ?_⟩
    exact ⟨.ref p, rfl, p, dx, fs, rfl, hp, n1, .ref p, rfl, p, C, dx, fs, .ref lr, rfl, hp, TW.cl, TW.n4, fr, lr, rl, 0, .ref l, rfl, rfl, SqL.of hlr, atI_nat (j := 0) el, l, _, 0, x0, rfl, rfl, SqL.of hl, rfl, p, x0, wide, ss, rs, _, rfl, wa, wx0, q⟩
theorem ok_wi2 {f : Addr} {fd : FuncData} {k : Nat} (F : Fun K "__init__" "Ways.__init__" sWI f fd) (TW : Twy K mg C) (GC : Pm P w K mg base CX0 (k + 1) "white_cost" ["line"] spWC) (GW : Pm P w K mg base CX0 (k + 1) "window_costs" ["alphabet", "line"] (spWW CA)) (GG : Mm P w K mg base (k + 1) C "_weighed" ["self"] (spWg K C CS)) :
    FnOk P w K mg base CX0 (k + 2) f fd ["self", "alphabet", "line", "spelling"] (spWI K C CA CS) := by
  obtain ⟨fC, fdC, GC, mC, kC, bC⟩ := GC.ex
  obtain ⟨fW, fdW, GW, mW, kW, bW⟩ := GW.ex
  obtain ⟨fG, fdG, GG, mG, bG⟩ := GG.ex
  refine F.ok scWI (fun vs H Q E h => ?_) (fun cdv A outer s H vs Q E hr h => ?_)
  · obtain ⟨p, dx, o, a, sp, _, _, _, _, rfl, _⟩ := h
    rfl
  · obtain ⟨p, dx, o, a, sp, high, wide, ss, rs, rfl, hp, al, op, ha, pr, h9, w60, w1, aS, spp, q⟩ := h
    have nd := scWI.nd
    have ap : a ≠ p := ne_ins hp ha fun _ _ _ z => by cases z
    refine ⟨_, pss_cons (ps_fld (pv 0) (pv 3) rfl)
      (C8.pss_cut (ps_fld (pv 0) (pe_call GC hr (by rfl) mC kC bC .nil pass0 (pa_cons (pv 2) pa_nil)) rfl)
      (C8.pss_cut (ps_fld (pv 0) (pe_call GW hr (by rfl) mW kW bW .nil pass0 (pa_cons (pv 1) (pa_cons (pv 2) pa_nil))) rfl)
      (pss_one (ps_fld (pv 0) (pe_meth0 (pv 0) TW.cl mG GG hr bG .nil pass0) rfl)))), ?_⟩
    have pl : ∀ (fs : List (Str × V)) (g : Str) (v : V) (n : Nat), fs.length ≤ n → (putF g v fs).length ≤ n + 1 := fun fs g v n h => Nat.le_trans (length_putF _ _ _) (Nat.succ_le_succ h)
    have l0 : ([] : List (Str × V)).length ≤ 0 := Nat.le_refl _
    have l1 := pl _ "spelling" (V.ref sp) _ l0
    have l2 := pl _ "white" (V.int (whiteN rs)) _ l1
    refine ⟨.ref sp, rfl, .ref p, rfl, p, C, dx, [], rfl, hp, TW.cl, TW.n1, by decide, ?_⟩
    have b1 : But p H (upd H p (.ins C dx (putF "spelling" (.ref sp) []))) := but_put
    have hp1 : (upd H p (.ins C dx (putF "spelling" (.ref sp) []))) p = some (.ins C dx (putF "spelling" (.ref sp) [])) := upd_same
    generalize upd H p (.ins C dx (putF "spelling" (.ref sp) [])) = H1 at b1 hp1
    refine ⟨fun σ' H' => σ' = [some (.ref p), some (.ref o), some (.ref a), some (.ref sp)] ∧ But p H H' ∧ H' p = some (.ins C dx (putF "white" (.int (whiteN rs)) (putF "spelling" (.ref sp) []))), ?_, ?_⟩
    · exact ⟨.ref a, rfl, a, high, wide, rs, rfl, b1 _ _ ha ap, pr, fun H2 s2 => ⟨.ref p, rfl, p, C, dx, _, rfl, s2 _ _ hp1, TW.cl, TW.n2, by omega, rfl, fun b o' e n => (but_put _ _ (s2 _ _ (b1 b o' e n)) n), upd_same⟩⟩
    rintro _ H2 ⟨rfl, b2, hp2⟩
    refine ⟨fun σ' H' => ∃ lw xs, σ' = [some (.ref p), some (.ref o), some (.ref a), some (.ref sp)] ∧ But p H H' ∧ H' p = some (.ins C dx (putF "windows" (.ref lw) (putF "white" (.int (whiteN rs)) (putF "spelling" (.ref sp) [])))) ∧ H' lw = some (.lst xs) ∧ WinT ss rs wide H' xs wide, ?_, ?_⟩
    · exact ⟨.ref o, rfl, .ref a, rfl, o, a, high, wide, ss, rs, rfl, al.but b2 op hp, b2 _ _ ha ap, pr, h9, w60, fun lw xs H3 s3 nl hl WT => ⟨.ref p, rfl, p, C, dx, _, rfl, s3 _ _ hp2, TW.cl, TW.n3, by omega, lw, xs, rfl, fun b o' e n => (but_put _ _ (s3 _ _ (b2 b o' e n)) n), upd_same, put_l (s3 _ _ hp2) hl, WT.but but_put (s3 _ _ hp2)⟩⟩
    rintro _ H3 ⟨lw, xs, rfl, b3, hp3, hlw, WT⟩
    have l3 := pl _ "windows" (V.ref lw) _ l2
    refine ⟨.ref p, rfl, p, dx, _, rfl, hp3, ?_, p, dx, sp, lw, _, xs, wide, ss, rs, rfl, hp3, ?_, aS.but b3 spp hp, ?_, hlw, WT, w60, al.l16, w1, ?_, fun l rl H4 s4 nl hl RT => ⟨.ref p, rfl, p, C, dx, _, rfl, s4 _ _ hp3, TW.cl, TW.n4, by omega, q _ ⟨dx, _, l, rl, upd_same, ?_, ?_, put_l (s4 _ _ hp3) hl, RT.but but_put (s4 _ _ hp3), ?_, ?_, lw, xs, sp, ?_, put_l (s4 _ _ hp3) (s4 _ _ hlw), (WT.same s4).but but_put (s4 _ _ hp3), ?_, ((aS.but b3 spp hp).same s4).but but_put spp (s4 _ _ hp3), ?_, ?_, ?_⟩ fun b o' e n => (but_put _ _ (s4 _ _ (b3 b o' e n)) n)⟩⟩
    all_goals
      simp only [lookup_putF]
      repeat (first | rw [if_pos trivial] | rw [if_neg (by decide +kernel)])
    all_goals rfl
end
end Dt
namespace Dt
open PySem PySem.Spec PyProof.Rows L2 L2X
open PySem.W (AlikeAll)
open SX (S)
/-! ### one column ahead -/
theorem inSt_at {b : List St} {r : List (List St)} {a : Nat} (h : a ≤ r.length) : (b :: r)[a]? = some (inSt b r a) := by
  match a, h with
  | 0, _ => rfl
  | a + 1, h =>
    show r[a]? = some (r.getD a [])
    rw [List.getD_eq_getElem?_getD, List.getElem?_eq_getElem (by omega)]
    rfl
theorem GSt.row {ss : List Sh} {high : Nat} {b : List St} {r : List (List St)} {rl : List (List Nat)} (G : GSt ss high ss.length b r rl) {a : Nat} (h : a ≤ r.length) : 1 ≤ (inSt b r a).length ∧ (inSt b r a).length ≤ ss.length + 1 := by
  match a, h with
  | 0, _ =>
    show 1 ≤ b.length ∧ b.length ≤ _
    rw [G.bl]
    omega
  | a + 1, h =>
    have e := inSt_at (b := b) h
    obtain ⟨c, s, e1, _⟩ := G.rk a _ (show r[a]? = some (inSt b r (a + 1)) from e)
    rw [e1]
    show 1 ≤ 1 ∧ 1 ≤ _
    omega
/-- lists and tuples stay -/
def Lts (H H' : Hp) : Prop := (∀ a xs, H a = some (.lst xs) → H' a = some (.lst xs)) ∧ Tps H H'
theorem Lts.but {H H' : Hp} {p : Addr} {C dx : Addr} {fs : List (Str × V)} (b : But p H H') (h : H p = some (.ins C dx fs)) : Lts H H' :=
  ⟨fun a xs e => b _ _ e (fun q => by rw [q, h] at e; cases e), fun a xs e => b _ _ e (fun q => by rw [q, h] at e; cases e)⟩
theorem StpS.lts {H H' : Hp} {xs : List V} {S : List (List St)} (h : StpS H xs S) (s : Lts H H') : StpS H' xs S :=
  ⟨h.len, fun i x es a b => let ⟨c, e, ys, e2, r⟩ := h.at_ i x es a b; ⟨c, e, ys, s.1 _ _ e2, r.len, fun i y f h1 h2 => let ⟨t, z1, z2⟩ := r.at_ i y f h1 h2; ⟨t, z1, s.2 _ _ z2⟩⟩⟩
theorem TabA.lts {ss : List Sh} {rl : List (List Nat)} {n N : Nat} {H H' : Hp} {zs : List V} (h : TabA ss rl n N H zs) (s : Lts H H') : TabA ss rl n N H' zs :=
  ⟨h.len, fun a x e => let ⟨c, ys, e1, e2, t⟩ := h.at_ a x e; ⟨c, ys, e1, s.1 _ _ e2, t.tps s.2⟩⟩
/-- rows of the table that are made, none of them the list at D -/
structure TabD (ss : List Sh) (rl : List (List Nat)) (n N m : Nat) (D : Addr) (H : Hp) (us : List V) : Prop where
  len : us.length = m
  at_ : ∀ (a : Nat) (x : V), us[a]? = some x → ∃ c ys, x = .ref c ∧ c ≠ D ∧ H c = some (.lst ys) ∧ TrA ss rl n a N H ys
theorem TabD.same {ss : List Sh} {rl : List (List Nat)} {n N m : Nat} {D : Addr} {H H' : Hp} {us : List V} (h : TabD ss rl n N m D H us) (s : Same H H') : TabD ss rl n N m D H' us :=
  ⟨h.len, fun a x e => let ⟨c, ys, e1, n, e2, t⟩ := h.at_ a x e; ⟨c, ys, e1, n, s _ _ e2, t.same s⟩⟩
theorem TabD.upd {ss : List Sh} {rl : List (List Nat)} {n N m : Nat} {D : Addr} {H : Hp} {us z : List V} {o : HO} (h : TabD ss rl n N m D H us) (hD : H D = some (.lst z)) : TabD ss rl n N m D (upd H D o) us :=
  ⟨h.len, fun a x e => let ⟨c, ys, e1, n, e2, t⟩ := h.at_ a x e; ⟨c, ys, e1, n, by rw [upd_ne n]; exact e2, t.tps (tps_upd hD)⟩⟩
theorem TabD.add {ss : List Sh} {rl : List (List Nat)} {n N m : Nat} {D c : Addr} {H : Hp} {us ys : List V} (h : TabD ss rl n N m D H us) (nc : c ≠ D) (hc : H c = some (.lst ys)) (t : TrA ss rl n m N H ys) : TabD ss rl n N (m + 1) D H (us ++ [.ref c]) := by
  have hl := h.len
  refine ⟨by rw [List.length_append, hl]; rfl, fun a x e => ?_⟩
  by_cases q : a < us.length
  · rw [List.getElem?_append_left q] at e
    exact h.at_ a x e
  · rw [List.getElem?_append_right (by omega)] at e
    have h1 : a - us.length < 1 := (List.getElem?_eq_some_iff.mp e).1
    rw [show a - us.length = 0 by omega] at e
    cases e
    have ea : a = m := by omega
    subst ea
    exact ⟨c, ys, rfl, nc, hc, t⟩
theorem TrA.add {ss : List Sh} {rl : List (List Nat)} {n a m : Nat} {H : Hp} {ys : List V} {v : V} {p : Pw} (h : TrA ss rl n a m H ys) (A : PwA H v p) (e : EP ss rl n a m p) : TrA ss rl n a (m + 1) H (ys ++ [v]) := by
  have hl := h.len
  refine ⟨by rw [List.length_append, hl]; rfl, fun b y hy => ?_⟩
  by_cases q : b < ys.length
  · rw [List.getElem?_append_left q] at hy
    exact h.at_ b y hy
  · rw [List.getElem?_append_right (by omega)] at hy
    have h1 : b - ys.length < 1 := (List.getElem?_eq_some_iff.mp hy).1
    rw [show b - ys.length = 0 by omega] at hy
    cases hy
    have eb : b = m := by omega
    subst eb
    exact ⟨p, A, e⟩
theorem len_putF {f : Str} {v : V} : ∀ {fs : List (Str × V)}, fs.lookup f ≠ none → (putF f v fs).length = fs.length
  | [], h => absurd rfl h
  | (g, x) :: r, h => by
    unfold putF
    by_cases e : g = f
    · rw [if_pos e]
      rfl
    · rw [if_neg e, List.length_cons, List.length_cons, len_putF]
      have hb : (f == g) = false := beq_eq_false_iff_ne.mpr fun q => e q.symm
      simp only [List.lookup, hb] at h
      exact h
abbrev sPW : Stmt := inClass cPr 2
abbrev nPW : List Str := ["self", "ones", "others", "one", "other"]
theorem scPW : FnScope nPW ["self"] (defScope sPW) := ⟨rfl, rfl, rfl, by decide +kernel, rfl, by decide +kernel, by decide +kernel⟩
def spPW (K : PySem.W.Frag) (C : Addr) : Sp := fun vs H Q _ => ∃ (p dx : Addr) (fs : List (Str × V)) (ss : List Sh) (high n : Nat) (ct ls lr : Addr) (xs zs : List V) (b : List St) (r : List (List St)) (rl : List (List Nat)), vs = [.ref p] ∧ PrS C H p dx fs ss high n ct ls lr xs zs b r rl ∧ n ≤ 59 ∧ 1 ≤ ss.length ∧ ss.length ≤ 16 ∧
  ∀ (fs' : List (Str × V)) (lr' : Addr) (zs' : List V) (H' : Hp), But p H H' → PrS C H' p dx fs' ss high (n + 1) ct ls lr' xs zs' b r rl → Q .non H'
section
variable {P : Program} {w : World} {K : PySem.W.Frag} {mg : Str → Option Value} {base : Heap} {C : Addr}
theorem ok_pw {f : Addr} {fd : FuncData} {k : Nat} (F : Fun K "widen" "Pairs.widen" sPW f fd) (T : Tpr K mg C) (mi : mg "min" = none) (GJ : Mm P w K mg base (k + 1) C "_joined" ["self", "one", "other"] (spPJ K C)) : FnOk P w K mg base CX0 (k + 2) f fd ["self"] (spPW K C) := by
  obtain ⟨fJ, fdJ, GJ, mJ, bJ⟩ := GJ.ex
  refine F.ok scPW (fun vs H Q E h => ?_) (fun cdv A outer s H vs Q E hr h => ?_)
  · obtain ⟨_, _, _, _, _, _, _, _, _, _, _, _, _, _, rfl, _⟩ := h
    rfl
  · obtain ⟨p, dx, fs, ss, high, n, ct, ls, lr, xs, zs, b, r, rl, rfl, S, n60, s1, s16, q⟩ := h
    have nd := scPW.nd
    have hu : (A.deeper (envOfC "Pairs.widen" (defScope sPW) s.heap.objs.size f cdv)).units + 64 < cLine := by
      have := hr.un
      omega
    refine ⟨_, C8.pss_cut (ps_fld (pv 0) (pe_lc (own := [("ones", 1)]) (g := gName 1) (tt := tYes) rfl nd (pi_list (pe_fld (pv 0) rfl)) (blkOk_by (N := nPW) (sc := defScope sPW) (by decide +kernel)) (fun _ _ _ _ _ => pg_name (i := 1) nd rfl (Or.inr rfl)) (fun _ _ _ _ _ => pts_nil)
          (fun _ _ _ _ _ => pe_lc (own := [("others", 2)]) (g := gName 2) (tt := tYes) rfl nd (pi_listK (K := K) rfl (pe_fldK (K := K) rfl (pv 0) rfl)) (blkOk_by (N := nPW) (sc := { kind := .function, names := [(".0", .local), ("ones", .cell), ("self", .cell)], isGenerator := false, isCoroutine := false }) (by decide +kernel)) (fun _ _ _ _ _ => pg_name (i := 2) nd rfl (Or.inr rfl)) (fun _ _ _ _ _ => pts_nil)
            (fun _ _ _ _ _ => pe_callB (cr_minDK (K := K) rfl rfl hu) (by rfl) mi (by decide +kernel) (pa_cons (pe_lc2 (own := [("one", 3), ("other", 4)]) (vs1 := [4]) (g := gName 3) (tt := tYes) (wi1 := iList K (tVar 2)) (g1 := gName 4) (tt1 := tYes) rfl nd (pi_listK (K := K) rfl (pv 1)) (blkOk_by (N := nPW) (sc := { kind := .function, names := [(".0", .local), ("others", .cell), ("min", .globalImplicit), ("ones", .cell), ("self", .cell)], isGenerator := false, isCoroutine := false }) (by decide +kernel)) (by decide)
              (fun _ _ _ _ _ => pg_name (i := 3) nd rfl (Or.inl rfl)) (fun _ _ _ _ _ => pts_nil) (fun _ _ _ _ _ => pi_listK (K := K) rfl (pv 2)) (fun _ _ _ _ _ => pg_name (i := 4) nd rfl (Or.inl rfl)) (fun _ _ _ _ _ => pts_nil)
              (fun _ _ _ _ _ => pe_meth (pv 0) T.cl mJ GJ hr bJ .nil pass0 (pa_cons (pv 3) (pa_cons (pv 4) pa_nil)))) pa_nil)))) rfl)
      (pss_one (ps_fld (pv 0) (pe_op op_sub (pe_fld (pv 0) rfl) pe_int) rfl)), ?_⟩
    have lx : xs.length = r.length + 1 := S.st.len
    refine ⟨fun σ' H' => ∃ lr' us, σ' = [some (.ref p), none, none, none, none] ∧ But p H H' ∧ H' p = some (.ins C dx (putF "_rest" (.ref lr') fs)) ∧ H' lr' = some (.lst us) ∧ TabA ss rl (n + 1) (r.length + 1) H' us, ?_, ?_⟩
    · refine ⟨.ref p, rfl, p, C, dx, fs, .ref ls, rfl, S.hp, T.cl, T.n2, S.f2, ls, rfl, ⟨_, SqL.of S.h2⟩, fun D hD => lc_list (K := K) (a := ls) (xs := xs) (fun i H2 => Same H H2 ∧ ∃ us, H2 D = some (.lst us) ∧ TabD ss rl (n + 1) (r.length + 1) i D H2 us) ⟨same_upd hD, [], upd_same, ⟨rfl, fun a x h => nomatch h⟩⟩ (fun i H2 _ z => SqL.of (z.1 _ _ S.h2)) ?_ ?_⟩
      · rintro a x H2 hx ⟨sm, us, hus, TD⟩
        have al : a ≤ r.length := by
          have := (List.getElem?_eq_some_iff.mp hx).1
          omega
        obtain ⟨ca, rfl, ys, hca, R⟩ := S.st.at_ a x _ hx (inSt_at al)
        obtain ⟨ra1, ra2⟩ := S.g.row al
        have lR := R.len
        refine ⟨rfl, .ref p, rfl, p, C, dx, fs, .ref ls, rfl, sm _ _ S.hp, T.cl, T.n2, S.f2, ls, rfl, ⟨_, SqL.of (sm _ _ S.h2)⟩, fun D2 hD2 => lc_list (K := K) (a := ls) (xs := xs) (fun j H3 => Same H2 H3 ∧ ∃ ws, H3 D2 = some (.lst ws) ∧ TrA ss rl (n + 1) a j H3 ws) ⟨same_upd hD2, [], upd_same, ⟨rfl, fun a x h => nomatch h⟩⟩ (fun j H3 _ z => SqL.of (z.1 _ _ (sm _ _ S.h2))) ?_ ?_⟩
        · rintro j y H3 hy ⟨sm3, ws, hws, TR⟩
          have jl : j ≤ r.length := by
            have := (List.getElem?_eq_some_iff.mp hy).1
            omega
          obtain ⟨cb, rfl, ys2, hcb, R2⟩ := S.st.at_ j y _ hy (inSt_at jl)
          obtain ⟨rb1, rb2⟩ := S.g.row jl
          have lR2 := R2.len
          have s3 : Same H H3 := sm.trans sm3
          refine ⟨rfl, .ref ca, rfl, ca, rfl, ⟨_, SqL.of (s3 _ _ hca)⟩, fun D3 hD3 => lc2_by (inSt b r a).length (fun i H4 => Same H3 H4 ∧ ∃ vs, H4 D3 = some (.lst vs) ∧ Als (fun _ _ => True) (inSt b r a) (inSt b r j) ss rl n i 0 H4 vs ∧ (1 ≤ i → vs ≠ []) ∧ vs.length ≤ i * 17) ?_ ?_ ?_ ?_ ?_⟩
          · exact ⟨same_upd hD3, [], upd_same, Als.nil, (fun z => by omega), Nat.zero_le _⟩
          · rintro H4 ⟨sm4, _⟩
            exact ⟨_, SqL.of (sm4 _ _ (s3 _ _ hca)), by omega⟩
          · rintro i H4 hi ⟨sm4, _⟩
            exact ⟨_, _, SqL.of (sm4 _ _ (s3 _ _ hca)), List.getElem?_eq_getElem (by omega)⟩
          · rintro i x H4 H5 hi ⟨sm4, vs, hvs, A4, ne, lv⟩ ⟨rfl, hxx⟩
            have hx2 := hxx ys (SqL.of (sm4 _ _ (s3 _ _ hca)))
            have ee : (inSt b r a)[i]? = some (inSt b r a)[i] := List.getElem?_eq_getElem hi
            have em := List.getElem_mem hi
            generalize (inSt b r a)[i] = e at ee em
            have ae := R.at_ i x e hx2 ee
            refine ⟨rfl, .ref cb, rfl, cb, rfl, ⟨_, SqL.of (sm4 _ _ (s3 _ _ hcb))⟩, lc2_in (inSt b r j).length (fun j2 H6 => Same H3 H6 ∧ ∃ vs, H6 D3 = some (.lst vs) ∧ Als (fun _ _ => True) (inSt b r a) (inSt b r j) ss rl n i j2 H6 vs ∧ (1 ≤ i → vs ≠ []) ∧ (1 ≤ j2 → vs ≠ []) ∧ vs.length ≤ i * 17 + j2) ?_ ?_ ?_ ?_ ?_⟩
            · exact ⟨sm4, vs, hvs, A4, ne, (fun z => by omega), lv⟩
            · rintro H6 ⟨sm6, _⟩
              exact ⟨_, SqL.of (sm6 _ _ (s3 _ _ hcb)), by omega⟩
            · rintro j2 H6 hj ⟨sm6, _⟩
              exact ⟨_, _, SqL.of (sm6 _ _ (s3 _ _ hcb)), List.getElem?_eq_getElem (by omega)⟩
            · rintro j2 y H6 H7 hj ⟨sm6, vs, hvs, A6, n1, n2, lv⟩ ⟨rfl, hz⟩
              have hy2 := hz ys2 (SqL.of (sm6 _ _ (s3 _ _ hcb)))
              have ef : (inSt b r j)[j2]? = some (inSt b r j)[j2] := List.getElem?_eq_getElem hj
              have fm := List.getElem_mem hj
              generalize (inSt b r j)[j2] = g at ef fm
              have ag := R2.at_ j2 y g hy2 ef
              have s6 : Same H H7 := s3.trans sm6
              have st : ∀ {x : V} {e : St}, StA H x e → StA H7 x e := fun ⟨t, z1, z2⟩ => ⟨t, z1, s6 _ _ z2⟩
              obtain ⟨k1, k2, _⟩ := S.g.kind al em
              obtain ⟨k3, k4, _⟩ := S.g.kind jl fm
              refine ⟨rfl, .ref p, rfl, p, dx, fs, rfl, s6 _ _ S.hp, S.m3, x, rfl, y, rfl, p, dx, fs, ss, high, n, ct, ls, lr, xs, zs, b, r, rl, x, y, e, g, rfl, S.same s6, by omega, st ae, st ag, k1, k3, k2, k4, fun v pw H8 s8 EPw PW => ⟨vs, s8 _ _ hvs, ?_, same_over (sm6.trans s8) hD3, vs ++ [v], upd_same, ?_, ?_, ?_, ?_⟩⟩
              · exact smallT (by omega)
              · exact ((A6.tps (Tps.same s8)).add ee ef trivial EPw PW).tps (tps_upd (s8 _ _ hvs))
              · intro _ z
                simp at z
              · intro _ z
                simp at z
              · rw [List.length_append]
                show vs.length + 1 ≤ _
                omega
            · rintro H6 ⟨sm6, vs, hvs, A6, n1, n2, lv⟩
              exact ⟨sm6, vs, hvs, A6.next, fun _ => n2 rb1, by omega⟩
          · rintro H4 ⟨sm4, vs, hvs, A4, ne, lv⟩
            show rMinD K [.ref D3] H4 (fun y H4 => ∃ acc, H4 D2 = some (.lst acc) ∧ acc.length < sizeLine ∧ Same H2 (upd H4 D2 (.lst (acc ++ [y]))) ∧ ∃ ws, upd H4 D2 (.lst (acc ++ [y])) D2 = some (.lst ws) ∧ TrA ss rl (n + 1) a (j + 1) (upd H4 D2 (.lst (acc ++ [y]))) ws)
            refine als_min hvs A4 (ne ra1) fun v pw a1 a2 => ⟨ws, sm4 _ _ hws, ?_, same_over (sm3.trans sm4) hD2, ws ++ [v], upd_same, ?_⟩
            · rw [TR.len]
              exact smallT (by have := S.r2; omega)
            · exact ((TR.same sm4).add a1 (a2.ep S.g al jl)).tps (tps_upd (sm4 _ _ hws))
        · rintro H3 ⟨sm3, ws, hws, TR⟩
          rw [lx] at TR
          have hus3 := sm3 _ _ hus
          have nDD : D2 ≠ D := (ne_of_none hus hD2).symm
          refine ⟨us, hus3, ?_, same_over (sm.trans sm3) hD, us ++ [.ref D2], upd_same, ((TD.same sm3).add nDD hws TR).upd hus3⟩
          rw [TD.len]
          exact smallT (by have := S.r2; omega)
      · rintro H2 ⟨sm, us, hus, TD⟩
        rw [lx] at TD
        have TA2 : TabA ss rl (n + 1) (r.length + 1) H2 us := ⟨TD.len, fun a x e => let ⟨c, ys, e1, _, e2, t⟩ := TD.at_ a x e; ⟨c, ys, e1, e2, t⟩⟩
        have lf := S.l4
        have hp2 := sm _ _ S.hp
        refine ⟨.ref p, rfl, p, C, dx, fs, rfl, hp2, T.cl, T.n4, by omega, D, us, rfl, fun b' o' e n => but_put _ _ (sm _ _ e) n, upd_same, put_l hp2 hus, TA2.lts (Lts.but but_put hp2)⟩
    rintro _ H1 ⟨lr', us, rfl, b1, hp1, hl1, TA1⟩
    have lk : ∀ (g : Str), g ≠ "_rest" → (putF "_rest" (V.ref lr') fs).lookup g = fs.lookup g := fun g hg => by
      rw [lookup_putF, if_neg hg]
    have lk2 : ∀ (v : V) (g : Str), g ≠ "_column" → (putF "_column" v (putF "_rest" (V.ref lr') fs)).lookup g = (putF "_rest" (V.ref lr') fs).lookup g := fun v g hg => by
      rw [lookup_putF, if_neg hg]
    have l1 : (putF "_rest" (V.ref lr') fs).length = fs.length := len_putF (by rw [S.f4]; exact fun z => nomatch z)
    have f3 : (putF "_rest" (V.ref lr') fs).lookup ("_column" : Str) = some (.int (-((n : Int) + 1))) := (lk _ (by decide +kernel)).trans S.f3
    have l2 : ∀ v, (putF "_column" v (putF "_rest" (V.ref lr') fs)).length = fs.length := fun v => (len_putF (by rw [f3]; exact fun z => nomatch z)).trans l1
    have l4 := S.l4
    have en : (-((n : Int) + 1) - 1) = -(((n + 1 : Nat) : Int) + 1) := by omega
    have bt : But p H (upd H1 p (.ins C dx (putF "_column" (.int (-((n : Int) + 1) - 1)) (putF "_rest" (V.ref lr') fs)))) := fun b' o' e n => but_put _ _ (b1 _ _ e n) n
    have lts := Lts.but bt S.hp
    refine ⟨.ref p, rfl, p, C, dx, _, .int (-((n : Int) + 1)), rfl, hp1, T.cl, T.n3, f3, _, 1, rfl, rfl, .ref p, rfl, p, C, dx, _, rfl, hp1, T.cl, T.n3, by omega, q _ lr' us _ bt ⟨upd_same, ?_, ?_, ?_, ?_, ?_, ?_, ?_, ?_, lts.1 _ _ S.h1, lts.1 _ _ S.h2, put_l hp1 hl1, S.st.lts lts, S.g, S.r2, TA1.lts (Lts.but but_put hp1)⟩⟩
    · exact (lk2 _ _ (by decide +kernel)).trans ((lk _ (by decide +kernel)).trans S.f1)
    · exact (lk2 _ _ (by decide +kernel)).trans ((lk _ (by decide +kernel)).trans S.f2)
    · rw [lookup_putF, if_pos rfl]
      show some (V.int (-((n : Int) + 1) - 1)) = _
      rw [en]
    · exact (lk2 _ _ (by decide +kernel)).trans (by rw [lookup_putF, if_pos rfl])
    · exact (lk2 _ _ (by decide +kernel)).trans ((lk _ (by decide +kernel)).trans S.m1)
    · exact (lk2 _ _ (by decide +kernel)).trans ((lk _ (by decide +kernel)).trans S.m2)
    · exact (lk2 _ _ (by decide +kernel)).trans ((lk _ (by decide +kernel)).trans S.m3)
    · rw [l2]
      exact l4
end
end Dt
namespace Dt
open PySem PySem.Spec PyProof.Rows L2 L2X
open PySem.W (AlikeAll)
open SX (S)
/-! ### pairs made -/
/-- rows of nothing but the farthest, none of them the list at D -/
structure TrF (N : Nat) (H : Hp) (ys : List V) : Prop where
  len : ys.length = N
  at_ : ∀ (b : Nat) (y : V), ys[b]? = some y → PwA H y (1000000, [])
theorem TrF.same {N : Nat} {H H' : Hp} {ys : List V} (h : TrF N H ys) (s : Same H H') : TrF N H' ys := ⟨h.len, fun b y e => (h.at_ b y e).same s⟩
theorem TrF.tps {N : Nat} {H H' : Hp} {ys : List V} (h : TrF N H ys) (s : Tps H H') : TrF N H' ys := ⟨h.len, fun b y e => (h.at_ b y e).tps s⟩
theorem TrF.add {m : Nat} {H : Hp} {ys : List V} {v : V} (h : TrF m H ys) (A : PwA H v (1000000, [])) : TrF (m + 1) H (ys ++ [v]) := by
  have hl := h.len
  refine ⟨by rw [List.length_append, hl]; rfl, fun b y hy => ?_⟩
  by_cases q : b < ys.length
  · rw [List.getElem?_append_left q] at hy
    exact h.at_ b y hy
  · rw [List.getElem?_append_right (by omega)] at hy
    have h1 : b - ys.length < 1 := (List.getElem?_eq_some_iff.mp hy).1
    rw [show b - ys.length = 0 by omega] at hy
    cases hy
    exact A
structure TabF (N m : Nat) (D : Addr) (H : Hp) (us : List V) : Prop where
  len : us.length = m
  at_ : ∀ (a : Nat) (x : V), us[a]? = some x → ∃ c ys, x = .ref c ∧ c ≠ D ∧ H c = some (.lst ys) ∧ TrF N H ys
theorem TabF.same {N m : Nat} {D : Addr} {H H' : Hp} {us : List V} (h : TabF N m D H us) (s : Same H H') : TabF N m D H' us :=
  ⟨h.len, fun a x e => let ⟨c, ys, e1, n, e2, t⟩ := h.at_ a x e; ⟨c, ys, e1, n, s _ _ e2, t.same s⟩⟩
theorem TabF.upd {N m : Nat} {D : Addr} {H : Hp} {us z : List V} {o : HO} (h : TabF N m D H us) (hD : H D = some (.lst z)) : TabF N m D (upd H D o) us :=
  ⟨h.len, fun a x e => let ⟨c, ys, e1, n, e2, t⟩ := h.at_ a x e; ⟨c, ys, e1, n, by rw [upd_ne n]; exact e2, t.tps (tps_upd hD)⟩⟩
theorem TabF.add {N m : Nat} {D c : Addr} {H : Hp} {us ys : List V} (h : TabF N m D H us) (nc : c ≠ D) (hc : H c = some (.lst ys)) (t : TrF N H ys) : TabF N (m + 1) D H (us ++ [.ref c]) := by
  have hl := h.len
  refine ⟨by rw [List.length_append, hl]; rfl, fun a x e => ?_⟩
  by_cases q : a < us.length
  · rw [List.getElem?_append_left q] at e
    exact h.at_ a x e
  · rw [List.getElem?_append_right (by omega)] at e
    have h1 : a - us.length < 1 := (List.getElem?_eq_some_iff.mp e).1
    rw [show a - us.length = 0 by omega] at e
    cases e
    exact ⟨c, ys, rfl, nc, hc, t⟩
abbrev sPI : Stmt := inClass cPr 0
abbrev nPI : List Str := ["self", "alphabet", "_"]
theorem scPI : FnScope nPI ["self", "alphabet"] (defScope sPI) := ⟨rfl, rfl, rfl, by decide +kernel, rfl, by decide +kernel, by decide +kernel⟩
def spPI (K : PySem.W.Frag) (C CA : Addr) : Sp := fun vs H Q _ => ∃ (p dx o : Addr) (high : Nat) (ss : List Sh), vs = [.ref p, .ref o] ∧ H p = some (.ins C dx []) ∧ AlpG CA H o high ss ∧ o ≠ p ∧ high ≤ 9 ∧
  ∀ (fs : List (Str × V)) (ct ls lr : Addr) (xs zs : List V) (b : List St) (r : List (List St)) (rl : List (List Nat)) (H' : Hp), But p H H' → PrS C H' p dx fs ss high 0 ct ls lr xs zs b r rl → Q .non H'
section
variable {P : Program} {w : World} {K : PySem.W.Frag} {mg : Str → Option Value} {base : Heap} {C CA : Addr}
theorem ok_pi {f : Addr} {fd : FuncData} {k : Nat} (F : Fun K "__init__" "Pairs.__init__" sPI f fd) (T : Tpr K mg C) (TA : Tal K mg CA) (mf : ∃ t, mg "FAR_parting" = some (.int 1000000 t)) (GH : Mm P w K mg base (k + 1) CA "high" ["self"] (spAH CA)) (GC : Pm P w K mg base CX0 (k + 1) "dot_counts" ["high"] spDC) (GS : Pm P w K mg base CX0 (k + 1) "_steps" ["alphabet"] (spSps CA)) :
    FnOk P w K mg base CX0 (k + 2) f fd ["self", "alphabet"] (spPI K C CA) := by
  obtain ⟨fH, fdH, GH, mH, bH⟩ := GH.ex
  obtain ⟨fC, fdC, GC, mC, kC, bC⟩ := GC.ex
  obtain ⟨fS, fdS, GS, mS, kS, bS⟩ := GS.ex
  obtain ⟨tf, mf⟩ := mf
  refine F.ok scPI (fun vs H Q E h => ?_) (fun cdv A outer s H vs Q E hr h => ?_)
  · obtain ⟨_, _, _, _, _, rfl, _⟩ := h
    rfl
  · obtain ⟨p, dx, o, high, ss, rfl, hp, al, op, h9, q⟩ := h
    have nd := scPI.nd
    refine ⟨_, C8.pss_cut (ps_fld (pv 0) (pe_call GC hr (by rfl) mC kC bC .nil pass0 (pa_cons (pe_meth0 (pv 1) TA.cl mH GH hr bH .nil pass0) pa_nil)) rfl)
      (C8.pss_cut (ps_fld (pv 0) (pe_call GS hr (by rfl) mS kS bS .nil pass0 (pa_cons (pv 1) pa_nil)) rfl)
      (pss_cons (ps_fld (pv 0) (pe_un un_neg pe_int) rfl)
      (C8.pss_cut (ps_fld (pv 0) (pe_lc (own := [("_", 2)]) (g := gName 2) (tt := tYes) rfl nd (pi_list (pe_fld (pv 0) rfl)) (blkOk_by (N := nPI) (sc := defScope sPI) (by decide +kernel)) (fun _ _ _ _ _ => pg_name (i := 2) nd rfl (Or.inl rfl)) (fun _ _ _ _ _ => pts_nil)
          (fun _ _ _ _ _ => pe_lc (own := [("_", 2)]) (g := gName 2) (tt := tYes) rfl nd (pi_listK (K := K) rfl (pe_fldK (K := K) rfl (pv 0) rfl)) (blkOk_by (N := nPI) (sc := { kind := .function, names := [(".0", .local), ("_", .local), ("self", .cell)], isGenerator := false, isCoroutine := false }) (by decide +kernel)) (fun _ _ _ _ _ => pg_name (i := 2) nd rfl (Or.inl rfl)) (fun _ _ _ _ _ => pts_nil)
            (fun _ _ _ _ _ => pe_tup (pa_cons (pe_glob (v := .int 1000000) (by rfl) mf ⟨_, rfl⟩) (pa_cons (pe_tup pa_nil) pa_nil))))) rfl)
      (pss_one (ps_asg (pe_tup (pa_cons pe_int (pa_cons (pe_tup pa_nil) pa_nil))) (pg_sub (pe_ix (r := rIxL K) ix_list (pe_fld (pv 0) rfl) pe_int (fun _ _ => rfl)) pe_int set_list)))))), ?_⟩
    -- the counts
    refine ⟨fun σ' H' => ∃ ct, σ' = [some (.ref p), some (.ref o), none] ∧ But p H H' ∧ H' p = some (.ins C dx [("_counts", .ref ct)]) ∧ H' ct = some (.lst ((cntL high).map iv)), ?_, ?_⟩
    · obtain ⟨dx', t, ys0, ho, hts, Ss⟩ := id al.al
      refine ⟨.ref o, rfl, o, dx', _, rfl, ho, aF_no _ _ (by decide +kernel) (by decide +kernel), o, high, ss, rfl, al.al, high, rfl, h9, fun ct H1 s1 nct hct => ⟨.ref p, rfl, p, C, dx, [], rfl, s1 _ _ hp, T.cl, T.n1, by decide, ct, rfl, fun b' o' e n => but_put _ _ (s1 _ _ e) n, upd_same, put_l (s1 _ _ hp) hct⟩⟩
    rintro _ H1 ⟨ct, rfl, b1, hp1, hct1⟩
    -- the steps
    refine ⟨fun σ' H' => ∃ ls xs b r rl, σ' = [some (.ref p), some (.ref o), none] ∧ But p H H' ∧ H' p = some (.ins C dx [("_counts", .ref ct), ("_steps", .ref ls)]) ∧ H' ct = some (.lst ((cntL high).map iv)) ∧ H' ls = some (.lst xs) ∧ StpS H' xs (b :: r) ∧ GSt ss high ss.length b r rl ∧ r.length ≤ 2000, ?_, ?_⟩
    · refine ⟨.ref o, rfl, o, high, ss, rfl, al.but b1 op hp, fun ls xs b r rl H2 s2 nls hls St G r2 => ⟨.ref p, rfl, p, C, dx, _, rfl, s2 _ _ hp1, T.cl, T.n2, (by show 1 < 1000; decide), ls, xs, b, r, rl, rfl, fun b' o' e n => but_put _ _ (s2 _ _ (b1 _ _ e n)) n, upd_same, put_l (s2 _ _ hp1) (s2 _ _ hct1), put_l (s2 _ _ hp1) hls, St.lts (Lts.but but_put (s2 _ _ hp1)), G, r2⟩⟩
    rintro _ H2 ⟨ls, xs, b, r, rl, rfl, b2, hp2, hct2, hls2, St2, G, r2⟩
    have lx : xs.length = r.length + 1 := St2.len
    -- the column
    refine ⟨_, rfl, .ref p, rfl, p, C, dx, _, rfl, hp2, T.cl, T.n3, (by show 2 < 1000; decide), ?_⟩
    have hp3 : (upd H2 p (.ins C dx (putF "_column" (.int (-1)) [("_counts", .ref ct), ("_steps", .ref ls)]))) p = some (.ins C dx [("_counts", .ref ct), ("_steps", .ref ls), ("_column", .int (-1))]) := upd_same
    have l23 : Lts H2 (upd H2 p (.ins C dx (putF "_column" (.int (-1)) [("_counts", .ref ct), ("_steps", .ref ls)]))) := Lts.but but_put hp2
    have b3 : But p H (upd H2 p (.ins C dx (putF "_column" (.int (-1)) [("_counts", .ref ct), ("_steps", .ref ls)]))) := fun b' o' e n => but_put _ _ (b2 _ _ e n) n
    show C8.tCut _ _ _ _ (upd H2 p (.ins C dx (putF "_column" (.int (-1)) [("_counts", .ref ct), ("_steps", .ref ls)])))
    generalize upd H2 p (.ins C dx (putF "_column" (.int (-1)) [("_counts", .ref ct), ("_steps", .ref ls)])) = H3 at hp3 l23 b3
    have hct3 := l23.1 _ _ hct2
    have hls3 := l23.1 _ _ hls2
    have St3 := St2.lts l23
    -- the rows
    refine ⟨fun σ' H' => ∃ D us, σ' = [some (.ref p), some (.ref o), none] ∧ But p H H' ∧ H' p = some (.ins C dx [("_counts", .ref ct), ("_steps", .ref ls), ("_column", .int (-1)), ("_rest", .ref D)]) ∧ But p H3 H' ∧ H' D = some (.lst us) ∧ TabF (r.length + 1) (r.length + 1) D H' us ∧ us.Nodup ∧ ∀ y ∈ us, ∃ c, y = .ref c ∧ H3 c = none, ?_, ?_⟩
    · refine ⟨.ref p, rfl, p, C, dx, _, .ref ls, rfl, hp3, T.cl, T.n2, rfl, ls, rfl, ⟨_, SqL.of hls3⟩, fun D hD => lc_list (K := K) (a := ls) (xs := xs) (fun i H4 => Same H3 H4 ∧ ∃ us, H4 D = some (.lst us) ∧ TabF (r.length + 1) i D H4 us ∧ us.Nodup ∧ ∀ y ∈ us, ∃ c, y = .ref c ∧ H3 c = none) ⟨same_upd hD, [], upd_same, ⟨rfl, fun a x h => nomatch h⟩, List.nodup_nil, fun y h => nomatch h⟩ (fun i H2 _ z => SqL.of (z.1 _ _ hls3)) ?_ ?_⟩
      · rintro a x H4 hx ⟨sm, us, hus, TD, nd4, fr⟩
        have al' : a ≤ r.length := by
          have := (List.getElem?_eq_some_iff.mp hx).1
          omega
        refine ⟨rfl, .ref p, rfl, p, C, dx, _, .ref ls, rfl, sm _ _ hp3, T.cl, T.n2, rfl, ls, rfl, ⟨_, SqL.of (sm _ _ hls3)⟩, fun D2 hD2 => lc_list (K := K) (a := ls) (xs := xs) (fun j H5 => Same H4 H5 ∧ ∃ ws, H5 D2 = some (.lst ws) ∧ TrF j H5 ws) ⟨same_upd hD2, [], upd_same, ⟨rfl, fun a x h => nomatch h⟩⟩ (fun j H5 _ z => SqL.of (z.1 _ _ (sm _ _ hls3))) ?_ ?_⟩
        · rintro j y H5 hy ⟨sm5, ws, hws, TR⟩
          refine ⟨rfl, by show 0 ≤ sizeLine; decide, fun e he => ⟨by show 2 ≤ sizeLine; decide, fun t ht => ⟨ws, ?_, ?_, ?_, ws ++ [.ref t], upd_same, ?_⟩⟩⟩
          all_goals have sA := (same_upd (o := .tup []) he).trans (same_upd (o := .tup [V.int 1000000, V.ref e]) ht)
          · exact sA _ _ hws
          · rw [TR.len]
            exact smallT (by have := (List.getElem?_eq_some_iff.mp hy).1; omega)
          · exact same_over (sm5.trans sA) hD2
          · have PA : PwA (upd (upd H5 e (.tup [])) t (.tup [V.int 1000000, V.ref e])) (.ref t) (1000000, []) := ⟨t, e, [], rfl, upd_same, same_upd ht _ _ upd_same, WnA.nil⟩
            exact ((TR.same sA).add PA).tps (tps_upd (sA _ _ hws))
        · rintro H5 ⟨sm5, ws, hws, TR⟩
          rw [lx] at TR
          have hus5 := sm5 _ _ hus
          have nDD : D2 ≠ D := (ne_of_none hus hD2).symm
          refine ⟨us, hus5, ?_, same_over (sm.trans sm5) hD, us ++ [.ref D2], upd_same, ((TD.same sm5).add nDD hws TR).upd hus5, ?_, ?_⟩
          · rw [TD.len]
            exact smallT (by omega)
          · rw [List.nodup_append]
            refine ⟨nd4, List.nodup_cons.mpr ⟨List.not_mem_nil, List.nodup_nil⟩, fun y hy z hz e => ?_⟩
            rw [List.mem_singleton.mp hz] at e
            obtain ⟨i, hi⟩ := List.mem_iff_getElem?.mp hy
            obtain ⟨c, ys, e1, _, e2, _⟩ := TD.at_ i y hi
            rw [e1] at e
            cases e
            rw [e2] at hD2
            cases hD2
          · intro y hy
            rcases List.mem_append.mp hy with z | z
            · exact fr y z
            · exact ⟨D2, List.mem_singleton.mp z, sm.free hD2⟩
      · rintro H4 ⟨sm, us, hus, TD, nd4, fr⟩
        rw [lx] at TD
        have hp4 := sm _ _ hp3
        have lB := Lts.but (p := p) (H := H4) (H' := upd H4 p (.ins C dx (putF "_rest" (.ref D) [("_counts", .ref ct), ("_steps", .ref ls), ("_column", .int (-1))]))) but_put hp4
        refine ⟨.ref p, rfl, p, C, dx, _, rfl, hp4, T.cl, T.n4, (by show 3 < 1000; decide), D, us, rfl, fun b' o' e n => but_put _ _ (sm _ _ (b3 _ _ e n)) n, upd_same, fun b' o' e n => but_put _ _ (sm _ _ e) n, lB.1 _ _ hus, ⟨TD.len, fun a x e => ?_⟩, nd4, fr⟩
        obtain ⟨c, ys, e1, n, e2, t⟩ := TD.at_ a x e
        exact ⟨c, ys, e1, n, lB.1 _ _ e2, t.tps lB.2⟩
    rintro _ H4 ⟨D, us, rfl, b4, hp4, b34, hus, TD, nd4, fr⟩
    have lu := TD.len
    have e0 : us[0]? = some (us[0]'(by omega)) := List.getElem?_eq_getElem (by omega)
    obtain ⟨c0, ws, ec, n0, hc0, T0⟩ := TD.at_ 0 _ e0
    rw [ec] at e0
    have lw := T0.len
    refine ⟨by show 0 ≤ sizeLine; decide, fun e he => ⟨by show 2 ≤ sizeLine; decide, fun t ht => ?_⟩⟩
    have s45 := (same_upd (o := .tup []) he).trans (same_upd (o := .tup [V.int 0, V.ref e]) ht)
    have PA : PwA (upd (upd H4 e (.tup [])) t (.tup [V.int 0, V.ref e])) (.ref t) (0, []) := ⟨t, e, [], rfl, upd_same, same_upd ht _ _ upd_same, WnA.nil⟩
    generalize upd (upd H4 e (.tup [])) t (.tup [V.int 0, V.ref e]) = H5 at s45 PA
    have hc5 := s45 _ _ hc0
    have hp5 := s45 _ _ hp4
    have us5 := s45 _ _ hus
    refine ⟨.ref p, rfl, p, C, dx, _, .ref D, rfl, hp5, T.cl, T.n4, rfl, D, us, 0, .ref c0, rfl, rfl, SqL.of us5, atI_nat (j := 0) e0, c0, ws, 0, 0, rfl, rfl, hc5, ixN_of (j := 0) (by omega), ?_⟩
    have tp := tps_upd (o := .lst (ws.set 0 (.ref t))) hc5
    have keepL : ∀ a zs, a ≠ c0 → H5 a = some (.lst zs) → (upd H5 c0 (.lst (ws.set 0 (.ref t)))) a = some (.lst zs) := fun a zs n e => by
      rw [upd_ne n]
      exact e
    have np : p ≠ c0 := fun z => by
      rw [z, hc5] at hp5
      cases hp5
    obtain ⟨c0', ec0, f0⟩ := fr _ (List.mem_of_getElem? e0)
    cases ec0
    have b36 : But p H3 (upd H5 c0 (.lst (ws.set 0 (.ref t)))) := fun b' o' e n => by
      rw [upd_ne (ne_of_none e f0)]
      exact s45 _ _ (b34 _ _ e n)
    have l36 := Lts.but b36 hp3
    refine q [("_counts", .ref ct), ("_steps", .ref ls), ("_column", .int (-1)), ("_rest", .ref D)] ct ls D xs us b r rl _ (fun b' o' e n => b36 _ _ (b3 _ _ e n) n) ⟨?_, rfl, rfl, rfl, rfl, rfl, rfl, rfl, (by show 4 ≤ 8; decide), l36.1 _ _ hct3, l36.1 _ _ hls3, keepL _ _ n0.symm us5, St3.lts l36, G, r2, ⟨lu, fun a x hx => ?_⟩⟩
    · rw [upd_ne np]
      exact hp5
    · obtain ⟨c, ys, e1, nc, e2, TR⟩ := TD.at_ a x hx
      by_cases ca : c = c0
      · subst ca
        have a0 : a = 0 := by
          rw [e1] at hx
          exact (List.getElem?_inj (List.getElem?_eq_some_iff.mp hx).1 nd4).mp (hx.trans e0.symm)
        subst a0
        rw [hc0] at e2
        cases e2
        refine ⟨c, _, e1, upd_same, by rw [List.length_set]; exact lw, fun b' y hy => ?_⟩
        by_cases b0 : b' = 0
        · subst b0
          rw [List.getElem?_set_self (by omega)] at hy
          cases hy
          exact ⟨(0, []), PA.tps tp, EP.zero⟩
        · rw [List.getElem?_set_ne (by omega)] at hy
          have lb := (List.getElem?_eq_some_iff.mp hy).1
          exact ⟨_, ((T0.at_ b' y hy).same s45).tps tp, EP.far G (Nat.zero_le _) (by omega) (by omega) (Nat.le_refl _)⟩
      · have la := (List.getElem?_eq_some_iff.mp hx).1
        have lr := TR.len
        have na : a ≠ 0 := fun z => by
          subst z
          rw [e0] at hx
          cases hx
          cases e1
          exact ca rfl
        have TS := (TR.same s45).tps tp
        exact ⟨c, ys, e1, keepL _ _ ca (s45 _ _ e2), lr, fun b' y hy => ⟨_, TS.at_ b' y hy, EP.far G (by omega) (by have := (List.getElem?_eq_some_iff.mp hy).1; omega) (by omega) (Nat.le_refl _)⟩⟩
end
end Dt
namespace Dt
open PySem PySem.Spec PyProof.Rows L2 L2X
open SX (S)
/-! ### all ways of the law, and what each of them costs -/
def Fw (ss : List Sh) (wide : Nat) : Nat → List (Nat × Nat) → Prop
  | _, [] => True
  | e, p :: w => e ≤ p.1 ∧ p.2 < ss.length ∧ p.1 + wdt ss p.2 ≤ wide ∧ Fw ss wide (p.1 + wdt ss p.2) w
theorem Fw.le {ss : List Sh} {wide e f : Nat} (h : e ≤ f) : ∀ {w : List (Nat × Nat)}, Fw ss wide f w → Fw ss wide e w
  | [], _ => trivial
  | _ :: _, ⟨a, b⟩ => ⟨Nat.le_trans h a, b⟩
theorem tabY_fw {ss : List Sh} {wide : Nat} (h1 : ∀ k, k < ss.length → 1 ≤ wdt ss k) : ∀ n, n ≤ wide → ∀ j, j ≤ n → ∀ w ∈ (tabY ss wide n).getD j [], Fw ss wide (wide - n + j) w
  | 0, _, j, hj, w, hw => by
    obtain rfl : j = 0 := by omega
    rw [show w = [] from List.mem_singleton.mp hw]
    trivial
  | n + 1, hn, 0, _, w, hw => by
    have hw : w ∈ stepY ss wide (wide - (n + 1)) (tabY ss wide n) := hw
    rcases List.mem_append.mp hw with hw | hw
    · exact (tabY_fw h1 n (by omega) 0 (Nat.zero_le _) w hw).le (by omega)
    · obtain ⟨l, hl, hw⟩ := List.mem_flatten.mp hw
      obtain ⟨k, hk, rfl⟩ := List.mem_map.mp hl
      obtain ⟨v, hv, rfl⟩ := List.mem_map.mp hw
      obtain ⟨a, b⟩ := fitN_mem hk
      have := h1 k a
      refine ⟨by show _ ≤ wide - (n + 1); omega, a, b, ?_⟩
      exact (tabY_fw h1 n (by omega) (wdt ss k - 1) (by omega) v hv).le (by show wide - (n + 1) + wdt ss k ≤ _; omega)
  | n + 1, hn, j + 1, hj, w, hw => (tabY_fw h1 n (by omega) j (by omega) w hw).le (by omega)
theorem Fw.at_ {ss : List Sh} {wide : Nat} : ∀ {e : Nat} {w : List (Nat × Nat)}, Fw ss wide e w → ∀ (i : Nat) (p : Nat × Nat), w[i]? = some p → p.2 < ss.length ∧ p.1 + wdt ss p.2 ≤ wide ∧ (i = 0 → e ≤ p.1) ∧ ∀ j q, i = j + 1 → w[j]? = some q → q.1 + wdt ss q.2 ≤ p.1
  | _, [], _, i, p, h => by simp at h
  | e, p :: w, ⟨a, b, c, d⟩, 0, q, h => by
    cases h
    exact ⟨b, c, fun _ => a, fun j q z => by cases z⟩
  | e, p :: w, ⟨a, b, c, d⟩, i + 1, q, h => by
    obtain ⟨x1, x2, x3, x4⟩ := d.at_ i q h
    refine ⟨x1, x2, (fun z => by cases z), fun j r hj hr => ?_⟩
    obtain rfl : i = j := by omega
    cases i with
    | zero =>
      cases hr
      exact x3 rfl
    | succ i => exact x4 i r rfl hr
theorem Fw.way {ss : List Sh} {wide e : Nat} {w : List (Nat × Nat)} (h : Fw ss wide e w) : WayOk ss wide w := fun i p hp => by
  obtain ⟨a, b, c, d⟩ := h.at_ i p hp
  refine ⟨a, ?_, b⟩
  cases i with
  | zero => exact Nat.zero_le _
  | succ i =>
    have hi : i < w.length := by
      have := (List.getElem?_eq_some_iff.mp hp).1
      omega
    rw [edge_at (List.getElem?_eq_getElem hi)]
    exact d i _ rfl (List.getElem?_eq_getElem hi)
theorem fold_low {ss : List Sh} {wide r c : Nat} : ∀ {e : Nat} {w : List (Nat × Nat)} (a : Nat), Fw ss wide e w → c < e → w.foldl (pixS ss r c) a = a
  | _, [], _, _, _ => rfl
  | e, p :: w, a, ⟨h1, h2, h3, h4⟩, hc => by
    rw [List.foldl_cons]
    have e0 : pixS ss r c a p = a := by
      unfold pixS
      rw [if_neg (by omega)]
    rw [e0]
    exact fold_low a h4 (by omega)
theorem pix_cons {ss : List Sh} {wide r c e : Nat} {p : Nat × Nat} {w : List (Nat × Nat)} (h : Fw ss wide e (p :: w)) : pix ss (p :: w) r c = if p.1 ≤ c ∧ c < p.1 + wdt ss p.2 then (rowAt ss p.2 r).getD (c - p.1) 0 else pix ss w r c := by
  obtain ⟨h1, h2, h3, h4⟩ := h
  unfold pix
  rw [List.foldl_cons]
  unfold pixS
  by_cases hc : p.1 ≤ c ∧ c < p.1 + wdt ss p.2
  · rw [if_pos hc, if_pos hc]
    exact fold_low _ h4 hc.2
  · rw [if_neg hc, if_neg hc]
theorem zip_mis (c : Nat) : ∀ (rs : List (List Nat)) (m : List Nat), ((rs.zip m).filter fun q => decide (q.1.getD c 0 ≠ q.2)).length = misZ m (rs.map fun l => l.getD c 0)
  | [], m => by
    unfold misZ
    simp
  | _ :: _, [] => by
    unfold misZ
    simp
  | l :: rs, x :: m => by
    have ih := zip_mis c rs m
    unfold misZ at ih ⊢
    rw [List.map_cons, List.zip_cons_cons, List.zip_cons_cons]
    by_cases e : l.getD c 0 = x
    · rw [List.filter_cons_of_neg (by simpa using e), List.filter_cons_of_neg (by simpa using e.symm)]
      exact ih
    · rw [List.filter_cons_of_pos (by simpa using e), List.filter_cons_of_pos (by simpa using fun z => e z.symm), List.length_cons, List.length_cons, ih]
theorem mis46 : ∀ (l : List Nat), (∀ c ∈ l, c = 35 ∨ c = 46) → misZ l (List.replicate l.length 46) = cnt35 l
  | [], _ => rfl
  | x :: l, h => by
    have ih := mis46 l fun c hc => h c (List.mem_cons_of_mem _ hc)
    have hx := h x List.mem_cons_self
    unfold misZ cnt35 at ih ⊢
    rw [List.length_cons, List.replicate_succ, List.zip_cons_cons]
    rcases hx with rfl | rfl
    · rw [List.filter_cons_of_pos (by decide), List.filter_cons_of_pos (by decide), List.length_cons, List.length_cons, ih]
    · rw [List.filter_cons_of_neg (by decide), List.filter_cons_of_neg (by decide)]
      exact ih
theorem sum_win (f : Nat → Int) (a w : Nat) : ∀ n, ((List.range n).map fun c => if a ≤ c ∧ c < a + w then f (c - a) else 0).sum = ((List.range (min w (n - a))).map f).sum
  | 0 => by simp
  | n + 1 => by
    rw [List.range_succ, List.map_append, List.sum_append, sum_win f a w n]
    show _ + ((if a ≤ n ∧ n < a + w then f (n - a) else 0) + 0) = _
    by_cases h : a ≤ n ∧ n < a + w
    · rw [if_pos h]
      have e1 : min w (n - a) = n - a := by omega
      have e2 : min w (n + 1 - a) = (n - a) + 1 := by omega
      rw [e1, e2, List.range_succ, List.map_append, List.sum_append]
      show _ = _ + (f (n - a) + 0)
      rfl
    · rw [if_neg h]
      have e2 : min w (n + 1 - a) = min w (n - a) := by omega
      rw [e2]
      omega
theorem sum_addZ {α : Type} (f g : α → Int) : ∀ l : List α, (l.map fun x => f x + g x).sum = (l.map f).sum + (l.map g).sum
  | [] => rfl
  | x :: l => by
    rw [List.map_cons, List.map_cons, List.map_cons, List.sum_cons, List.sum_cons, List.sum_cons, sum_addZ f g l]
    omega
theorem col_win {ss : List Sh} {rs : List (List Nat)} {high wide c e : Nat} {p : Nat × Nat} {w : List (Nat × Nat)} (pr : ∀ s ∈ ss, PicR high s.w s.rs) (pl : PicR high wide rs) (h : Fw ss wide e (p :: w)) (hc : c < wide) :
    (colD rs ss high (p :: w) c : Int) = (colD rs ss high w c : Int) + if p.1 ≤ c ∧ c < p.1 + wdt ss p.2 then wgt ss rs p.1 p.2 (c - p.1) else 0 := by
  by_cases hw : p.1 ≤ c ∧ c < p.1 + wdt ss p.2
  · rw [if_pos hw]
    have hps : p.2 < ss.length := h.2.1
    have es : ss[p.2]? = some ss[p.2] := List.getElem?_eq_getElem hps
    have ps := pr ss[p.2] (List.getElem_mem h.2.1)
    generalize ss[p.2] = s at es ps
    have ra : ∀ r, rowAt ss p.2 r = s.rs.getD r [] := fun r => rowAt_at es
    have rows : ((List.range high).map fun r => pix ss (p :: w) r c) = colAt s.rs (c - p.1) := by
      unfold colAt
      apply List.ext_getElem?
      intro r
      by_cases hr : r < high
      · rw [List.getElem?_map, List.getElem?_map, List.getElem?_range hr, List.getElem?_eq_getElem (by rw [ps.len]; exact hr)]
        show some (pix ss (p :: w) r c) = some _
        rw [pix_cons h, if_pos hw, ra r, List.getD_eq_getElem?_getD (l := s.rs), List.getElem?_eq_getElem (by rw [ps.len]; exact hr)]
        rfl
      · rw [List.getElem?_eq_none (by rw [List.length_map, List.length_range]; omega), List.getElem?_eq_none (by rw [List.length_map, ps.len]; omega)]
    have low : ((List.range high).map fun r => pix ss w r c) = List.replicate high 46 := by
      apply List.ext_getElem?
      intro r
      by_cases hr : r < high
      · rw [List.getElem?_map, List.getElem?_range hr, List.getElem?_replicate, if_pos hr]
        show some (pix ss w r c) = some 46
        rw [show pix ss w r c = 46 from fold_low 46 h.2.2.2 hw.2]
      · rw [List.getElem?_eq_none (by rw [List.length_map, List.length_range]; omega), List.getElem?_eq_none (by rw [List.length_replicate]; omega)]
    have e1 : colD rs ss high (p :: w) c = misZ (colAt s.rs (c - p.1)) (colAt rs c) := by
      have a := col_dif (f := pix ss (p :: w)) (c := c) pl.rows
      rw [rows, zip_mis] at a
      exact a.symm
    have e2 : colD rs ss high w c = cnt35 (colAt rs c) := by
      have a := col_dif (f := pix ss w) (c := c) pl.rows
      rw [low, zip_mis] at a
      have sw : ∀ l m : List Nat, misZ l m = misZ m l := fun l => by
        induction l with
        | nil => intro m; unfold misZ; simp
        | cons x l ih =>
          intro m
          cases m with
          | nil => unfold misZ; simp
          | cons y m =>
            have := ih m
            unfold misZ at this ⊢
            rw [List.zip_cons_cons, List.zip_cons_cons]
            by_cases e : x = y
            · rw [List.filter_cons_of_neg (by simpa using e), List.filter_cons_of_neg (by simpa using e.symm), this]
            · rw [List.filter_cons_of_pos (by simpa using e), List.filter_cons_of_pos (by simpa using fun z => e z.symm), List.length_cons, List.length_cons, this]
      rw [sw] at a
      have b := mis46 (colAt rs c) (colAt_sg pl hc)
      rw [colAt_len pl] at b
      exact a.symm.trans b
    rw [e1, e2]
    have ew : wgt ss rs p.1 p.2 (c - p.1) = (misZ (colAt s.rs (c - p.1)) (colAt rs c) : Int) - (cnt35 (colAt rs c) : Int) := by
      unfold wgt
      rw [es]
      show (misZ _ (colAt rs (p.1 + (c - p.1))) : Int) - (cnt35 (colAt rs (p.1 + (c - p.1))) : Int) = _
      rw [show p.1 + (c - p.1) = c by omega]
    rw [ew]
    omega
  · rw [if_neg hw, Int.add_zero]
    have e : colD rs ss high (p :: w) c = colD rs ss high w c := by
      unfold colD
      congr 1
      apply List.map_congr_left
      intro r _
      unfold dif
      rw [pix_cons h, if_neg hw]
    rw [e]
theorem tot_way {ss : List Sh} {rs : List (List Nat)} {high wide : Nat} (pr : ∀ s ∈ ss, PicR high s.w s.rs) (pl : PicR high wide rs) : ∀ {e : Nat} {w : List (Nat × Nat)}, Fw ss wide e w →
    ((List.range wide).map fun c => (colD rs ss high w c : Int)).sum = ((List.range wide).map fun c => (colD rs ss high [] c : Int)).sum + cW ss rs w
  | _, [], _ => by
    rw [show cW ss rs [] = 0 from rfl]
    omega
  | e, p :: w, h => by
    have e1 : ((List.range wide).map fun c => (colD rs ss high (p :: w) c : Int)) = (List.range wide).map fun c => (colD rs ss high w c : Int) + if p.1 ≤ c ∧ c < p.1 + wdt ss p.2 then wgt ss rs p.1 p.2 (c - p.1) else 0 := by
      apply List.map_congr_left
      intro c hc
      exact col_win pr pl h (List.mem_range.mp hc)
    rw [e1, sum_addZ, tot_way pr pl h.2.2.2, sum_win (wgt ss rs p.1 p.2), cW_cons]
    have h3 := h.2.2.1
    rw [show min (wdt ss p.2) (wide - p.1) = wdt ss p.2 by omega]
    unfold moreZ
    omega
theorem cost_way {ss : List Sh} {rs : List (List Nat)} {high wide e : Nat} {w : List (Nat × Nat)} (pr : ∀ s ∈ ss, PicR high s.w s.rs) (pl : PicR high wide rs) (h : Fw ss wide e w) : misP rs (drawR ss high wide w) = (whiteN rs : Int) + cW ss rs w := by
  have m : ∀ v, misP rs (drawR ss high wide v) = ((List.range wide).map fun c => (colD rs ss high v c : Int)).sum := fun v => by
    have a := misP_pix (f := pix ss v) pl.rows
    refine a.trans ?_
    exact (cast_sum _ _).symm
  rw [m, tot_way pr pl h, ← m []]
  congr 1
  unfold misP whiteN drawR
  have hl := pl.len
  have key : ∀ (n : Nat) (l : List (List Nat)), l.length = n → (∀ x ∈ l, RowR wide x) → ((l.zip ((List.range n).map fun r => (List.range wide).map (pix ss [] r))).map fun p => (misZ p.1 p.2 : Int)).sum = ((l.map cnt35).sum : Int) := fun n l hn hr => by
    have er : ((List.range n).map fun r => (List.range wide).map (pix ss [] r)) = List.replicate n (List.replicate wide 46) := by
      apply List.ext_getElem?
      intro r
      by_cases h : r < n
      · rw [List.getElem?_map, List.getElem?_range h, List.getElem?_replicate, if_pos h]
        show some ((List.range wide).map fun _ => 46) = _
        rw [List.map_const', List.length_range]
      · rw [List.getElem?_eq_none (by rw [List.length_map, List.length_range]; omega), List.getElem?_eq_none (by rw [List.length_replicate]; omega)]
    rw [er]
    clear er
    induction l generalizing n with
    | nil => simp
    | cons x l ih =>
      subst hn
      rw [List.length_cons, List.replicate_succ, List.zip_cons_cons, List.map_cons, List.map_cons, List.sum_cons, List.sum_cons, ih l.length rfl (fun y hy => hr y (List.mem_cons_of_mem _ hy))]
      have rx := hr x List.mem_cons_self
      have b := mis46 x rx.sg
      rw [rx.len] at b
      show (misZ x (List.replicate wide 46) : Int) + _ = _
      rw [b]
      omega
  exact key high rs hl pl.row
end Dt
namespace Dt
open PySem PySem.Spec PyProof.Rows L2 L2X
open SX (S)
/-! ### read -/
abbrev sWys : Stmt := topS 54
theorem scWys : FnScope ["alphabet", "line"] ["alphabet", "line"] (defScope sWys) := ⟨rfl, rfl, rfl, by decide +kernel, rfl, by decide +kernel, by decide +kernel⟩
structure LnAt (CA : Addr) (H : Hp) (o a : Addr) (high wide : Nat) (ss : List Sh) (rs : List (List Nat)) : Prop where
  al : AlpG CA H o high ss
  ha : H a = some (.tup (rs.map rv))
  pr : PicR high wide rs
  h9 : high ≤ 9
  w60 : wide ≤ 60
  w1 : ∀ k, k < ss.length → 1 ≤ wdt ss k
theorem LnAt.same {CA o a high wide : Nat} {H H' : Hp} {ss : List Sh} {rs : List (List Nat)} (h : LnAt CA H o a high wide ss rs) (s : Same H H') : LnAt CA H' o a high wide ss rs := ⟨h.al.same s, s _ _ h.ha, h.pr, h.h9, h.w60, h.w1⟩
def spWys (K : PySem.W.Frag) (C CA CS : Addr) : Sp := fun vs H Q _ => ∃ (o a : Addr) (high wide : Nat) (ss : List Sh) (rs : List (List Nat)), vs = [.ref o, .ref a] ∧ LnAt CA H o a high wide ss rs ∧ ∀ p H', Same H H' → WayAt K C CS H' p ss rs wide → Q (.ref p) H'
/-- what read tells -/
def readW (ss : List Sh) (rs : List (List Nat)) (wide : Nat) : Wy := ((whiteN rs : Int) + ((tabW ss rs wide wide).getD 0 nowW).1, ((tabW ss rs wide wide).getD 0 nowW).2)
section
variable {P : Program} {w : World} {K : PySem.W.Frag} {mg : Str → Option Value} {base : Heap} {C CA CS : Addr}
theorem made_same {H H2 : Hp} {x dx C : Addr} (hx : H x = none) (hd : H dx = none) (b : But x (upd (upd H dx (.own x)) x (.ins C dx [])) H2) : Same H H2 := fun a o e => by
  refine b a o ?_ (ne_of_none e hx)
  rw [upd_ne (ne_of_none e hx), upd_ne (ne_of_none e hd)]
  exact e
theorem made_ext {H : Hp} {x dx C : Addr} (hx : H x = none) (hd : H dx = none) : Same H (upd (upd H dx (.own x)) x (.ins C dx [])) := fun a o e => by
  rw [upd_ne (ne_of_none e hx), upd_ne (ne_of_none e hd)]
  exact e
theorem ok_wys {f fI fS : Addr} {fd fdI fdS : FuncData} {k : Nat} (F : Fun K "_ways" "_ways" sWys f fd) (TW : Twy K mg C) (SP : Tsp K mg CS) (MW : Mk K C fI) (MS : Mk K CS fS) (GI : FnOk P w K mg base CX0 (k + 1) fI fdI ["self", "alphabet", "line", "spelling"] (spWI K C CA CS)) (GS : FnOk P w K mg base CX0 (k + 1) fS fdS ["self", "alphabet", "words", "strange", "blank"] (spSI CS CA))
    (bI : Binds K fdI ["self", "alphabet", "line", "spelling"] []) (bS : Binds K fdS ["self", "alphabet", "words", "strange", "blank"] []) : FnOk P w K mg base CX0 (k + 3) f fd ["alphabet", "line"] (spWys K C CA CS) := by
  refine F.ok scWys (fun vs H Q E h => ?_) (fun cdv A outer s H vs Q E hr h => ?_)
  · obtain ⟨o, a, _, _, _, _, rfl, _⟩ := h
    rfl
  · obtain ⟨o, a, high, wide, ss, rs, rfl, L, q⟩ := h
    have nd := scWys.nd
    refine ⟨_, pss_one (ps_ret (pe_make MW GI hr (by rfl) TW.mC bI .nil pass0 (pa_cons (pv 0) (pa_cons (pv 1) (pa_cons (pe_make MS GS hr (by rfl) SP.mC bS .nil pass0 (pa_cons (pv 0) (pa_cons (pe_tup pa_nil) (pa_cons pe_int (pa_cons pe_int pa_nil))))) pa_nil))))), ?_⟩
    refine ⟨.ref o, rfl, .ref a, rfl, .ref o, rfl, by show 0 ≤ sizeLine; decide, fun t ht x dx hx hd ne => ?_⟩
    have s1 := same_upd (o := .tup []) ht
    have L1 := L.same s1
    have e1 := made_ext (C := CS) hx hd
    obtain ⟨dxo, to, xo, ho, _⟩ := id L1.al.al
    have ox : o ≠ x := ne_of_none ho hx
    refine ⟨x, dx, o, t, high, ss, rfl, upd_same, L1.al.same e1, fun z => ox z.symm, e1 _ _ upd_same, fun H2 spl b2 => ⟨rfl, fun y dy hy hdy ney => ?_⟩⟩
    have s2 := made_same hx hd b2
    have L2 := L1.same s2
    have e2 := made_ext (C := C) hy hdy
    obtain ⟨dx2, fs2, hs2, _⟩ := id spl
    obtain ⟨dxo2, to2, xo2, ho2, _⟩ := id L2.al.al
    have L3 := L2.same e2
    exact ⟨y, dy, o, a, x, high, wide, ss, rs, rfl, upd_same, L3.al, ne_of_none ho2 hy, L3.ha, L3.pr, L3.h9, L3.w60, L3.w1, spl.same e2, ne_of_none hs2 hy, fun H3 wa b3 => ⟨rfl, q y H3 ((s1.trans s2).trans (made_same hy hdy b3)) wa⟩⟩
end
end Dt
namespace Dt
open PySem PySem.Spec PyProof.Rows L2 L2X
open SX (S)
/-! ### all ways as the law puts them together -/
def YA (K : PySem.W.Frag) (H : Hp) (x : V) (w : List (Nat × Nat)) : Prop := ∃ q zs, x = .ref q ∧ SqT K H q zs ∧ Plc K H zs w
theorem YA.tk {K : PySem.W.Frag} {H H' : Hp} {x : V} {w : List (Nat × Nat)} (h : YA K H x w) (t : Tk H H') : YA K H' x w := let ⟨q, zs, e, a, b⟩ := h; ⟨q, zs, e, t.sq a, t.plc b⟩
structure Yl (K : PySem.W.Frag) (H : Hp) (xs : List V) (L : Wl) : Prop where
  len : xs.length = L.length
  at_ : ∀ (i : Nat) x w, xs[i]? = some x → L[i]? = some w → YA K H x w
theorem Yl.tk {K : PySem.W.Frag} {H H' : Hp} {xs : List V} {L : Wl} (h : Yl K H xs L) (t : Tk H H') : Yl K H' xs L := ⟨h.len, fun i x w a b => (h.at_ i x w a b).tk t⟩
theorem Yl.app {K : PySem.W.Frag} {H : Hp} {xs ys : List V} {L M : Wl} (h : Yl K H xs L) (g : Yl K H ys M) : Yl K H (xs ++ ys) (L ++ M) := by
  refine ⟨by rw [List.length_append, List.length_append, h.len, g.len], fun i x w a b => ?_⟩
  by_cases hi : i < xs.length
  · rw [List.getElem?_append_left hi] at a
    rw [List.getElem?_append_left (by rw [← h.len]; exact hi)] at b
    exact h.at_ i x w a b
  · rw [List.getElem?_append_right (by omega)] at a
    rw [List.getElem?_append_right (by rw [← h.len]; omega), ← h.len] at b
    exact g.at_ _ x w a b
theorem Yl.nil {K : PySem.W.Frag} {H : Hp} : Yl K H [] [] := ⟨rfl, fun i x w h => nomatch h⟩
theorem Yl.one {K : PySem.W.Frag} {H : Hp} {x : V} {w : List (Nat × Nat)} (h : YA K H x w) : Yl K H [x] [w] := ⟨rfl, fun i y v a b => by
  cases i with
  | zero =>
    cases a
    cases b
    exact h
  | succ i => simp at a⟩
/-- lists of ways in a list -/
def Yls (K : PySem.W.Frag) (H : Hp) (g : Addr) (xs : List V) (T : List Wl) : Prop := xs.length = T.length ∧ ∀ (j : Nat) x L, xs[j]? = some x → T[j]? = some L → ∃ l ys, x = .ref l ∧ l ≠ g ∧ H l = some (.lst ys) ∧ Yl K H ys L
theorem tabY_many {ss : List Sh} {wide : Nat} (s5 : ss.length ≤ 5) : ∀ n, ∀ L ∈ tabY ss wide n, L.length ≤ 6 ^ n
  | 0, L, h => by
    rw [List.mem_singleton.mp h]
    decide
  | n + 1, L, h => by
    have get : ∀ j, ((tabY ss wide n).getD j []).length ≤ 6 ^ n := fun j => by
      rw [List.getD_eq_getElem?_getD]
      cases e : (tabY ss wide n)[j]? with
      | none => exact Nat.zero_le _
      | some z => exact tabY_many s5 n z (List.mem_of_getElem? e)
    have e6 : 6 ^ (n + 1) = 6 ^ n + 5 * 6 ^ n := by
      rw [Nat.pow_succ]
      omega
    rcases List.mem_cons.mp h with rfl | h
    · unfold stepY
      rw [List.length_append, List.length_flatten, List.map_map]
      have bound : ∀ ks : List Nat, (ks.map (List.length ∘ fun k => ((tabY ss wide n).getD (wdt ss k - 1) []).map ((wide - (n + 1), k) :: ·))).sum ≤ ks.length * 6 ^ n := fun ks => by
        induction ks with
        | nil => simp
        | cons k ks ih =>
          rw [List.map_cons, List.sum_cons, List.length_cons, Nat.succ_mul]
          have a : (List.length ∘ fun k => ((tabY ss wide n).getD (wdt ss k - 1) []).map ((wide - (n + 1), k) :: ·)) k ≤ 6 ^ n := by
            show (((tabY ss wide n).getD (wdt ss k - 1) []).map _).length ≤ _
            rw [List.length_map]
            exact get _
          omega
      have b := bound (fitN ss wide (wide - (n + 1)) ss.length)
      have c := fitN_len (ss := ss) (wide := wide) (col := wide - (n + 1)) (n := ss.length)
      have d := get 0
      have f : (fitN ss wide (wide - (n + 1)) ss.length).length * 6 ^ n ≤ 5 * 6 ^ n := Nat.mul_le_mul_right _ (by omega)
      omega
    · have := tabY_many s5 n L h
      omega
theorem Fw.short {ss : List Sh} {wide : Nat} (h1 : ∀ k, k < ss.length → 1 ≤ wdt ss k) : ∀ {e : Nat} {w : List (Nat × Nat)}, Fw ss wide e w → e ≤ wide → w.length + e ≤ wide
  | _, [], _, h => by
    rw [List.length_nil]
    omega
  | e, p :: w, ⟨a, b, c, d⟩, h => by
    have := Fw.short h1 d c
    have := h1 p.2 b
    rw [List.length_cons]
    omega
section
variable {P : Program} {w : World} {K : PySem.W.Frag} {mg : Str → Option Value} {base : Heap}
end
end Dt
namespace Dt
open PySem PySem.Spec PyProof.Rows L2 L2X
open PySem.W (dataLt alike alikeAll keyToksAll)
/-! ### the first so many of all ways (pure) -/
def Sd (l : List Wy) : Prop := l.Pairwise fun a b => wLt b a = false
theorem sd_eq {l m : List Wy} (h1 : Sd l) (h2 : Sd m) (p : l.Perm m) : l = m := List.Perm.eq_of_pairwise (fun a b _ _ x y => wLt_tri y x) h1 h2 p
theorem sd_take : ∀ {F S R : List Wy}, Sd S → S.Perm (F ++ R) → Sd F → (∀ f ∈ F, ∀ r ∈ R, wLt r f = false) → S.take F.length = F
  | [], S, R, _, _, _, _ => by rw [List.length_nil, List.take_zero]
  | a :: F, [], R, _, p, _, _ => by
    have := p.length_eq
    simp at this
  | a :: F, s :: S, R, h, p, hF, hR => by
    obtain ⟨h1, h2⟩ := List.pairwise_cons.mp h
    obtain ⟨f1, f2⟩ := List.pairwise_cons.mp hF
    have e : s = a := by
      have ms : s ∈ a :: F ++ R := p.mem_iff.mp List.mem_cons_self
      have ma : a ∈ s :: S := p.mem_iff.mpr List.mem_cons_self
      have u1 : wLt s a = false := by
        rcases List.mem_append.mp ms with z | z
        · rcases List.mem_cons.mp z with rfl | z
          · exact wLt_irr _
          · exact f1 _ z
        · exact hR a List.mem_cons_self _ z
      have u2 : wLt a s = false := by
        rcases List.mem_cons.mp ma with rfl | z
        · exact wLt_irr _
        · exact h1 _ z
      exact wLt_tri u1 u2
    subst e
    rw [List.length_cons, List.take_succ_cons, sd_take h2 (List.Perm.cons_inv p) f2 fun f hf => hR f (List.mem_cons_of_mem _ hf)]
theorem tabY_get (ss : List Sh) (wide : Nat) : ∀ n j, j ≤ n → (tabY ss wide n).getD j [] = (tabY ss wide (n - j)).getD 0 []
  | n, 0, _ => rfl
  | 0, j + 1, h => absurd h (by omega)
  | n + 1, j + 1, h => by
    have := tabY_get ss wide n j (by omega)
    rw [show n + 1 - (j + 1) = n - j by omega, ← this]
    rfl
theorem tabY_step {ss : List Sh} {wide c : Nat} (h1 : ∀ k, k < ss.length → 1 ≤ wdt ss k) (hc : c < wide) : (tabY ss wide wide).getD c [] = (tabY ss wide wide).getD (c + 1) [] ++ ((fitN ss wide c ss.length).map fun k => ((tabY ss wide wide).getD (c + wdt ss k) []).map ((c, k) :: ·)).flatten := by
  obtain ⟨m, hm⟩ : ∃ m, wide - c = m + 1 := ⟨wide - c - 1, by omega⟩
  rw [tabY_get ss wide wide c (by omega), hm, tabY_get ss wide wide (c + 1) (by omega), show wide - (c + 1) = m by omega]
  show stepY ss wide (wide - (m + 1)) (tabY ss wide m) = _
  rw [show wide - (m + 1) = c by omega]
  unfold stepY
  congr 2
  apply List.map_congr_left
  intro k hk
  obtain ⟨k1, k2⟩ := fitN_mem hk
  have := h1 k k1
  rw [tabY_get ss wide m (wdt ss k - 1) (by omega), tabY_get ss wide wide (c + wdt ss k) k2, show m - (wdt ss k - 1) = wide - (c + wdt ss k) by omega]
/-- a branch of the search: where it goes on, its state, what is paid, what is set -/
structure Br where
  c : Nat
  st : Nat
  pd : Int
  bg : List (Nat × Nat)
def brT (ss : List Sh) (rs : List (List Nat)) (wide : Nat) (b : Br) : Wy := (tabW ss rs wide wide).getD b.c nowW
def brK (ss : List Sh) (rs : List (List Nat)) (wide : Nat) (b : Br) : Wy := (b.pd + (brT ss rs wide b).1, b.bg ++ (brT ss rs wide b).2)
def brW (ss : List Sh) (rs : List (List Nat)) (wide : Nat) (b : Br) : List Wy := ((tabY ss wide wide).getD b.c []).map fun w => (b.pd + cW ss rs w, b.bg ++ w)
def brs (ss : List Sh) (rs : List (List Nat)) (wide : Nat) (b : Br) : List Br := ⟨b.c + 1, 0, b.pd, b.bg⟩ :: (fitN ss wide b.c ss.length).map fun k => ⟨b.c + wdt ss k, 1, b.pd + moreZ ss rs b.c k, b.bg ++ [(b.c, k)]⟩
def allB (ss : List Sh) (rs : List (List Nat)) (wide : Nat) (q : List Br) : List Wy := (q.map (brW ss rs wide)).flatten
theorem psLt_pre (a b : List (Nat × Nat)) : ∀ p, psLt (p ++ a) (p ++ b) = psLt a b
  | [] => rfl
  | x :: p => by
    show psLt (x :: (p ++ a)) (x :: (p ++ b)) = _
    rw [psLt, if_pos rfl, psLt_pre a b p]
theorem wLt_pre (m c d : Int) (p a b : List (Nat × Nat)) : wLt (m + c, p ++ a) (m + d, p ++ b) = wLt (c, a) (d, b) := by
  rw [wLt_shift]
  unfold wLt
  rw [psLt_pre]
theorem brK_least {ss : List Sh} {rs : List (List Nat)} {wide : Nat} (h1 : ∀ k, k < ss.length → 1 ≤ wdt ss k) {b : Br} (hc : b.c ≤ wide) : Lw (brW ss rs wide b) (brK ss rs wide b) := by
  obtain ⟨m, h⟩ := (tab_ok (rs := rs) h1 wide (Nat.le_refl _) b.c hc).l
  change brT ss rs wide b ∈ _ at m
  change ∀ e ∈ _, wLt e (brT ss rs wide b) = false at h
  unfold brK brW
  generalize brT ss rs wide b = y at m h
  obtain ⟨w, hw, rfl⟩ := List.mem_map.mp m
  refine ⟨List.mem_map.mpr ⟨w, hw, rfl⟩, fun e he => ?_⟩
  obtain ⟨v, hv, rfl⟩ := List.mem_map.mp he
  rw [wLt_pre]
  exact h _ (List.mem_map.mpr ⟨v, hv, rfl⟩)
theorem brW_step {ss : List Sh} {rs : List (List Nat)} {wide : Nat} (h1 : ∀ k, k < ss.length → 1 ≤ wdt ss k) {b : Br} (hc : b.c < wide) : brW ss rs wide b = allB ss rs wide (brs ss rs wide b) := by
  unfold brW allB brs
  rw [tabY_step h1 hc, List.map_append, List.map_cons, List.flatten_cons]
  congr 1
  rw [List.map_flatten, List.map_map, List.map_map]
  congr 1
  apply List.map_congr_left
  intro k _
  show (((tabY ss wide wide).getD (b.c + wdt ss k) []).map ((b.c, k) :: ·)).map _ = ((tabY ss wide wide).getD (b.c + wdt ss k) []).map _
  rw [List.map_map]
  apply List.map_congr_left
  intro w _
  show (b.pd + cW ss rs ((b.c, k) :: w), b.bg ++ ((b.c, k) :: w)) = (b.pd + moreZ ss rs b.c k + cW ss rs w, b.bg ++ [(b.c, k)] ++ w)
  rw [cW_cons, List.append_assoc, Int.add_assoc]
  rfl
theorem tabY_end (ss : List Sh) (wide : Nat) : (tabY ss wide wide).getD wide [] = [[]] := by
  rw [tabY_get ss wide wide wide (Nat.le_refl _), Nat.sub_self]
  rfl
theorem tabW_get (ss : List Sh) (rs : List (List Nat)) (wide : Nat) : ∀ n j, j ≤ n → (tabW ss rs wide n).getD j nowW = (tabW ss rs wide (n - j)).getD 0 nowW
  | n, 0, _ => rfl
  | 0, j + 1, h => absurd h (by omega)
  | n + 1, j + 1, h => by
    have := tabW_get ss rs wide n j (by omega)
    rw [show n + 1 - (j + 1) = n - j by omega, ← this]
    rfl
theorem brK_end {ss : List Sh} {rs : List (List Nat)} {wide : Nat} {b : Br} (h : b.c = wide) : brK ss rs wide b = (b.pd, b.bg) ∧ brW ss rs wide b = [(b.pd, b.bg)] := by
  unfold brK brW brT
  rw [h, tabY_end, tabW_get ss rs wide wide wide (Nat.le_refl _), Nat.sub_self]
  refine ⟨?_, ?_⟩
  · show (b.pd + 0, b.bg ++ []) = _
    rw [Int.add_zero, List.append_nil]
  · show [(b.pd + cW ss rs [], b.bg ++ [])] = _
    rw [List.append_nil]
    show [(b.pd + 0, b.bg)] = _
    rw [Int.add_zero]
/-- what is found, and what is still to be looked at -/
structure Srch (ss : List Sh) (rs : List (List Nat)) (wide : Nat) (F : List Wy) (q : List Br) : Prop where
  p : (F ++ allB ss rs wide q).Perm (brW ss rs wide ⟨0, 0, 0, []⟩)
  sd : Sd F
  le : ∀ f ∈ F, ∀ r ∈ allB ss rs wide q, wLt r f = false
  cs : ∀ b ∈ q, b.c ≤ wide
theorem Srch.start {ss : List Sh} {rs : List (List Nat)} {wide : Nat} : Srch ss rs wide [] [⟨0, 0, 0, []⟩] := by
  refine ⟨?_, List.Pairwise.nil, (fun f h => nomatch h), fun b hb => ?_⟩
  · show (([brW ss rs wide ⟨0, 0, 0, []⟩] : List (List Wy)).flatten).Perm _
    rw [List.flatten_cons, List.flatten_nil, List.append_nil]
  · rw [List.mem_singleton.mp hb]
    exact Nat.zero_le _
theorem allB_cons (ss : List Sh) (rs : List (List Nat)) (wide : Nat) (b : Br) (q : List Br) : allB ss rs wide (b :: q) = brW ss rs wide b ++ allB ss rs wide q := by
  unfold allB
  rw [List.map_cons, List.flatten_cons]
theorem allB_app (ss : List Sh) (rs : List (List Nat)) (wide : Nat) (p q : List Br) : allB ss rs wide (p ++ q) = allB ss rs wide p ++ allB ss rs wide q := by
  unfold allB
  rw [List.map_append, List.flatten_append]
theorem allB_perm {ss : List Sh} {rs : List (List Nat)} {wide : Nat} {p q : List Br} (h : p.Perm q) : (allB ss rs wide p).Perm (allB ss rs wide q) := by
  unfold allB
  exact (h.map _).flatten
theorem wle_trans {a b c : Wy} (h1 : wLt b a = false) (h2 : wLt c b = false) : wLt c a = false := by
  cases e : wLt c a with
  | false => rfl
  | true =>
    rcases wLt_neg b e with z | z
    · rw [h2] at z
      cases z
    · rw [h1] at z
      cases z
theorem allB_mem {ss : List Sh} {rs : List (List Nat)} {wide : Nat} {q : List Br} {y : Wy} : y ∈ allB ss rs wide q ↔ ∃ b ∈ q, y ∈ brW ss rs wide b := by
  unfold allB
  rw [List.mem_flatten]
  constructor
  · rintro ⟨l, hl, hy⟩
    obtain ⟨b, hb, rfl⟩ := List.mem_map.mp hl
    exact ⟨b, hb, hy⟩
  · rintro ⟨b, hb, hy⟩
    exact ⟨_, List.mem_map.mpr ⟨b, hb, rfl⟩, hy⟩
/-- the least branch is at its end: found -/
theorem Srch.found {ss : List Sh} {rs : List (List Nat)} {wide : Nat} {F : List Wy} {q : List Br} {b : Br} (h1 : ∀ k, k < ss.length → 1 ≤ wdt ss k) (h : Srch ss rs wide F (b :: q)) (e : b.c = wide) (least : ∀ b' ∈ q, wLt (brK ss rs wide b') (brK ss rs wide b) = false) : Srch ss rs wide (F ++ [brK ss rs wide b]) q := by
  obtain ⟨k1, k2⟩ := brK_end (ss := ss) (rs := rs) e
  have p := h.p
  have le := h.le
  rw [allB_cons, k2] at p le
  rw [k1]
  refine ⟨?_, ?_, fun f hf r hr => ?_, fun b' hb => h.cs b' (List.mem_cons_of_mem _ hb)⟩
  · rw [List.append_assoc]
    exact p
  · refine List.pairwise_append.mpr ⟨h.sd, List.pairwise_singleton _ _, fun f hf y hy => ?_⟩
    rw [List.mem_singleton.mp hy]
    exact le f hf _ (List.mem_append_left _ (List.mem_singleton.mpr rfl))
  · rcases List.mem_append.mp hf with z | z
    · exact le f z r (List.mem_append_right _ hr)
    · rw [List.mem_singleton.mp z, ← k1]
      obtain ⟨b', hb', hr'⟩ := allB_mem.mp hr
      exact wle_trans (least b' hb') ((brK_least h1 (h.cs b' (List.mem_cons_of_mem _ hb'))).2 r hr')
theorem Srch.perm {ss : List Sh} {rs : List (List Nat)} {wide : Nat} {F : List Wy} {q q' : List Br} (h : Srch ss rs wide F q) (p : q'.Perm q) : Srch ss rs wide F q' :=
  ⟨(List.Perm.append_left _ (allB_perm p)).trans h.p, h.sd, fun f hf r hr => h.le f hf r ((allB_perm p).mem_iff.mp hr), fun b hb => h.cs b (p.mem_iff.mp hb)⟩
/-- the least branch goes on -/
theorem Srch.more {ss : List Sh} {rs : List (List Nat)} {wide : Nat} {F : List Wy} {q : List Br} {b : Br} (h1 : ∀ k, k < ss.length → 1 ≤ wdt ss k) (h : Srch ss rs wide F (b :: q)) (e : b.c < wide) : Srch ss rs wide F (brs ss rs wide b ++ q) := by
  have ea : allB ss rs wide (brs ss rs wide b ++ q) = allB ss rs wide (b :: q) := by
    rw [allB_app, allB_cons, brW_step h1 e]
  refine ⟨by rw [ea]; exact h.p, h.sd, by rw [ea]; exact h.le, fun b' hb => ?_⟩
  rcases List.mem_append.mp hb with z | z
  · rcases List.mem_cons.mp z with rfl | z
    · show b.c + 1 ≤ wide
      omega
    · obtain ⟨k, hk, rfl⟩ := List.mem_map.mp z
      exact (fitN_mem hk).2
  · exact h.cs b' (List.mem_cons_of_mem _ z)
/-- the search is over -/
theorem Srch.done {ss : List Sh} {rs : List (List Nat)} {wide many : Nat} {F S : List Wy} {q : List Br} (h : Srch ss rs wide F q) (e : q = [] ∨ F.length = many) (l : F.length ≤ many) (hS : Sd S) (p : S.Perm (brW ss rs wide ⟨0, 0, 0, []⟩)) : F = S.take many := by
  have t := sd_take hS (p.trans h.p.symm) h.sd h.le
  rcases e with rfl | e
  · have hl : S.length = F.length := by
      have := (p.trans h.p.symm).length_eq
      rw [List.length_append] at this
      exact this
    rw [← hl, List.take_length] at t
    rw [t, List.take_of_length_le l]
  · rw [← e]
    exact t.symm
/-- how many branches there are to come -/
def szB (ss : List Sh) (wide : Nat) : Nat → Nat
  | 0 => 1
  | n + 1 => 1 + 17 * szB ss wide n
theorem szB_mono (ss : List Sh) (wide : Nat) : ∀ {n m : Nat}, n ≤ m → szB ss wide n ≤ szB ss wide m
  | n, 0, h => by
    obtain rfl : n = 0 := by omega
    exact Nat.le_refl _
  | n, m + 1, h => by
    by_cases e : n = m + 1
    · rw [e]
      exact Nat.le_refl _
    · have := szB_mono ss wide (n := n) (m := m) (by omega)
      show _ ≤ 1 + 17 * szB ss wide m
      omega
def szQ (ss : List Sh) (wide : Nat) (q : List Br) : Nat := (q.map fun b => szB ss wide (wide - b.c)).sum
theorem szQ_perm {ss : List Sh} {wide : Nat} {p q : List Br} (h : p.Perm q) : szQ ss wide p = szQ ss wide q := (h.map _).sum_nat
theorem szB_pos (ss : List Sh) (wide n : Nat) : 1 ≤ szB ss wide n := by
  cases n with
  | zero => exact Nat.le_refl _
  | succ n =>
    show 1 ≤ 1 + _
    omega
theorem szQ_step {ss : List Sh} {rs : List (List Nat)} {wide : Nat} {q : List Br} {b : Br} (h1 : ∀ k, k < ss.length → 1 ≤ wdt ss k) (s16 : ss.length ≤ 16) (e : b.c < wide) : szQ ss wide (brs ss rs wide b ++ q) < szQ ss wide (b :: q) := by
  unfold szQ
  rw [List.map_append, List.sum_append, List.map_cons, List.sum_cons]
  obtain ⟨m, hm⟩ : ∃ m, wide - b.c = m + 1 := ⟨wide - b.c - 1, by omega⟩
  rw [hm]
  show _ < 1 + 17 * szB ss wide m + _
  have key : ((brs ss rs wide b).map fun b => szB ss wide (wide - b.c)).sum ≤ (brs ss rs wide b).length * szB ss wide m := by
    have gen : ∀ l : List Br, (∀ x ∈ l, wide - x.c ≤ m) → (l.map fun b => szB ss wide (wide - b.c)).sum ≤ l.length * szB ss wide m := fun l => by
      induction l with
      | nil => intro _; simp
      | cons x l ih =>
        intro h
        rw [List.map_cons, List.sum_cons, List.length_cons, Nat.succ_mul]
        have a1 := szB_mono ss wide (h x List.mem_cons_self)
        have a2 := ih fun y hy => h y (List.mem_cons_of_mem _ hy)
        omega
    refine gen _ fun x hx => ?_
    rcases List.mem_cons.mp hx with rfl | hx
    · show wide - (b.c + 1) ≤ m
      omega
    · obtain ⟨k, hk, rfl⟩ := List.mem_map.mp hx
      have := h1 k (fitN_mem hk).1
      show wide - (b.c + wdt ss k) ≤ m
      omega
  have len : (brs ss rs wide b).length ≤ 17 := by
    unfold brs fitN
    rw [List.length_cons, List.length_map]
    have := List.length_filter_le (fun k => decide (b.c + wdt ss k ≤ wide)) (List.range ss.length)
    rw [List.length_range] at this
    omega
  have := Nat.mul_le_mul_right (szB ss wide m) len
  omega
end Dt
/-! a heap of data: what a swap does, up and down (pure) -/
namespace L2X
open PySem PySem.Spec PyProof.Rows L2
open PySem.W (dataLt alike)
abbrev Pr : Type := V × PyData
def swp (ps : List Pr) (i j : Nat) : List Pr := match ps[i]?, ps[j]? with
  | some x, some y => (ps.set i y).set j x
  | _, _ => ps
def el (ps : List Pr) (k : Nat) : PyData := ((ps[k]?).map Prod.snd).getD .none
theorem el_at {ps : List Pr} {k : Nat} {p : Pr} (h : ps[k]? = some p) : el ps k = p.2 := by
  unfold el
  rw [h]
  rfl
theorem swp_eq {ps : List Pr} {i j : Nat} {x y : Pr} (hi : ps[i]? = some x) (hj : ps[j]? = some y) : swp ps i j = (ps.set i y).set j x := by
  unfold swp
  rw [hi, hj]
theorem swp_len {ps : List Pr} {i j : Nat} {x y : Pr} (hi : ps[i]? = some x) (hj : ps[j]? = some y) : (swp ps i j).length = ps.length := by
  rw [swp_eq hi hj, List.length_set, List.length_set]
theorem swp_perm {ps : List Pr} {i j : Nat} {x y : Pr} (hi : ps[i]? = some x) (hj : ps[j]? = some y) : (swp ps i j).Perm ps := by
  rw [swp_eq hi hj]
  obtain ⟨h1, e1⟩ := List.getElem?_eq_some_iff.mp hi
  obtain ⟨h2, e2⟩ := List.getElem?_eq_some_iff.mp hj
  have := List.set_set_perm (as := ps) h1 h2
  rw [e1, e2] at this
  exact this
theorem el_swp {ps : List Pr} {i j : Nat} {x y : Pr} (hi : ps[i]? = some x) (hj : ps[j]? = some y) (k : Nat) : el (swp ps i j) k = if k = j then el ps i else if k = i then el ps j else el ps k := by
  rw [swp_eq hi hj]
  obtain ⟨h1, e1⟩ := List.getElem?_eq_some_iff.mp hi
  obtain ⟨h2, e2⟩ := List.getElem?_eq_some_iff.mp hj
  unfold el
  by_cases c : k = j
  · subst c
    rw [if_pos rfl, List.getElem?_set_self (by rw [List.length_set]; exact h2), hi]
  · rw [if_neg c, List.getElem?_set_ne (fun z => c z.symm)]
    by_cases c2 : k = i
    · subst c2
      rw [if_pos rfl, List.getElem?_set_self h1, hj]
    · rw [if_neg c2, List.getElem?_set_ne (fun z => c2 z.symm)]
theorem dle_trans {a b c : PyData} (h1 : dataLt b a = false) (h2 : dataLt c b = false) : dataLt c a = false := by
  cases e : dataLt c a with
  | false => rfl
  | true =>
    rcases dlt_neg (y := b) e with z | z
    · rw [h2] at z
      cases z
    · rw [h1] at z
      cases z
theorem dlt_le {a b : PyData} (h : dataLt a b = true) : dataLt b a = false := by
  cases e : dataLt b a with
  | false => rfl
  | true =>
    have := dlt_trans h e
    rw [dlt_irr] at this
    cases this
def HeapOk (ps : List Pr) : Prop := ∀ i, 0 < i → i < ps.length → dataLt (el ps i) (el ps ((i - 1) / 2)) = false
structure UI (ps : List Pr) (pos : Nat) : Prop where
  a : ∀ i, 0 < i → i < ps.length → i ≠ pos → dataLt (el ps i) (el ps ((i - 1) / 2)) = false
  b : ∀ i, 0 < pos → 0 < i → i < ps.length → (i - 1) / 2 = pos → dataLt (el ps i) (el ps ((pos - 1) / 2)) = false
structure DI (ps : List Pr) (pos : Nat) : Prop where
  a : ∀ i, 0 < i → i < ps.length → i ≠ pos → (i - 1) / 2 ≠ pos → dataLt (el ps i) (el ps ((i - 1) / 2)) = false
  b : ∀ i, 0 < pos → 0 < i → i < ps.length → (i - 1) / 2 = pos → dataLt (el ps i) (el ps ((pos - 1) / 2)) = false
theorem UI.top {ps : List Pr} (h : UI ps 0) : HeapOk ps := fun i h0 hl => h.a i h0 hl (by omega)
theorem UI.stop {ps : List Pr} {pos : Nat} (h : UI ps pos) (e : dataLt (el ps pos) (el ps ((pos - 1) / 2)) = false) : HeapOk ps := fun i h0 hl => by
  by_cases c : i = pos
  · rw [c]
    exact e
  · exact h.a i h0 hl c
theorem UI.swap {ps : List Pr} {pos : Nat} {x y : Pr} (h : UI ps pos) (h0 : 0 < pos) (hq : ps[(pos - 1) / 2]? = some x) (hp : ps[pos]? = some y) (e : dataLt (el ps pos) (el ps ((pos - 1) / 2)) = true) : UI (swp ps ((pos - 1) / 2) pos) ((pos - 1) / 2) := by
  have hl := swp_len hq hp
  have hpl := (List.getElem?_eq_some_iff.mp hp).1
  have le := dlt_le e
  refine ⟨fun i i0 il ne => ?_, fun i q0 i0 il ei => ?_⟩
  · rw [hl] at il
    rw [el_swp hq hp, el_swp hq hp]
    by_cases c1 : i = pos
    · rw [if_pos c1]
      subst c1
      rw [if_neg (by omega), if_pos rfl]
      exact le
    · rw [if_neg c1, if_neg ne]
      by_cases c2 : (i - 1) / 2 = pos
      · rw [if_pos c2]
        exact h.b i h0 i0 il c2
      · rw [if_neg c2]
        by_cases c3 : (i - 1) / 2 = (pos - 1) / 2
        · rw [if_pos c3]
          have := h.a i i0 il c1
          rw [c3] at this
          exact dle_trans le this
        · rw [if_neg c3]
          exact h.a i i0 il c1
  · rw [hl] at il
    rw [el_swp hq hp, el_swp hq hp]
    rw [if_neg (show ¬(((pos - 1) / 2 - 1) / 2 = pos) by omega), if_neg (show ¬(((pos - 1) / 2 - 1) / 2 = (pos - 1) / 2) by omega)]
    have hqq := h.a ((pos - 1) / 2) q0 (by omega) (by omega)
    by_cases c1 : i = pos
    · rw [if_pos c1]
      exact hqq
    · rw [if_neg c1, if_neg (by omega)]
      have := h.a i i0 il c1
      rw [ei] at this
      exact dle_trans hqq this
theorem DI.leaf {ps : List Pr} {pos : Nat} (h : DI ps pos) (e : ps.length ≤ 2 * pos + 1) : UI ps pos := ⟨fun i i0 il ne => h.a i i0 il ne (by omega), h.b⟩
theorem DI.swap {ps : List Pr} {pos c : Nat} {x y : Pr} (h : DI ps pos) (hc : ps[c]? = some x) (hp : ps[pos]? = some y) (c0 : 0 < c) (ec : (c - 1) / 2 = pos) (sib : ∀ i, 0 < i → i < ps.length → (i - 1) / 2 = pos → dataLt (el ps i) (el ps c) = false) : DI (swp ps c pos) c := by
  have hl := swp_len hc hp
  have hcl := (List.getElem?_eq_some_iff.mp hc).1
  refine ⟨fun i i0 il ne np => ?_, fun i _ i0 il ei => ?_⟩
  · rw [hl] at il
    rw [el_swp hc hp, el_swp hc hp]
    by_cases c1 : i = pos
    · rw [if_pos c1]
      subst c1
      rw [if_neg (show ¬((i - 1) / 2 = i) by omega), if_neg np]
      exact h.b c i0 c0 hcl ec
    · rw [if_neg c1, if_neg ne]
      by_cases c2 : (i - 1) / 2 = pos
      · rw [if_pos c2]
        exact sib i i0 il c2
      · rw [if_neg c2, if_neg np]
        exact h.a i i0 il c1 c2
  · rw [hl] at il
    rw [el_swp hc hp, el_swp hc hp, ec, if_pos rfl, if_neg (show ¬(i = pos) by omega), if_neg (show ¬(i = c) by omega)]
    have := h.a i i0 il (by omega) (by omega)
    rw [ei] at this
    exact this
/-- the first is least -/
theorem HeapOk.least {ps : List Pr} (h : HeapOk ps) : ∀ n, n < ps.length → dataLt (el ps n) (el ps 0) = false := by
  intro n
  induction n using Nat.strongRecOn with
  | _ n ih =>
    intro hn
    by_cases c : n = 0
    · rw [c]
      exact dlt_irr _
    · exact dle_trans (ih ((n - 1) / 2) (by omega) (by omega)) (h n (by omega) hn)
end L2X
/-! heappush and heappop of data -/
namespace L2X
open PySem PySem.Spec PyProof.Rows L2
open PySem.W (dataLt alike)
theorem entry_hs : entryFor table "_heapq.heapify.sift" = some Builtin.«_heapq.heapify.sift» := entryFor_of_fast (by kernel_rfl)
theorem entry_hpu : entryFor table "_heapq.heappush" = some Builtin.«_heapq.heappush» := entryFor_of_fast (by kernel_rfl)
theorem entry_hpo : entryFor table "_heapq.heappop" = some Builtin.«_heapq.heappop» := entryFor_of_fast (by kernel_rfl)
theorem plain_hs : plainId "_heapq.heapify.sift" = true := by decide +kernel
theorem plain_hpu : plainId "_heapq.heappush" = true := by decide +kernel
theorem plain_hpo : plainId "_heapq.heappop" = true := by decide +kernel
theorem upd_upd {H : Hp} {a : Addr} {o o' : HO} : upd (upd H a o) a o' = upd H a o' := by
  funext b
  by_cases c : b = a
  · subst c
    rw [upd_same, upd_same]
  · rw [upd_ne c, upd_ne c, upd_ne c]
/-- the data of a heap: alike, and read whatever list stands at a -/
structure HD (K : PySem.W.Frag) (H : Hp) (a : Addr) (P : Pr → Prop) : Prop where
  al : ∀ p q, P p → P q → alike p.2 q.2 = true
  nn : ∀ p, P p → p.2 ≠ .none
  dp : ∀ p, P p → p.2.depth ≤ 50
  rd : ∀ p, P p → ∀ ys, Dp K (upd H a (.lst ys)) p.1 p.2
section
variable {prog : Program} {w : World} {X : Cx} {pins : List (Addr × Obj)} {σ : L2.St} {H : Hp} {R : Result → Shared → Prop} {a : Addr} {result : Value} {P : Pr → Prop}
def siftC (a : Addr) (down : Bool) (pos : Nat) (result : Value) : Code := .builtin "_heapq.heapify.sift" ⟨[.ref a, .bool false, .bool down, rawInt pos, rawInt 0, result, rawInt (-1)], []⟩
theorem its_at {ps : List Pr} {its : List Value} (r : Vals (ps.map Prod.fst) its) {i : Nat} {p : Pr} (h : ps[i]? = some p) : ∃ u, its[i]? = some u ∧ RelV p.1 u := by
  refine r.get (i := i) (x := p.1) ?_
  rw [List.getElem?_map, h]
  rfl
/-- an item -/
theorem at_pure {its : List Value} {i : Nat} {u : Value} (h : its[i]? = some u) : (match its.toArray[i]? with | some v => (pure v : Sem Value) | none => unsupported "internal:_heapq.index") = pure u := by
  rw [show its.toArray[i]? = some u by simpa using h]
/-- one is less -/
theorem lt_ok {A : Around} {ps : List Pr} {s : Shared} {p q : Pr} {u v : Value} (hu : A.units + 60 < cLine) (I : Inv X pins σ (upd H a (.lst (ps.map Prod.fst))) s) (D : HD X.K H a P) (hp : P p) (hq : P q) (ru : RelV p.1 u) (rv : RelV q.1 v) : SeqAt.RcLt A s u v (dataLt p.2 q.2) := by
  obtain ⟨as, r1⟩ := Dp.reads I p.2 p.1 u (D.rd p hp _) ru
  obtain ⟨bs, r2⟩ := Dp.reads I q.2 q.1 v (D.rd q hq _) rv
  have := D.dp p hp
  exact PySem.W.rcLt_alike _ _ A s u v as bs r1 r2 (D.al p q hp hq) (D.nn p hp) (by omega)
/-- a swap of the list's items -/
theorem swap_ok {ps : List Pr} {s : Shared} {its : List Value} {n : Nat} {i j : Nat} {x y : Pr} {u v : Value} (I : Inv X pins σ (upd H a (.lst (ps.map Prod.fst))) s) (r : Vals (ps.map Prod.fst) its)
    (e : s.heap.get? a = some { cls := .type "list", data := .seq its.toArray n }) (hi : ps[i]? = some x) (hj : ps[j]? = some y) (ru : RelV x.1 u) (rv : RelV y.1 v) (hz : ps.length ≤ sizeLine) :
    Inv X pins σ (upd H a (.lst ((swp ps i j).map Prod.fst))) { s with heap := s.heap.update a (Obj.mapSeq fun xs => (xs.setIfInBounds i v).setIfInBounds j u) } := by
  have h := I.lset (t' := s.toks) (ys := (swp ps i j).map Prod.fst) (its' := (its.set i v).set j u) upd_same e (f := fun xs => (xs.setIfInBounds i v).setIfInBounds j u) (by simp) (by
    rw [swp_eq hi hj, List.map_set, List.map_set]
    exact (r.set rv i).set ru j) (by rw [List.length_map, swp_len hi hj]; exact hz)
  rw [upd_upd] at h
  exact h
theorem up_run {A : Around} (hu : A.units + 61 < cLine) (D : HD X.K H a P) (hz : ∀ ps : List Pr, True) :
    ∀ (pos : Nat) (ps : List Pr) (s : Shared), Inv X pins σ (upd H a (.lst (ps.map Prod.fst))) s → pos < ps.length → UI ps pos → (∀ p ∈ ps, P p) → (∀ (ps' : List Pr) s', Inv X pins σ (upd H a (.lst (ps'.map Prod.fst))) s' → HeapOk ps' → ps'.Perm ps → R (.ok (.ret result)) s') →
    codeAny (model prog w) A (siftC a false pos result) R s := by
  intro pos
  induction pos using Nat.strongRecOn with
  | _ pos ih =>
    intro ps s I hp U hP q
    unfold siftC
    refine codeAny_builtin entry_hs ?_
    rw [Around.under_plainId plain_hs _]
    obtain ⟨z, its, n, r, hl, e⟩ := I.lstM upd_same
    rw [List.length_map] at z hl
    show wpAny _ A.in1 ((seqItems? (.ref a) >>= _) >>= _) _ _ s
    refine wpAny_bind (wpAny_bind (wpAny_seqItems e rfl (wpAny_pure ?_)))
    simp only [Bool.false_eq_true, if_false, Int.toNat_natCast, show (-1 : Int) < 0 from by decide, if_true]
    by_cases c : pos = 0
    · subst c
      show wpAny _ A.in1 (ret result) _ _ s
      exact wpAny_pure (q ps s I U.top (List.Perm.refl _))
    · rw [if_pos (show pos > Int.toNat 0 by show 0 < pos; omega)]
      have ex : ps[pos]? = some ps[pos] := List.getElem?_eq_getElem hp
      have hq : (pos - 1) / 2 < ps.length := by omega
      have ey : ps[(pos - 1) / 2]? = some ps[(pos - 1) / 2] := List.getElem?_eq_getElem hq
      have px := hP _ (List.getElem_mem hp)
      have py := hP _ (List.getElem_mem hq)
      generalize ps[pos] = x at ex px
      generalize ps[(pos - 1) / 2] = y at ey py
      obtain ⟨u, hu1, ru⟩ := its_at r ex
      obtain ⟨v, hv1, rv⟩ := its_at r ey
      have sz := hu
      refine wpAny_bind (wpAny_of_eq (at_pure hu1) ?_)
      refine wpAny_bind (wpAny_of_eq (at_pure hv1) ?_)
      have L : SeqAt.RcLt A.in1 s u v (dataLt x.2 y.2) := lt_ok (by show A.units + 1 + 60 < _; omega) I D px py ru rv
      have ep : el ps pos = x.2 := el_at ex
      have eq2 : el ps ((pos - 1) / 2) = y.2 := el_at ey
      show wpAny _ A.in1 ((holding _ (richCompare .Lt u v >>= _) >>= _) >>= _) _ _ s
      refine wpAny_bind (wpAny_bind (wpAny_holding (wpAny_bind (L prog w _ _ (wpAny_truthy_bool ?_)))))
      show wpAny _ A.in1 ((seqItems? (.ref a) >>= _) >>= _) _ _ s
      refine wpAny_bind (wpAny_bind (wpAny_seqItems e rfl (wpAny_pure ?_)))
      rw [if_neg (by simp)]
      show wpAny _ A.in1 (pure (dataLt x.2 y.2)) _ _ s
      refine wpAny_pure ?_
      have hsz : its.toArray.size ≤ sizeLine := by rw [List.size_toArray, ← hl]; exact z
      cases c2 : dataLt x.2 y.2 with
      | false =>
        simp only [Bool.false_eq_true, if_false]
        refine wpAny_pure (q ps s I (U.stop (by rw [ep, eq2]; exact c2)) (List.Perm.refl _))
      | true =>
        simp only [if_true]
        refine wpAny_bind ?_
        show wpAny _ A.in1 ((seqItems? (.ref a) >>= _) >>= _) _ _ s
        refine wpAny_bind (wpAny_bind (wpAny_seqItems e rfl (wpAny_pure ?_)))
        refine wpAny_bind (wpAny_of_eq (at_pure hv1) ?_)
        refine wpAny_bind (wpAny_of_eq (at_pure hu1) ?_)
        refine wpAny_updateSeq e rfl ?_ hsz (by simp only [Array.size_setIfInBounds]; omega)
        refine wpAny_pure ⟨plainId_quiet plain_hs _, ?_⟩
        have pm := swp_perm ey ex
        exact ih ((pos - 1) / 2) (by omega) (swp ps ((pos - 1) / 2) pos) _ (swap_ok I r e ey ex rv ru z) (by rw [swp_len ey ex]; exact hq) (U.swap (by omega) ey ex (by rw [ep, eq2]; exact c2)) (fun p hp' => hP p (pm.mem_iff.mp hp')) fun ps' s' I' h' p' => q ps' s' I' h' (p'.trans pm)
theorem down_run {A : Around} (hu : A.units + 61 < cLine) (D : HD X.K H a P) :
    ∀ (m pos : Nat) (ps : List Pr) (s : Shared), ps.length - pos = m → Inv X pins σ (upd H a (.lst (ps.map Prod.fst))) s → pos < ps.length → DI ps pos → (∀ p ∈ ps, P p) → (∀ (ps' : List Pr) s', Inv X pins σ (upd H a (.lst (ps'.map Prod.fst))) s' → HeapOk ps' → ps'.Perm ps → R (.ok (.ret result)) s') →
    codeAny (model prog w) A (siftC a true pos result) R s := by
  intro m
  induction m using Nat.strongRecOn with
  | _ m ih =>
    intro pos ps s em I hp U hP q
    unfold siftC
    refine codeAny_builtin entry_hs ?_
    rw [Around.under_plainId plain_hs _]
    obtain ⟨z, its, n, r, hl, e⟩ := I.lstM upd_same
    rw [List.length_map] at z hl
    show wpAny _ A.in1 ((seqItems? (.ref a) >>= _) >>= _) _ _ s
    refine wpAny_bind (wpAny_bind (wpAny_seqItems e rfl (wpAny_pure ?_)))
    simp only [Bool.false_eq_true, if_false, Int.toNat_natCast, if_true, List.size_toArray, ← hl]
    by_cases c : pos < ps.length / 2
    · rw [if_pos c]
      have ex : ps[pos]? = some ps[pos] := List.getElem?_eq_getElem hp
      have hc1 : 2 * pos + 1 < ps.length := by omega
      have ey : ps[2 * pos + 1]? = some ps[2 * pos + 1] := List.getElem?_eq_getElem hc1
      have px := hP _ (List.getElem_mem hp)
      have py := hP _ (List.getElem_mem hc1)
      generalize ps[pos] = x at ex px
      generalize ps[2 * pos + 1] = y at ey py
      obtain ⟨u, hu1, ru⟩ := its_at r ex
      obtain ⟨v, hv1, rv⟩ := its_at r ey
      have ely : el ps (2 * pos + 1) = y.2 := el_at ey
      have hsz : its.toArray.size ≤ sizeLine := by rw [List.size_toArray, ← hl]; exact z
      by_cases c2 : 2 * pos + 1 + 1 < ps.length
      · rw [if_pos c2]
        have ew : ps[2 * pos + 1 + 1]? = some ps[2 * pos + 1 + 1] := List.getElem?_eq_getElem c2
        have pw := hP _ (List.getElem_mem c2)
        generalize ps[2 * pos + 1 + 1] = y2 at ew pw
        obtain ⟨v2, hv2, rv2⟩ := its_at r ew
        have elw : el ps (2 * pos + 1 + 1) = y2.2 := el_at ew
        refine wpAny_bind (wpAny_of_eq (at_pure hv1) ?_)
        refine wpAny_bind (wpAny_of_eq (at_pure hv2) ?_)
        have L : SeqAt.RcLt A.in1 s v v2 (dataLt y.2 y2.2) := lt_ok (by show A.units + 1 + 60 < _; omega) I D py pw rv rv2
        show wpAny _ A.in1 ((holding _ (richCompare .Lt v v2 >>= _) >>= _) >>= _) _ _ s
        refine wpAny_bind (wpAny_bind (wpAny_holding (wpAny_bind (L prog w _ _ (wpAny_truthy_bool ?_)))))
        show wpAny _ A.in1 ((seqItems? (.ref a) >>= _) >>= _) _ _ s
        refine wpAny_bind (wpAny_bind (wpAny_seqItems e rfl (wpAny_pure ?_)))
        rw [if_neg (by rw [List.size_toArray, ← hl]; simp)]
        show wpAny _ A.in1 (pure (dataLt y.2 y2.2)) _ _ s
        refine wpAny_pure ?_
        cases c3 : dataLt y.2 y2.2 with
        | false =>
          simp only [Bool.not_false, if_true]
          refine wpAny_bind ?_
          show wpAny _ A.in1 ((seqItems? (.ref a) >>= _) >>= _) _ _ s
          refine wpAny_bind (wpAny_bind (wpAny_seqItems e rfl (wpAny_pure ?_)))
          refine wpAny_bind (wpAny_of_eq (at_pure hv2) ?_)
          refine wpAny_bind (wpAny_of_eq (at_pure hu1) ?_)
          refine wpAny_updateSeq e rfl ?_ hsz (by simp only [Array.size_setIfInBounds]; omega)
          refine wpAny_pure ⟨plainId_quiet plain_hs _, ?_⟩
          have pm := swp_perm ew ex
          exact ih (ps.length - (2 * pos + 1 + 1)) (by omega) (2 * pos + 1 + 1) (swp ps (2 * pos + 1 + 1) pos) _ (by rw [swp_len ew ex]) (swap_ok I r e ew ex rv2 ru z) (by rw [swp_len ew ex]; exact c2) (U.swap ew ex (by omega) (by omega) (fun i i0 il ei => by
                      rcases (show i = 2 * pos + 1 ∨ i = 2 * pos + 1 + 1 by omega) with rfl | rfl
                      · rw [ely, elw]
                        exact c3
                      · exact dlt_irr _)) (fun p hp' => hP p (pm.mem_iff.mp hp')) fun ps' s' I' h' p' => q ps' s' I' h' (p'.trans pm)
        | true =>
          simp only [Bool.not_true, Bool.false_eq_true, if_false]
          refine wpAny_bind ?_
          show wpAny _ A.in1 ((seqItems? (.ref a) >>= _) >>= _) _ _ s
          refine wpAny_bind (wpAny_bind (wpAny_seqItems e rfl (wpAny_pure ?_)))
          refine wpAny_bind (wpAny_of_eq (at_pure hv1) ?_)
          refine wpAny_bind (wpAny_of_eq (at_pure hu1) ?_)
          refine wpAny_updateSeq e rfl ?_ hsz (by simp only [Array.size_setIfInBounds]; omega)
          refine wpAny_pure ⟨plainId_quiet plain_hs _, ?_⟩
          have pm := swp_perm ey ex
          exact ih (ps.length - (2 * pos + 1)) (by omega) (2 * pos + 1) (swp ps (2 * pos + 1) pos) _ (by rw [swp_len ey ex]) (swap_ok I r e ey ex rv ru z) (by rw [swp_len ey ex]; exact hc1) (U.swap ey ex (by omega) (by omega) (fun i i0 il ei => by
                      rcases (show i = 2 * pos + 1 ∨ i = 2 * pos + 1 + 1 by omega) with rfl | rfl
                      · exact dlt_irr _
                      · rw [ely, elw]
                        exact dlt_le c3)) (fun p hp' => hP p (pm.mem_iff.mp hp')) fun ps' s' I' h' p' => q ps' s' I' h' (p'.trans pm)
      · rw [if_neg c2]
        refine wpAny_bind ?_
        show wpAny _ A.in1 ((seqItems? (.ref a) >>= _) >>= _) _ _ s
        refine wpAny_bind (wpAny_bind (wpAny_seqItems e rfl (wpAny_pure ?_)))
        refine wpAny_bind (wpAny_of_eq (at_pure hv1) ?_)
        refine wpAny_bind (wpAny_of_eq (at_pure hu1) ?_)
        refine wpAny_updateSeq e rfl ?_ hsz (by simp only [Array.size_setIfInBounds]; omega)
        refine wpAny_pure ⟨plainId_quiet plain_hs _, ?_⟩
        have pm := swp_perm ey ex
        exact ih (ps.length - (2 * pos + 1)) (by omega) (2 * pos + 1) (swp ps (2 * pos + 1) pos) _ (by rw [swp_len ey ex]) (swap_ok I r e ey ex rv ru z) (by rw [swp_len ey ex]; exact hc1) (U.swap ey ex (by omega) (by omega) (fun i i0 il ei => by
                  obtain rfl : i = 2 * pos + 1 := by omega
                  exact dlt_irr _)) (fun p hp' => hP p (pm.mem_iff.mp hp')) fun ps' s' I' h' p' => q ps' s' I' h' (p'.trans pm)
    · rw [if_neg c]
      refine wpAny_pure ⟨plainId_quiet plain_hs _, ?_⟩
      exact up_run hu D (fun _ => trivial) pos ps s I hp (U.leaf (by omega)) hP q
end
end L2X
namespace L2X
open PySem PySem.Spec PyProof.Rows L2
open PySem.W (dataLt alike)
section
variable {X : Cx}
/-- heappush(a, x) -/
def rHPush (K : PySem.W.Frag) : List V → Hp → VK → Prop := fun vs H Q => ∃ (a : Addr) (x : V) (d : PyData) (ps : List Pr), vs = [.ref a, x] ∧ H a = some (.lst (ps.map Prod.fst)) ∧ HeapOk ps ∧ HD K H a (fun p => p ∈ (x, d) :: ps) ∧ ps.length < sizeLine ∧
  ∀ ps' : List Pr, HeapOk ps' → ps'.Perm ((x, d) :: ps) → Q .non (upd H a (.lst (ps'.map Prod.fst)))
theorem kind_hpu : builtinKind "_heapq.heappush" = none := by decide +kernel
theorem kind_hpo : builtinKind "_heapq.heappop" = none := by decide +kernel
theorem args_hpu (a b : Value) : argsOk "_heapq.heappush" ⟨[a, b], []⟩ := by unfold argsOk; kernel_rfl
theorem args_hpo (a : Value) : argsOk "_heapq.heappop" ⟨[a], []⟩ := by unfold argsOk; kernel_rfl
theorem cr_hpush (hu : X.A.units + 64 < cLine) : CallR X (.builtin "_heapq.heappush") (rHPush X.K) := by
  intro pins s σ H vs us Q I r h
  obtain ⟨a, x, d, ps, rfl, hH, ho, D, hz, q⟩ := h
  obtain ⟨u1, u2, rfl, r1, r2⟩ := vals2 r
  cases (show u1 = Value.ref a from r1)
  refine call_function_tree kind_hpu plain_hpu entry_hpu (args_hpu _ _) ?_
  obtain ⟨z, its, n, rv, hl, e⟩ := I.lstM hH
  show wpAny _ X.A.in1 ((noKeywords _ ⟨[.ref a, u2], []⟩ >>= _) >>= _) _ _ s
  refine wpAny_bind (wpAny_bind (wpAny_of_eq (show noKeywords _ ⟨[.ref a, u2], []⟩ = pure () from rfl) ?_))
  refine wpAny_bind (wpAny_of_eq (show checkCount "heappush" 2 2 2 = pure () from rfl) ?_)
  show wpAny _ X.A.in1 (((isInstance (.ref a) (.type "list") >>= _)) >>= _) _ _ s
  have ti : s.TypeIs (.ref a) "list" := ⟨_, e, rfl⟩
  refine wpAny_bind (wpAny_bind (wpAny_isInstance ti (show isSubtype (.type "list") (.type "list") = pure true from rfl) ?_))
  simp only [if_true]
  refine wpAny_pure (wpAny_pure ?_)
  show wpAny _ X.A.in1 (updateSeq a (fun x => x.push u2) >>= _) _ _ s
  rw [List.length_map] at z hl
  have hsz : its.toArray.size ≤ sizeLine := by rw [List.size_toArray, ← hl]; exact z
  refine wpAny_bind (wpAny_updateSeq e rfl ?_ hsz (by simp only [Array.size_push]; omega))
  have I2 : Inv X pins σ (upd H a (.lst ((ps ++ [(x, d)]).map Prod.fst))) { s with heap := s.heap.update a (Obj.mapSeq fun z => z.push u2) } := by
    refine I.lset (t' := s.toks) (its' := its ++ [u2]) hH e (f := fun z => z.push u2) (by simp) ?_ ?_
    · rw [List.map_append]
      exact rv.append (.cons r2 .nil)
    · rw [List.length_map, List.length_append, List.length_singleton]
      omega
  obtain ⟨z2, its2, n2, rv2, hl2, e2⟩ := I2.lstM upd_same
  rw [List.length_map, List.length_append, List.length_singleton] at hl2
  show wpAny _ X.A.in1 ((seqItems? (.ref a) >>= _) >>= _) _ _ _
  refine wpAny_bind (wpAny_bind (wpAny_seqItems e2 rfl (wpAny_pure ?_)))
  refine wpAny_pure ⟨plainId_quiet plain_hs _, ?_⟩
  have e3 : its2.toArray.size - 1 = ps.length := by rw [List.size_toArray, ← hl2]; omega
  rw [e3]
  have pm : (ps ++ [(x, d)]).Perm ((x, d) :: ps) := List.perm_append_singleton _ _
  have UU : UI (ps ++ [(x, d)]) ps.length := by
    have ea : ∀ i, i < ps.length → el (ps ++ [(x, d)]) i = el ps i := fun i hi => by
      unfold el
      rw [List.getElem?_append_left hi]
    refine ⟨fun i i0 il ne => ?_, fun i _ i0 il ei => ?_⟩
    · rw [List.length_append, List.length_singleton] at il
      rw [ea i (by omega), ea _ (by omega)]
      exact ho i i0 (by omega)
    · rw [List.length_append, List.length_singleton] at il
      omega
  exact up_run (A := X.A) (by omega) D (fun _ => trivial) ps.length _ _ I2 (by rw [List.length_append, List.length_singleton]; omega) UU (fun p hp => pm.mem_iff.mp hp) fun ps' s' I' h' p' => ⟨.non, _, I', rfl, q ps' h' (p'.trans pm)⟩
/-- heappop(a) -/
def rHPop (K : PySem.W.Frag) : List V → Hp → VK → Prop := fun vs H Q => ∃ (a : Addr) (ps : List Pr), vs = [.ref a] ∧ H a = some (.lst (ps.map Prod.fst)) ∧ HeapOk ps ∧ ps ≠ [] ∧ HD K H a (fun p => p ∈ ps) ∧
  ∀ (x : V) (d : PyData) (ps' : List Pr), HeapOk ps' → ((x, d) :: ps').Perm ps → (∀ e ∈ ps, dataLt e.2 d = false) → Q x (upd H a (.lst (ps'.map Prod.fst)))
theorem el_pop {ps : List Pr} {i : Nat} (h : i < ps.length - 1) : el ps.dropLast i = el ps i := by
  unfold el
  rw [List.getElem?_dropLast, if_pos h]
theorem cr_hpop (hu : X.A.units + 64 < cLine) : CallR X (.builtin "_heapq.heappop") (rHPop X.K) := by
  intro pins s σ H vs us Q I r h
  obtain ⟨a, ps, rfl, hH, ho, ne, D, q⟩ := h
  cases vals1 r with
  | intro u1 h1 =>
  obtain ⟨rfl, r1⟩ := h1
  cases (show u1 = Value.ref a from r1)
  refine call_function_tree kind_hpo plain_hpo entry_hpo (args_hpo _) ?_
  obtain ⟨z, its, n, rv, hl, e⟩ := I.lstM hH
  rw [List.length_map] at z hl
  have ti : s.TypeIs (.ref a) "list" := ⟨_, e, rfl⟩
  have hsz : its.toArray.size ≤ sizeLine := by rw [List.size_toArray, ← hl]; exact z
  have lp : 0 < ps.length := List.length_pos_iff.mpr ne
  have ex : ps[0]? = some ps[0] := List.getElem?_eq_getElem lp
  have el1 : ps[ps.length - 1]? = some ps[ps.length - 1] := List.getElem?_eq_getElem (by omega)
  have edl : ps = ps.dropLast ++ [ps[ps.length - 1]] := by
    have := List.dropLast_concat_getLast ne
    rw [List.getLast_eq_getElem] at this
    exact this.symm
  generalize hx : ps[0] = x at ex
  generalize hy : ps[ps.length - 1] = y at el1 edl
  obtain ⟨u, hu1, ru⟩ := its_at rv ex
  obtain ⟨v, hv1, rvv⟩ := its_at rv el1
  have hback : its.toArray.back? = some v := by
    rw [List.back?_toArray, List.getLast?_eq_getElem?, ← hl]
    exact hv1
  have least : ∀ p ∈ ps, dataLt p.2 x.2 = false := fun p hp => by
    obtain ⟨i, hi⟩ := List.mem_iff_getElem?.mp hp
    have := ho.least i (List.getElem?_eq_some_iff.mp hi).1
    rw [el_at hi, el_at ex] at this
    exact this
  show wpAny _ X.A.in1 ((((noKeywords _ ⟨[.ref a], []⟩ >>= _)) >>= _) >>= _) _ _ s
  refine wpAny_bind (wpAny_bind (wpAny_bind (wpAny_of_eq (show noKeywords _ ⟨[.ref a], []⟩ = pure () from rfl) (wpAny_pure ?_))))
  show wpAny _ X.A.in1 ((((isInstance (.ref a) (.type "list") >>= _)) >>= _)) _ _ s
  refine wpAny_bind (wpAny_bind (wpAny_isInstance ti (show isSubtype (.type "list") (.type "list") = pure true from rfl) ?_))
  simp only [if_true]
  refine wpAny_pure (wpAny_pure ?_)
  show wpAny _ X.A.in1 ((seqItems? (.ref a) >>= _) >>= _) _ _ s
  refine wpAny_bind (wpAny_bind (wpAny_seqItems e rfl (wpAny_pure ?_)))
  rw [hback]
  show wpAny _ X.A.in1 (updateSeq a (fun x => x.pop) >>= _) _ _ s
  refine wpAny_bind (wpAny_updateSeq e rfl ?_ hsz (by simp only [Array.size_pop]; omega))
  have rd : Vals (ps.dropLast.map Prod.fst) its.dropLast := by
    have h1 : ps.dropLast.map Prod.fst = (ps.map Prod.fst).take (its.length - 1) := by
      rw [List.dropLast_eq_take, ← List.map_take, hl]
    have h2 : its.dropLast = its.take (its.length - 1) := List.dropLast_eq_take
    rw [h1, h2]
    exact Vals.take _ rv
  have I2 : Inv X pins σ (upd H a (.lst (ps.dropLast.map Prod.fst))) { s with heap := s.heap.update a (Obj.mapSeq fun z => z.pop) } := by
    refine I.lset (t' := s.toks) (its' := its.dropLast) hH e (f := fun z => z.pop) (by simp) rd ?_
    rw [List.length_map, List.length_dropLast]
    omega
  by_cases c1 : ps.length = 1
  · have ez : (its.toArray.size == 1) = true := by rw [List.size_toArray, ← hl, c1]; rfl
    rw [if_pos ez]
    have e1 : ps.dropLast = [] := List.eq_nil_of_length_eq_zero (by rw [List.length_dropLast]; omega)
    rw [e1] at I2 edl
    rw [edl] at ex
    obtain rfl : y = x := by
      cases ex
      rfl
    refine wpAny_pure ⟨y.1, _, I2, rvv, q y.1 y.2 [] (fun i _ hi => nomatch hi) ?_ least⟩
    rw [edl]
    exact List.Perm.refl _
  · have ez : ¬((its.toArray.size == 1) = true) := by
      rw [List.size_toArray, ← hl]
      simp
      exact c1
    rw [if_neg ez]
    refine wpAny_bind (wpAny_of_eq (at_pure hu1) ?_)
    obtain ⟨z2, its2, n2, rv2, hl2, e2⟩ := I2.lstM upd_same
    rw [List.length_map, List.length_dropLast] at hl2
    have hsz2 : its2.toArray.size ≤ sizeLine := by rw [List.size_toArray, ← hl2]; omega
    show wpAny _ X.A.in1 (updateSeq a (fun x => x.setIfInBounds 0 v) >>= _) _ _ _
    refine wpAny_bind (wpAny_updateSeq e2 rfl ?_ hsz2 (by simp only [Array.size_setIfInBounds]; omega))
    have I3 := I2.lset (t' := s.toks) (ys := (ps.dropLast.set 0 y).map Prod.fst) (its' := its2.set 0 v) upd_same e2 (f := fun z => z.setIfInBounds 0 v) (by simp) (by rw [List.map_set]; exact rv2.set rvv 0) (by rw [List.length_map, List.length_set, List.length_dropLast]; omega)
    rw [upd_upd] at I3
    refine wpAny_pure ⟨plainId_quiet plain_hs _, ?_⟩
    obtain ⟨T, eT⟩ : ∃ T, ps.dropLast = x :: T := by
      cases hd : ps.dropLast with
      | nil =>
        have := congrArg List.length hd
        rw [List.length_dropLast] at this
        simp at this
        omega
      | cons x' T =>
        refine ⟨T, ?_⟩
        rw [edl, hd] at ex
        cases ex
        rfl
    have es : ps.dropLast.set 0 y = y :: T := by rw [eT]; rfl
    have pm : (x :: y :: T).Perm ps := by
      conv => rhs; rw [edl, eT]
      refine (List.Perm.cons x ?_)
      exact (List.perm_append_singleton y T).symm
    have memP : ∀ p ∈ ps.dropLast.set 0 y, p ∈ ps := fun p hp => by
      rw [es] at hp
      exact pm.mem_iff.mp (List.mem_cons_of_mem _ hp)
    have DD : DI (ps.dropLast.set 0 y) 0 := by
      have en : ∀ i, 0 < i → i < ps.length - 1 → el (ps.dropLast.set 0 y) i = el ps i := fun i i0 hi => by
        rw [← el_pop hi]
        unfold el
        rw [List.getElem?_set_ne (by omega)]
      refine ⟨fun i i0 il ne0 np => ?_, fun i h => absurd h (by omega)⟩
      rw [List.length_set, List.length_dropLast] at il
      rw [en i i0 il, en _ (by omega) (by omega)]
      exact ho i i0 (by omega)
    exact down_run (A := X.A) (by omega) D _ 0 _ _ rfl I3 (by rw [List.length_set, List.length_dropLast]; omega) DD memP fun ps' s' I' h' p' => ⟨x.1, _, I', ru, q x.1 x.2 ps' h' ((List.Perm.cons x (by rw [es] at p'; exact p')).trans pm) least⟩
end
end L2X
namespace L2X
open PySem PySem.Spec PyProof.Rows L2
section
variable {X : Cx}
/-- f(e, ..), f a name of the top that stands for a built-in function -/
theorem pe_callGB {x : Str} {id : String} {p pos : Pos} {e : Expr} {es : List Expr} {t : TA} {r : List V → Hp → VK → Prop} (hc : CallR X (.builtin id) r) (hg : Gl X x) (hm : X.mg x = some (.builtin id)) (ha : PA X (e :: es) t) (hdb : (x == ("__debug__" : Str)) = false := by decide)
    (he : starEach (e :: es) X.env = (false, eval e X.env) :: starEach es X.env := by rfl) (hpl : (backTo pos (starEach es X.env)).any (·.1) = false := by rfl) : PE X (.Call (.Name x p) (e :: es) [] pos) (tCB r t) := by
  refine ⟨fun pins s σ H Q I h => ?_⟩
  refine wpAny_Call_Name_kw (ld_glob I hg hm ?_ hdb)
  exact PyProof.Rows.callWith_builtin1 (thn (ha.run pos pins s σ H _ I h) fun us s1 ⟨vs, H1, I1, r1, q1⟩ => hc pins s1 σ H1 vs us Q I1 r1 q1) he hpl
end
end L2X
namespace Dt
open PySem PySem.Spec PyProof.Rows L2 L2X
open SX (S)
/-! ### the search -/
abbrev sStp : Stmt := inClass (topS 28) 1
theorem scStp : FnScope ["self", "beginning", "number"] ["self", "beginning", "number"] (defScope sStp) := ⟨rfl, rfl, rfl, by decide +kernel, rfl, by decide +kernel, by decide +kernel⟩
def spStp (C : Addr) : Sp := fun vs H Q _ => ∃ (o : Addr) (b k : Nat), vs = [.ref o, .int b, .int k] ∧ SplAt C H o ∧ b ≤ 1 ∧ ∀ t H', Same H H' → H' t = some (.tup [.int 1, .int 0]) → Q (.ref t) H'
section
variable {P : Program} {w : World} {K : PySem.W.Frag} {mg : Str → Option Value} {base : Heap} {C CA CS : Addr}
theorem ok_stp {f : Addr} {fd : FuncData} {k : Nat} (F : Fun K "step" "Spelling.step" sStp f fd) (SP : Tsp K mg C) : FnOk P w K mg base CX0 (k + 1) f fd ["self", "beginning", "number"] (spStp C) := by
  refine F.ok scStp (fun vs H Q E h => ?_) (fun cdv A outer s H vs Q E hr h => ?_)
  · obtain ⟨o, b, n, rfl, _⟩ := h
    rfl
  · obtain ⟨o, b, n, rfl, ⟨dx, fs, ho, F2⟩, hb, q⟩ := h
    have nd := scStp.nd
    have hu : (A.deeper (envOfC "Spelling.step" (defScope sStp) s.heap.objs.size f cdv)).units + 1 < cLine := by
      have := hr.un
      omega
    refine ⟨_, pss_one (ps_ret (pe_dget2 hu (pe_ix (r := rIxL K) ix_list (pe_fld (pv 0) rfl) (pv 1) (fun _ _ => rfl)) (pv 2) (pe_tup (pa_cons (pe_fld (pv 0) rfl) (pa_cons (pe_ix (r := rIxL K) ix_list (pe_fld (pv 0) rfl) (pv 1) (fun _ _ => rfl)) pa_nil))) ⟨rfl, rfl, rfl, rfl⟩)), ?_⟩
    obtain ⟨lk, d1, d2, fk, hk, e1, e2⟩ := F2.kn
    obtain ⟨lp, fp, hp⟩ := F2.sp
    obtain ⟨dd, ad, hd⟩ : ∃ dd, atI [V.ref d1, V.ref d2] (b : Int) = some (.ref dd) ∧ H dd = some (.dK []) := by
      rcases (show b = 0 ∨ b = 1 by omega) with rfl | rfl
      · exact ⟨d1, rfl, e1⟩
      · exact ⟨d2, rfl, e2⟩
    have ap : atI [V.int 0, V.int 0] (b : Int) = some (.int 0) := by
      rcases (show b = 0 ∨ b = 1 by omega) with rfl | rfl <;> rfl
    refine ⟨.ref o, rfl, o, C, dx, fs, .ref lk, rfl, ho, SP.cl, SP.n6, fk, .int b, rfl, lk, _, b, .ref dd, rfl, rfl, SqL.of hk, ad, dd, rfl, .inl ⟨[], .inl hd⟩, .int n, rfl, ?_⟩
    refine ⟨.ref o, rfl, o, C, dx, fs, .int 1, rfl, ho, SP.cl, SP.n4, F2.ss, .ref o, rfl, o, C, dx, fs, .ref lp, rfl, ho, SP.cl, SP.n5, fp, .int b, rfl, lp, _, b, .int 0, rfl, rfl, SqL.of hp, ap, by show 2 ≤ sizeLine; decide, fun t ht => ?_⟩
    exact ⟨_, DGet.k (k := .inl (n : Int)) (same_upd ht _ _ hd), q t _ (same_upd ht) upd_same⟩
/-! ### a branch as it stands -/
def brV (b : Br) (q0 q1 : Addr) (y : Wy) : List V := [.int y.1, .ref q0, .int b.c, .int b.st, .int b.pd, .ref q1]
/-- a branch of the queue -/
def BrA (K : PySem.W.Frag) (H : Hp) (x : V) (ss : List Sh) (rs : List (List Nat)) (wide : Nat) (b : Br) : Prop := ∃ t q0 q1 zs ys, x = .ref t ∧ H t = some (.tup (brV b q0 q1 (brK ss rs wide b))) ∧ SqT K H q0 zs ∧ Plc K H zs (brK ss rs wide b).2 ∧ SqT K H q1 ys ∧ Plc K H ys b.bg
theorem BrA.tk {K : PySem.W.Frag} {H H' : Hp} {x : V} {ss : List Sh} {rs : List (List Nat)} {wide : Nat} {b : Br} (h : BrA K H x ss rs wide b) (t : Tk H H') : BrA K H' x ss rs wide b := by
  obtain ⟨t0, q0, q1, zs, ys, e, h1, h2, h3, h4, h5⟩ := h
  exact ⟨t0, q0, q1, zs, ys, e, (t _ _).1 h1, t.sq h2, t.plc h3, t.sq h4, t.plc h5⟩
def brD (ss : List Sh) (rs : List (List Nat)) (wide : Nat) (b : Br) : PyData := .tuple [.int (brK ss rs wide b).1, .tuple ((brK ss rs wide b).2.map pD), .int b.c, .int b.st, .int b.pd, .tuple (b.bg.map pD)]
abbrev cWy2 : Stmt := topS 41
abbrev sBr : Stmt := inClass cWy2 7
abbrev nBr : List Str := ["self", "column", "state", "paid", "begun", "more", "windows"]
theorem scBr : FnScope nBr ["self", "column", "state", "paid", "begun"] (defScope sBr) := ⟨rfl, rfl, rfl, by decide +kernel, rfl, by decide +kernel, by decide +kernel⟩
def spBr (K : PySem.W.Frag) (C CS : Addr) : Sp := fun vs H Q _ => ∃ (p q1 : Addr) (ss : List Sh) (rs : List (List Nat)) (wide : Nat) (b : Br) (ys : List V), vs = [.ref p, .int b.c, .int b.st, .int b.pd, .ref q1] ∧ WayAt K C CS H p ss rs wide ∧ b.c ≤ wide ∧ wide ≤ 60 ∧ b.st ≤ 1 ∧ SqT K H q1 ys ∧ Plc K H ys b.bg ∧ b.bg.length ≤ 1000 ∧
  ∀ x H', Same H H' → BrA K H' x ss rs wide b → Q x H'
theorem ok_br {f : Addr} {fd : FuncData} {k : Nat} (F : Fun K "_branch" "Ways._branch" sBr f fd) (TW : Twy K mg C) : FnOk P w K mg base CX0 (k + 1) f fd ["self", "column", "state", "paid", "begun"] (spBr K C CS) := by
  refine F.ok scBr (fun vs H Q E h => ?_) (fun cdv A outer s H vs Q E hr h => ?_)
  · obtain ⟨p, q1, _, _, _, b, _, rfl, _⟩ := h
    rfl
  · obtain ⟨p, q1, ss, rs, wide, b, ys, rfl, ⟨dx, fs, lr, rl, hp, fw, fr, hlr, R, n1, n2, wx⟩, hc, w60, hst, hq1, pb, lb, q⟩ := h
    have nd := scBr.nd
    refine ⟨_, pss_cons (ps_asg (pe_ix (r := rIxL K) ix_list (pe_ix (r := rIxL K) ix_list (pe_fld (pv 0) rfl) (pv 1) (fun _ _ => rfl)) (pv 2) (fun _ _ => rfl)) (pg_tup rfl (pgs_cons (pg_name (i := 5) nd rfl (Or.inl rfl)) (pgs_cons (pg_name (i := 6) nd rfl (Or.inl rfl)) pgs_nil))))
      (pss_one (ps_ret (pe_tup (pa_cons (pe_op op_add (pv 3) (pv 5)) (pa_cons (pe_op op_catA (pv 4) (pv 6)) (pa_cons (pv 1) (pa_cons (pv 2) (pa_cons (pv 3) (pa_cons (pv 4) pa_nil))))))))), ?_⟩
    have lt : b.c < (tabW ss rs wide wide).length := by
      rw [(tab_len ss rs wide wide).1]
      omega
    have ey : (tabW ss rs wide wide)[b.c]? = some (brT ss rs wide b) := by
      unfold brT
      rw [List.getD_eq_getElem?_getD, List.getElem?_eq_getElem lt]
      rfl
    obtain ⟨l, hl, x0, x1, h1, W0, W1⟩ := R b.c _ ey
    rw [Nat.zero_add] at hl
    have sh := tab_short (ss := ss) (rs := rs) (wide := wide) wide _ (List.mem_of_getElem? ey)
    have ek1 : (brK ss rs wide b).1 = b.pd + (brT ss rs wide b).1 := rfl
    have ek2 : (brK ss rs wide b).2 = b.bg ++ (brT ss rs wide b).2 := rfl
    generalize brT ss rs wide b = y at W0 W1 sh ek1 ek2
    obtain ⟨xs, axs, Ws⟩ : ∃ xs, atI [x0, x1] (b.st : Int) = some xs ∧ WyA K H xs y := by
      rcases (show b.st = 0 ∨ b.st = 1 by omega) with e | e <;> rw [e]
      · exact ⟨x0, rfl, W0⟩
      · exact ⟨x1, rfl, W1⟩
    obtain ⟨t, u, zs, rfl, g1, g2, g3⟩ := Ws
    have lz := g3.len
    have ly := pb.len
    refine ⟨.ref p, rfl, p, C, dx, fs, .ref lr, rfl, hp, TW.cl, TW.n4, fr, .int b.c, rfl, lr, rl, b.c, .ref l, rfl, rfl, SqL.of hlr, atI_nat hl, .int b.st, rfl, l, _, b.st, .ref t, rfl, rfl, SqL.of h1, axs, t, _, rfl, g1, rfl, _, _, rfl, _, _, rfl, rfl, ?_⟩
    have fin : ∀ (q0 : Addr) (ws : List V) (H1 : Hp), Same H H1 → SqT K H1 q0 ws → Plc K H1 ws (b.bg ++ y.2) → ∀ t' H', H' = upd H1 t' (.tup [.int (b.pd + y.1), .ref q0, .int b.c, .int b.st, .int b.pd, .ref q1]) → H1 t' = none → Q (.ref t') H' := fun q0 ws H1 s1 a1 a2 t' H' e n => by
      subst e
      have s2 := same_upd (o := .tup [.int (b.pd + y.1), .ref q0, .int b.c, .int b.st, .int b.pd, .ref q1]) n
      refine q _ _ (s1.trans s2) ⟨t', q0, q1, ws, ys, rfl, ?_, (Tk.same s2).sq a1, ?_, (Tk.same (s1.trans s2)).sq hq1, pb.same (s1.trans s2)⟩
      · rw [upd_same]
        unfold brV
        rw [ek1]
      · rw [ek2]
        exact a2.same s2
    refine ⟨.int b.pd, rfl, .int y.1, rfl, _, _, rfl, rfl, .ref q1, rfl, .ref u, rfl, q1, u, ys, zs, rfl, rfl, hq1, g2, ?_, fun e => ?_, fun _ e => ?_, fun _ _ w2 hw2 => ?_⟩
    · rw [lz, ly, sizeLine_eq]
      omega
    · have e0 : b.bg = [] := List.eq_nil_of_length_eq_zero (by rw [← ly, e]; rfl)
      refine ⟨.int b.c, rfl, .int b.st, rfl, .int b.pd, rfl, .ref q1, rfl, by show 6 ≤ sizeLine; decide, fun t' ht' => fin u zs H (Same.refl _) g2 ?_ t' _ rfl ht'⟩
      rw [e0, List.nil_append]
      exact g3
    · have e0 : y.2 = [] := List.eq_nil_of_length_eq_zero (by rw [← lz, e]; rfl)
      refine ⟨.int b.c, rfl, .int b.st, rfl, .int b.pd, rfl, .ref q1, rfl, by show 6 ≤ sizeLine; decide, fun t' ht' => fin q1 ys H (Same.refl _) hq1 ?_ t' _ rfl ht'⟩
      rw [e0, List.append_nil]
      exact pb
    · have s2 := same_upd (o := .tup (ys ++ zs)) hw2
      exact ⟨.int b.c, rfl, .int b.st, rfl, .int b.pd, rfl, .ref q1, rfl, by show 6 ≤ sizeLine; decide, fun t' ht' => fin w2 (ys ++ zs) _ s2 (SqT.of upd_same) ((pb.same s2).app (g3.same s2)) t' _ rfl ht'⟩
/-! ### all branches -/
structure BrL (K : PySem.W.Frag) (H : Hp) (xs : List V) (ss : List Sh) (rs : List (List Nat)) (wide : Nat) (bs : List Br) : Prop where
  len : xs.length = bs.length
  at_ : ∀ (i : Nat) x b, xs[i]? = some x → bs[i]? = some b → BrA K H x ss rs wide b
theorem BrL.tk {H H' : Hp} {xs : List V} {ss : List Sh} {rs : List (List Nat)} {wide : Nat} {bs : List Br} (h : BrL K H xs ss rs wide bs) (t : Tk H H') : BrL K H' xs ss rs wide bs := ⟨h.len, fun i x b e1 e2 => (h.at_ i x b e1 e2).tk t⟩
theorem BrL.add {H : Hp} {xs : List V} {x : V} {ss : List Sh} {rs : List (List Nat)} {wide : Nat} {bs : List Br} {b : Br} (h : BrL K H xs ss rs wide bs) (hx : BrA K H x ss rs wide b) : BrL K H (xs ++ [x]) ss rs wide (bs ++ [b]) := by
  refine ⟨by rw [List.length_append, List.length_append, h.len]; rfl, fun i z w a b => ?_⟩
  by_cases hi : i < xs.length
  · rw [List.getElem?_append_left hi] at a
    rw [List.getElem?_append_left (by rw [← h.len]; exact hi)] at b
    exact h.at_ i z w a b
  · rw [List.getElem?_append_right (by omega)] at a
    rw [List.getElem?_append_right (by rw [← h.len]; omega), ← h.len] at b
    cases e : i - xs.length with
    | zero =>
      rw [e] at a b
      cases a
      cases b
      exact hx
    | succ j =>
      rw [e] at a
      simp at a
structure OkB (wide : Nat) (b : Br) : Prop where
  c : b.c ≤ wide
  st : b.st ≤ 1
  bg : b.bg.length ≤ b.c
abbrev sBs : Stmt := inClass cWy2 6
abbrev nBs : List Str := ["self", "column", "state", "paid", "begun", "branches", "window", "wide", "more", "behind", "price"]
theorem scBs : FnScope nBs ["self", "column", "state", "paid", "begun"] (defScope sBs) := ⟨rfl, rfl, rfl, by decide +kernel, rfl, by decide +kernel, by decide +kernel⟩
def spBs (K : PySem.W.Frag) (C CS : Addr) : Sp := fun vs H Q _ => ∃ (p q1 : Addr) (ss : List Sh) (rs : List (List Nat)) (wide : Nat) (b : Br) (ys : List V), vs = [.ref p, .int b.c, .int b.st, .int b.pd, .ref q1] ∧ WayAt K C CS H p ss rs wide ∧ (∀ k, k < ss.length → 1 ≤ wdt ss k) ∧ ss.length ≤ 16 ∧ OkB wide b ∧ b.c < wide ∧ wide ≤ 60 ∧ SqT K H q1 ys ∧ Plc K H ys b.bg ∧
  ∀ l xs H', Same H H' → H l = none → H' l = some (.lst xs) → BrL K H' xs ss rs wide (brs ss rs wide b) → Q (.ref l) H'
theorem ok_bs {f : Addr} {fd : FuncData} {k : Nat} (F : Fun K "_branches" "Ways._branches" sBs f fd) (TW : Twy K mg C) (SP : Tsp K mg CS) (GB : Mm P w K mg base (k + 1) C "_branch" ["self", "column", "state", "paid", "begun"] (spBr K C CS)) (GS : Mm P w K mg base (k + 1) CS "step" ["self", "beginning", "number"] (spStp CS)) :
    FnOk P w K mg base CX0 (k + 2) f fd ["self", "column", "state", "paid", "begun"] (spBs K C CS) := by
  obtain ⟨fB, fdB, GB, mB, bB⟩ := GB.ex
  obtain ⟨fS, fdS, GS, mS, bS⟩ := GS.ex
  refine F.ok scBs (fun vs H Q E h => ?_) (fun cdv A outer s H vs Q E hr h => ?_)
  · obtain ⟨p, q1, _, _, _, b, _, rfl, _⟩ := h
    rfl
  · obtain ⟨p, q1, ss, rs, wide, b, ys, rfl, wa, h1, s16, ob, hc, w60, hq1, pb, q⟩ := h
    have nd := scBs.nd
    refine ⟨_, C8.pss_cut (ps_set (i := 5) nd rfl (.inl rfl) (pe_lst (pa_cons (pe_meth (pv 0) TW.cl mB GB hr bB .nil pass0 (pa_cons (pe_op op_add (pv 1) pe_int) (pa_cons (pe_ix (r := rIxL K) ix_list (pe_fld (pe_fld (pv 0) rfl) rfl) (pv 2) (fun _ _ => rfl)) (pa_cons (pv 3) (pa_cons (pv 4) pa_nil))))) pa_nil)))
      (pss_cons (ps_for PassesOwn.never rfl (pi_list (pe_ix (r := rIxL K) ix_list (pe_fld (pv 0) rfl) (pv 1) (fun _ _ => rfl))) (pg_tup rfl (pgs_cons (pg_name (i := 6) nd rfl (Or.inl rfl)) (pgs_cons (pg_name (i := 7) nd rfl (Or.inl rfl)) (pgs_cons (pg_name (i := 8) nd rfl (Or.inl rfl)) pgs_nil))))
        (pss_cons (ps_asg (pe_meth (pe_fld (pv 0) rfl) SP.cl mS GS hr bS .nil pass0 (pa_cons (pe_ix (r := rIxL K) ix_list (pe_fld (pe_fld (pv 0) rfl) rfl) (pv 2) (fun _ _ => rfl)) (pa_cons (pe_ix (r := rIxT K) ix_tup (pv 6) pe_int (fun _ _ => rfl)) pa_nil))) (pg_tup rfl (pgs_cons (pg_name (i := 9) nd rfl (Or.inl rfl)) (pgs_cons (pg_name (i := 10) nd rfl (Or.inl rfl)) pgs_nil))))
        (pss_one (ps_expr (pe_bm PySem.F.plainAttrs_list PySem.F.slot_list_append PySem.F.type_list_append mt_append (pv 5) (pa_cons (pe_meth (pv 0) TW.cl mB GB hr bB .nil pass0 (pa_cons (pe_op op_add (pv 1) (pv 7)) (pa_cons (pv 9) (pa_cons (pe_op op_add (pe_op op_add (pv 3) (pv 8)) (pv 10)) (pa_cons (pe_op op_catA (pv 4) (pe_tup (pa_cons (pv 6) pa_nil))) pa_nil))))) pa_nil))))))
      (pss_one (ps_ret (pv 5)))), ?_⟩
    have ly := pb.len
    have hbg := ob.bg
    have hst := ob.st
    have waS : ∀ {H' : Hp}, Same H H' → WayAt K C CS H' p ss rs wide := fun s => wa.same s
    obtain ⟨dx, fs, lr, rl, hp, fw, fr, hlr, R, n1, n2, lw, xw, sp, fW, hlw, WT, fS, ⟨dx2, fs2, hsp, F2⟩, n3, n4, n5⟩ := id wa
    obtain ⟨lb, fb, hlb⟩ := F2.bw
    obtain ⟨le, fe, hle⟩ := F2.be
    have SA : ∀ {H' : Hp}, Same H H' → SplAt CS H' sp := fun s => SplAt.same ⟨dx2, fs2, hsp, F2⟩ s
    have aw : atI [V.int 0, V.int 0] (b.st : Int) = some (.int 0) := by
      rcases (show b.st = 0 ∨ b.st = 1 by omega) with e | e <;> rw [e] <;> rfl
    have ab : ∃ z : Nat, z ≤ 1 ∧ atI [V.int 0, V.int 1] (b.st : Int) = some (.int z) := by
      rcases (show b.st = 0 ∨ b.st = 1 by omega) with e | e <;> rw [e]
      · exact ⟨0, by decide, rfl⟩
      · exact ⟨1, by decide, rfl⟩
    obtain ⟨zb, zb1, ab⟩ := ab
    -- white
    refine ⟨fun σ' H' => ∃ (l : Addr) (x : V), σ' = [some (.ref p), some (.int b.c), some (.int b.st), some (.int b.pd), some (.ref q1), some (.ref l), none, none, none, none, none] ∧ Same H H' ∧ H l = none ∧ H' l = some (.lst [x]) ∧ BrA K H' x ss rs wide ⟨b.c + 1, 0, b.pd, b.bg⟩, ?_, ?_⟩
    · refine ⟨.ref p, rfl, p, dx, fs, rfl, hp, n4, .int b.c, rfl, b.c, 1, rfl, rfl, ?_⟩
      refine ⟨.ref p, rfl, p, C, dx, fs, .ref sp, rfl, hp, TW.cl, TW.n1, fS, sp, CS, dx2, fs2, .ref lb, rfl, hsp, SP.cl, SP.n3, fb, .int b.st, rfl, lb, _, b.st, .int 0, rfl, rfl, SqL.of hlb, aw, .int b.pd, rfl, .ref q1, rfl, p, q1, ss, rs, wide, ⟨b.c + 1, 0, b.pd, b.bg⟩, ys, rfl, wa, hc, w60, Nat.zero_le 1, hq1, pb, by show b.bg.length ≤ 1000; omega, fun x H1 s1 bx => ⟨by show 1 ≤ sizeLine; decide, fun l hl => ?_⟩⟩
      exact ⟨l, x, rfl, s1.trans (same_upd hl), s1.free hl, upd_same, bx.tk (.same (same_upd hl))⟩
    rintro _ H1 ⟨g, x0, rfl, s1, ng, hg, bx0⟩
    have hcw : b.c < xw.length := by rw [WT.1]; exact hc
    obtain ⟨lc, ws, ex, hlc, Wn⟩ := WT.2 b.c _ (List.getElem?_eq_getElem hcw)
    have ewn : xw[b.c]? = some (.ref lc) := by rw [← ex]; exact List.getElem?_eq_getElem hcw
    have ngl : ∀ {a o}, H a = some o → a ≠ g := fun e => ne_of_none e ng
    have hfit : ∀ kk ∈ fitN ss wide b.c ss.length, kk < ss.length ∧ b.c + wdt ss kk ≤ wide := fun kk h => fitN_mem h
    have ebs : brs ss rs wide b = ⟨b.c + 1, 0, b.pd, b.bg⟩ :: (fitN ss wide b.c ss.length).map fun k => ⟨b.c + wdt ss k, 1, b.pd + moreZ ss rs b.c k, b.bg ++ [(b.c, k)]⟩ := rfl
    rw [ebs] at q
    have lks : (fitN ss wide b.c ss.length).length ≤ 16 := by
      unfold fitN
      have := List.length_filter_le (fun k => decide (b.c + wdt ss k ≤ wide)) (List.range ss.length)
      rw [List.length_range] at this
      omega
    generalize fitN ss wide b.c ss.length = ks at Wn hfit q lks
    refine ⟨.ref p, rfl, p, C, dx, fs, .ref lw, rfl, s1 _ _ hp, TW.cl, TW.n3, fW, .int b.c, rfl, lw, xw, b.c, .ref lc, rfl, rfl, SqL.of (s1 _ _ hlw), atI_nat ewn, lc, rfl, ⟨_, SqL.of (s1 _ _ hlc)⟩, for_list (K := K) (a := lc) (xs := ws) (fun i σ H2 => ∃ y6 y7 y8 y9 y10 xs, σ = [some (.ref p), some (.int b.c), some (.int b.st), some (.int b.pd), some (.ref q1), some (.ref g), y6, y7, y8, y9, y10] ∧ Same H H2 ∧ H2 g = some (.lst xs) ∧
        BrL K H2 xs ss rs wide (⟨b.c + 1, 0, b.pd, b.bg⟩ :: (ks.take i).map fun k => ⟨b.c + wdt ss k, 1, b.pd + moreZ ss rs b.c k, b.bg ++ [(b.c, k)]⟩)) ⟨none, none, none, none, none, [x0], rfl, s1, hg, ⟨by rw [List.take_zero]; rfl, fun i x b' e1 e2 => ?_⟩⟩ (fun i σ H2 _ z => by
      obtain ⟨_, _, _, _, _, _, _, s2, _⟩ := z
      exact SqL.of (s2 _ _ hlc)) ?_ ?_⟩
    · rw [List.take_zero] at e2
      cases i with
      | zero =>
        cases e1
        cases e2
        exact bx0
      | succ i => simp at e1
    · rintro i x σ H2 hx ⟨y6, y7, y8, y9, y10, xs, rfl, s2, h2, B2⟩
      have hi : i < ks.length := by
        rw [← Wn.len]
        exact (List.getElem?_eq_some_iff.mp hx).1
      have ek : ks[i]? = some ks[i] := List.getElem?_eq_getElem hi
      have hf := hfit _ (List.getElem_mem hi)
      generalize ks[i] = kk at ek hf
      obtain ⟨t, pw, rfl, ht, hpw⟩ := Wn.at_ i x kk hx ek
      have wk := h1 kk hf.1
      refine ⟨t, _, rfl, SqT.of (s2 _ _ ht), rfl, _, _, rfl, _, _, rfl, _, _, rfl, rfl, ?_⟩
      refine ⟨.ref p, rfl, p, C, dx, fs, .ref sp, rfl, s2 _ _ hp, TW.cl, TW.n1, fS, sp, dx2, fs2, rfl, s2 _ _ hsp, F2.st, .ref p, rfl, p, C, dx, fs, .ref sp, rfl, s2 _ _ hp, TW.cl, TW.n1, fS, sp, CS, dx2, fs2, .ref le, rfl, s2 _ _ hsp, SP.cl, SP.n2, fe, .int b.st, rfl, le, _, b.st, .int zb, rfl, rfl, SqL.of (s2 _ _ hle), ab, .ref pw, rfl, pw, _, 1, .int kk, rfl, rfl, SqT.of (s2 _ _ hpw), rfl, sp, zb, kk, rfl, SA s2, zb1, fun t2 H3 s3 ht2 => ?_⟩
      refine ⟨t2, _, rfl, SqT.of ht2, rfl, _, _, rfl, _, _, rfl, rfl, ?_⟩
      have s23 := s2.trans s3
      have h3 := s3 _ _ h2
      have lx := B2.len
      rw [List.length_cons, List.length_map, List.length_take] at lx
      have one : ∀ {H' : Hp}, Same H H' → Plc K H' [V.ref pw] [(b.c, kk)] := fun s' => ⟨rfl, fun i x z a b => by
        cases i with
        | zero =>
          cases a
          cases b
          exact ⟨pw, rfl, SqT.of (s' _ _ hpw)⟩
        | succ i => simp at a⟩
      have fin : ∀ (q2 : Addr) (ys2 : List V) (H4 : Hp), Same H3 H4 → SqT K H4 q2 ys2 → Plc K H4 ys2 (b.bg ++ [(b.c, kk)]) → spBr K C CS [.ref p, .int ((b.c : Int) + (wdt ss kk : Int)), .int 1, .int (b.pd + moreZ ss rs b.c kk + 0), .ref q2] H4 (fun v H5 => ∃ (l : Addr) (acc : List V) (y : V), V.ref g = .ref l ∧ [v] = [y] ∧ H5 l = some (.lst acc) ∧ acc.length < sizeLine ∧ ∃ y6 y7 y8 y9 y10 xs, ([some (.ref p), some (.int b.c), some (.int b.st), some (.int b.pd), some (.ref q1), some (.ref g), some (.ref pw), some (.int (wdt ss kk)), some (.int (moreZ ss rs b.c kk)), some (.int 1), some (.int 0)] : L2.St) = [some (.ref p), some (.int b.c), some (.int b.st), some (.int b.pd), some (.ref q1), some (.ref g), y6, y7, y8, y9, y10] ∧ Same H (upd H5 l (.lst (acc ++ [y]))) ∧ (upd H5 l (.lst (acc ++ [y]))) g = some (.lst xs) ∧
          BrL K (upd H5 l (.lst (acc ++ [y]))) xs ss rs wide (⟨b.c + 1, 0, b.pd, b.bg⟩ :: (ks.take (i + 1)).map fun k => ⟨b.c + wdt ss k, 1, b.pd + moreZ ss rs b.c k, b.bg ++ [(b.c, k)]⟩)) (fun _ _ _ => False) := fun q2 ys2 H4 s4 a1 a2 => by
        refine ⟨p, q2, ss, rs, wide, ⟨b.c + wdt ss kk, 1, b.pd + moreZ ss rs b.c kk, b.bg ++ [(b.c, kk)]⟩, ys2, by rw [Int.add_zero]; rfl, waS (s23.trans s4), hf.2, w60, Nat.le_refl 1, a1, a2, ?_, fun x' H5 s5 bx => ?_⟩
        · show (b.bg ++ [(b.c, kk)]).length ≤ 1000
          rw [List.length_append, List.length_singleton]
          omega
        · have s45 := s4.trans s5
          have h5 := s45 _ _ h3
          have tk5 : Tk H5 (upd H5 g (.lst (xs ++ [x']))) := Tk.upd h5 (fun _ z => by cases z) (fun _ _ z => by cases z)
          refine ⟨g, xs, x', rfl, rfl, h5, small1000 (by omega), _, _, _, _, _, xs ++ [x'], rfl, same_over (s23.trans s45) ng, upd_same, ?_⟩
          rw [take_snoc ek, List.map_append, ← List.cons_append]
          exact ((B2.tk (.same (s3.trans s45))).tk tk5).add (bx.tk tk5)
      refine ⟨.ref g, rfl, .inl ⟨rfl, _, SqL.of h3⟩, .ref p, rfl, p, dx, fs, rfl, s23 _ _ hp, n4, .int b.c, rfl, .int (wdt ss kk), rfl, _, _, rfl, rfl, .int 1, rfl, .int b.pd, rfl, .int (moreZ ss rs b.c kk), rfl, _, _, rfl, rfl, .int 0, rfl, _, _, rfl, rfl, .ref q1, rfl, .ref pw, rfl, by show 1 ≤ sizeLine; decide, fun w1 hw1 => ?_⟩
      have sw := same_upd (o := .tup [V.ref pw]) hw1
      refine ⟨q1, w1, ys, [V.ref pw], rfl, rfl, (Tk.same (s23.trans sw)).sq hq1, SqT.of upd_same, ?_, fun e => ?_, (fun _ z => by cases z), fun _ _ w2 hw2 => ?_⟩
      · rw [ly, sizeLine_eq, List.length_singleton]
        omega
      · have e0 : b.bg = [] := List.eq_nil_of_length_eq_zero (by rw [← ly, e]; rfl)
        refine fin w1 [V.ref pw] _ sw (SqT.of upd_same) ?_
        rw [e0]
        exact one (s23.trans sw)
      · have s2' := same_upd (o := .tup (ys ++ [V.ref pw])) hw2
        exact fin w2 (ys ++ [V.ref pw]) _ (sw.trans s2') (SqT.of upd_same) ((pb.same ((s23.trans sw).trans s2')).app (one ((s23.trans sw).trans s2')))
    · rintro σ H2 ⟨y6, y7, y8, y9, y10, xs, rfl, s2, h2, B2⟩
      rw [List.take_of_length_le (by rw [Wn.len]; exact Nat.le_refl _)] at B2
      exact ⟨.ref g, rfl, q g xs H2 s2 ng h2 B2⟩
end
end Dt
namespace Dt
open PySem PySem.Spec PyProof.Rows L2 L2X
/-! ### all ways are unlike, and the queue stays short (pure) -/
theorem tabY_mem {ss : List Sh} {wide : Nat} (h1 : ∀ k, k < ss.length → 1 ≤ wdt ss k) : ∀ n c, c + n = wide → ∀ w, w ∈ (tabY ss wide wide).getD c [] ↔ Fw ss wide c w
  | n, c, hn, w => by
    constructor
    · intro hw
      have := tabY_fw h1 wide (Nat.le_refl _) c (by omega) w hw
      rw [show wide - wide + c = c by omega] at this
      exact this
    · intro h
      cases n with
      | zero =>
        obtain rfl : c = wide := by omega
        rw [tabY_end]
        cases w with
        | nil => exact List.mem_singleton.mpr rfl
        | cons p w =>
          obtain ⟨a, b, d, _⟩ := h
          have := h1 _ b
          omega
      | succ n =>
        rw [tabY_step h1 (by omega)]
        cases w with
        | nil => exact List.mem_append_left _ ((tabY_mem h1 n (c + 1) (by omega) []).mpr trivial)
        | cons p w =>
          obtain ⟨a, b, d, e⟩ := h
          by_cases ec : p.1 = c
          · refine List.mem_append_right _ (List.mem_flatten.mpr ⟨_, List.mem_map.mpr ⟨p.2, ?_, rfl⟩, List.mem_map.mpr ⟨w, ?_, ?_⟩⟩)
            · unfold fitN
              exact List.mem_filter.mpr ⟨List.mem_range.mpr b, decide_eq_true (by omega)⟩
            · have := h1 _ b
              rw [ec] at e d
              exact (tabY_mem h1 (n + 1 - wdt ss p.2) (c + wdt ss p.2) (by omega) w).mpr e
            · show (c, p.2) :: w = p :: w
              rw [← ec]
          · exact List.mem_append_left _ ((tabY_mem h1 n (c + 1) (by omega) (p :: w)).mpr ⟨by omega, b, d, e⟩)
termination_by n => n
decreasing_by
  all_goals simp_wf
  all_goals first | omega | (have := h1 _ b; omega)
theorem nodup_flat {α β : Type} (f : α → List β) : ∀ ks : List α, ks.Nodup → (∀ k ∈ ks, (f k).Nodup) → (∀ k ∈ ks, ∀ j ∈ ks, k ≠ j → ∀ x ∈ f k, x ∉ f j) → ((ks.map f).flatten).Nodup
  | [], _, _, _ => List.nodup_nil
  | k :: ks, nd, h, d => by
    obtain ⟨n1, n2⟩ := List.nodup_cons.mp nd
    rw [List.map_cons, List.flatten_cons]
    refine List.nodup_append.mpr ⟨h k List.mem_cons_self, nodup_flat f ks n2 (fun j hj => h j (List.mem_cons_of_mem _ hj)) (fun i hi j hj => d i (List.mem_cons_of_mem _ hi) j (List.mem_cons_of_mem _ hj)), fun x hx y hy e => ?_⟩
    obtain ⟨l, hl, hy⟩ := List.mem_flatten.mp hy
    obtain ⟨j, hj, rfl⟩ := List.mem_map.mp hl
    rw [← e] at hy
    exact d k List.mem_cons_self j (List.mem_cons_of_mem _ hj) (fun z => n1 (z ▸ hj)) x hx hy
theorem nodup_inj {α β : Type} {f : α → β} (i : ∀ a b, f a = f b → a = b) : ∀ {l : List α}, l.Nodup → (l.map f).Nodup
  | [], _ => List.nodup_nil
  | a :: l, h => by
    obtain ⟨n1, n2⟩ := List.nodup_cons.mp h
    rw [List.map_cons]
    refine List.nodup_cons.mpr ⟨fun z => ?_, nodup_inj i n2⟩
    obtain ⟨b, hb, e⟩ := List.mem_map.mp z
    exact n1 (i _ _ e ▸ hb)
theorem tabY_nd {ss : List Sh} {wide : Nat} (h1 : ∀ k, k < ss.length → 1 ≤ wdt ss k) : ∀ n c, c + n = wide → ((tabY ss wide wide).getD c []).Nodup
  | 0, c, hn => by
    obtain rfl : c = wide := by omega
    rw [tabY_end]
    exact List.nodup_cons.mpr ⟨List.not_mem_nil, List.nodup_nil⟩
  | n + 1, c, hn => by
    rw [tabY_step h1 (by omega)]
    refine List.nodup_append.mpr ⟨tabY_nd h1 n (c + 1) (by omega), nodup_flat _ _ fitN_nodup (fun k hk => ?_) (fun k hk j hj ne x hx hx' => ?_), fun x hx y hy e => ?_⟩
    · obtain ⟨a, b⟩ := fitN_mem hk
      have := h1 k a
      exact nodup_inj (fun a b e => (List.cons.inj e).2) (tabY_nd h1 (n + 1 - wdt ss k) (c + wdt ss k) (by omega))
    · obtain ⟨v, _, rfl⟩ := List.mem_map.mp hx
      obtain ⟨v', _, e⟩ := List.mem_map.mp hx'
      injection e with e _
      injection e with _ e
      exact ne e.symm
    · obtain ⟨l, hl, hy⟩ := List.mem_flatten.mp hy
      obtain ⟨k, hk, rfl⟩ := List.mem_map.mp hl
      obtain ⟨v, _, rfl⟩ := List.mem_map.mp hy
      have f := (tabY_mem h1 n (c + 1) (by omega) x).mp hx
      rw [e] at f
      have := f.1
      change c + 1 ≤ c at this
      omega
termination_by n => n
decreasing_by
  all_goals simp_wf
  all_goals first | omega | (have := h1 _ a; omega)
theorem brW_nd {ss : List Sh} {rs : List (List Nat)} {wide : Nat} (h1 : ∀ k, k < ss.length → 1 ≤ wdt ss k) : (brW ss rs wide ⟨0, 0, 0, []⟩).Nodup := by
  unfold brW
  refine nodup_inj (fun a b e => ?_) (tabY_nd h1 wide 0 (by omega))
  injection e with _ e
/-- how long the queue may be: seventeen for each step of those found, and of the one under way -/
def QB (ss : List Sh) (rs : List (List Nat)) (wide : Nat) (F : List Wy) (q : List Br) : Prop := ∀ b ∈ q, (∀ b' ∈ q, wLt (brK ss rs wide b') (brK ss rs wide b) = false) → q.length ≤ 1 + 17 * (61 * F.length + b.c)
theorem QB.start {ss : List Sh} {rs : List (List Nat)} {wide : Nat} {b : Br} : QB ss rs wide [] [b] := fun b' _ _ => by
  show 1 ≤ _
  omega
theorem QB.perm {ss : List Sh} {rs : List (List Nat)} {wide : Nat} {F : List Wy} {q q' : List Br} (h : QB ss rs wide F q) (p : q'.Perm q) : QB ss rs wide F q' := fun b hb l => by
  rw [p.length_eq]
  exact h b (p.mem_iff.mp hb) fun b' hb' => l b' (p.mem_iff.mpr hb')
theorem brs_len {ss : List Sh} {rs : List (List Nat)} {wide : Nat} {b : Br} (s16 : ss.length ≤ 16) : (brs ss rs wide b).length ≤ 17 := by
  unfold brs fitN
  rw [List.length_cons, List.length_map]
  have := List.length_filter_le (fun k => decide (b.c + wdt ss k ≤ wide)) (List.range ss.length)
  rw [List.length_range] at this
  omega
theorem QB.found {ss : List Sh} {rs : List (List Nat)} {wide : Nat} {F : List Wy} {q : List Br} {b : Br} {y : Wy} (h : QB ss rs wide F (b :: q)) (least : ∀ b' ∈ q, wLt (brK ss rs wide b') (brK ss rs wide b) = false) (hb : b.c ≤ 60) : QB ss rs wide (F ++ [y]) q := fun b' _ _ => by
  have := h b List.mem_cons_self fun x hx => by
    rcases List.mem_cons.mp hx with rfl | hx
    · exact wLt_irr _
    · exact least x hx
  rw [List.length_cons] at this
  rw [List.length_append, List.length_singleton]
  omega
theorem brs_c {ss : List Sh} {rs : List (List Nat)} {wide : Nat} {b x : Br} (h1 : ∀ k, k < ss.length → 1 ≤ wdt ss k) (hx : x ∈ brs ss rs wide b) : b.c + 1 ≤ x.c := by
  rcases List.mem_cons.mp hx with rfl | hx
  · exact Nat.le_refl _
  · obtain ⟨k, hk, rfl⟩ := List.mem_map.mp hx
    have := h1 k (fitN_mem hk).1
    show b.c + 1 ≤ b.c + wdt ss k
    omega
theorem QB.len {ss : List Sh} {rs : List (List Nat)} {wide : Nat} {F : List Wy} {q : List Br} {b : Br} (h : QB ss rs wide F (b :: q)) (least : ∀ b' ∈ q, wLt (brK ss rs wide b') (brK ss rs wide b) = false) (s16 : ss.length ≤ 16) : (brs ss rs wide b ++ q).length ≤ 1 + 17 * (61 * F.length + b.c + 1) := by
  have := h b List.mem_cons_self fun x hx => by
    rcases List.mem_cons.mp hx with rfl | hx
    · exact wLt_irr _
    · exact least x hx
  have l := brs_len (rs := rs) (wide := wide) (b := b) s16
  rw [List.length_cons] at this
  rw [List.length_append]
  omega
theorem QB.more {ss : List Sh} {rs : List (List Nat)} {wide : Nat} {F : List Wy} {q : List Br} {b : Br} (h1 : ∀ k, k < ss.length → 1 ≤ wdt ss k) (s16 : ss.length ≤ 16) (S : Srch ss rs wide F (b :: q)) (h : QB ss rs wide F (b :: q)) (e : b.c < wide) (least : ∀ b' ∈ q, wLt (brK ss rs wide b') (brK ss rs wide b) = false) : QB ss rs wide F (brs ss rs wide b ++ q) := fun x hx lx => by
  have l := h.len least s16
  have S' := S.more h1 e
  -- the child that holds the least way
  have k := brK_least (rs := rs) h1 (Nat.le_of_lt e)
  obtain ⟨k1, k2⟩ := k
  have hall : ∀ y ∈ allB ss rs wide (b :: q), wLt y (brK ss rs wide b) = false := fun y hy => by
    obtain ⟨b', hb', hy2⟩ := allB_mem.mp hy
    rcases List.mem_cons.mp hb' with rfl | hb'
    · exact k2 y hy2
    · exact wle_trans (least b' hb') ((brK_least h1 (S.cs b' (List.mem_cons_of_mem _ hb'))).2 y hy2)
  have ea : allB ss rs wide (brs ss rs wide b ++ q) = allB ss rs wide (b :: q) := by
    rw [allB_app, allB_cons, brW_step h1 e]
  rw [brW_step h1 e] at k1
  obtain ⟨c, hc, hkc⟩ := allB_mem.mp k1
  have hcm : c ∈ brs ss rs wide b ++ q := List.mem_append_left _ hc
  have kx := brK_least (rs := rs) h1 (S'.cs x hx)
  have u1 : wLt (brK ss rs wide b) (brK ss rs wide x) = false := wle_trans (lx c hcm) ((brK_least h1 (S'.cs c hcm)).2 _ hkc)
  have u2 : wLt (brK ss rs wide x) (brK ss rs wide b) = false := hall _ (by
    rw [← ea]
    exact allB_mem.mpr ⟨x, hx, kx.1⟩)
  have ex := wLt_tri u1 u2
  have cx : b.c + 1 ≤ x.c := by
    rcases List.mem_append.mp hx with z | z
    · exact brs_c h1 z
    · exfalso
      -- the same way twice
      have nd : (F ++ allB ss rs wide (b :: q)).Nodup := S.p.nodup_iff.mpr (brW_nd h1)
      have nd2 := (List.nodup_append.mp nd).2.1
      rw [allB_cons] at nd2
      exact (List.nodup_append.mp nd2).2.2 _ (brK_least h1 (Nat.le_of_lt e)).1 _ (allB_mem.mpr ⟨x, z, by rw [ex]; exact kx.1⟩) rfl
  omega
end Dt
namespace L2X
open PySem PySem.Spec PyProof.Rows L2
theorem perm_of_map {α β : Type} {f : α → β} {a m : List β} (h : a.Perm m) : ∀ l : List α, l.map f = a → ∃ l' : List α, l'.Perm l ∧ l'.map f = m := by
  induction h with
  | nil =>
    intro l e
    exact ⟨[], by rw [List.map_eq_nil_iff.mp e], rfl⟩
  | cons x _ ih =>
    intro l e
    obtain ⟨y, t, rfl, ex, et⟩ := List.map_eq_cons_iff.mp e
    obtain ⟨l', p, e'⟩ := ih t et
    exact ⟨y :: l', List.Perm.cons y p, by rw [List.map_cons, ex, e']⟩
  | swap x y t =>
    intro l e
    obtain ⟨u, l1, rfl, eu, e1⟩ := List.map_eq_cons_iff.mp e
    obtain ⟨v, l2, rfl, ev, e2⟩ := List.map_eq_cons_iff.mp e1
    exact ⟨v :: u :: l2, List.Perm.swap u v l2, by rw [List.map_cons, List.map_cons, eu, ev, e2]⟩
  | trans _ _ ih1 ih2 =>
    intro l e
    obtain ⟨l1, p1, e1⟩ := ih1 l e
    obtain ⟨l2, p2, e2⟩ := ih2 l1 e1
    exact ⟨l2, p2.trans p1, e2⟩
end L2X
namespace Dt
open PySem PySem.Spec PyProof.Rows L2 L2X
open PySem.W (dataLt alike alikeAll keyToksAll)
open SX (S)
section
variable {ss : List Sh} {rs : List (List Nat)} {wide : Nat}
theorem dlt_brD {b c : Br} (h : wLt (brK ss rs wide b) (brK ss rs wide c) = true) : dataLt (brD ss rs wide b) (brD ss rs wide c) = true := by
  unfold brD
  generalize brK ss rs wide b = y at h
  generalize brK ss rs wide c = z at h
  have e1 : PyData.eqv (.int y.1) (.int z.1) = decide (y.1 = z.1) := by
    rw [PyData.eqv]
    exact Bool.eq_iff_iff.mpr (by simp)
  have e2 : PyData.eqv (.tuple (y.2.map pD)) (.tuple (z.2.map pD)) = decide (y.2 = z.2) := by
    rw [PyData.eqv, eqv_pDs]
  rw [PySem.W.dataLt_tuple, PySem.W.dataLt_cons (by simp [alike]), e1, PySem.W.dataLt_int]
  unfold wLt at h
  by_cases c1 : y.1 = z.1
  · rw [if_pos c1] at h
    rw [if_pos (decide_eq_true c1), PySem.W.dataLt_cons (by simp only [alike]; exact alike_pDs _ _), e2, PySem.W.dataLt_tuple, dlt_pDs]
    by_cases c2 : y.2 = z.2
    · rw [c2] at h
      have : psLt z.2 z.2 = false := by
        rw [← dlt_pDs]
        exact lex_irrefl _
      rw [this] at h
      cases h
    · rw [if_neg (by simpa using c2)]
      exact h
  · rw [if_neg c1] at h
    rw [if_neg (by simpa using c1)]
    exact h
theorem alike_brD (b c : Br) : alike (brD ss rs wide b) (brD ss rs wide c) = true := by
  unfold brD
  simp [alike, alikeAll, alike_pDs]
theorem depth_pDs : ∀ l : List (Nat × Nat), PyData.depthAll (l.map pD) ≤ 3
  | [] => by simp [PyData.depthAll]
  | p :: r => by
    have := depth_pDs r
    rw [List.map_cons]
    simp only [PyData.depthAll, PyData.depth, pD]
    omega
theorem depth_brD (b : Br) : (brD ss rs wide b).depth ≤ 50 := by
  have h1 := depth_pDs (brK ss rs wide b).2
  have h2 := depth_pDs b.bg
  unfold brD
  simp only [PyData.depth, PyData.depthAll]
  omega
theorem BrA.dp {K : PySem.W.Frag} {H : Hp} {x : V} {b : Br} (h : BrA K H x ss rs wide b) : Dp K H x (brD ss rs wide b) := by
  obtain ⟨t, q0, q1, zs, ys, rfl, h1, h2, h3, h4, h5⟩ := h
  exact .tup (SqT.of h1) (.cons (.int _) (.cons (.tup h2 (dp_places h3)) (.cons (.int _) (.cons (.int _) (.cons (.int _) (.cons (.tup h4 (dp_places h5)) .nil))))))
end
/-! ### the queue -/
abbrev Qe : Type := V × Br
def prQ (ss : List Sh) (rs : List (List Nat)) (wide : Nat) (e : Qe) : Pr := (e.1, brD ss rs wide e.2)
/-- the queue as it stands -/
structure QAt (K : PySem.W.Frag) (H : Hp) (ql : Addr) (ss : List Sh) (rs : List (List Nat)) (wide : Nat) (es : List Qe) : Prop where
  hq : H ql = some (.lst ((es.map (prQ ss rs wide)).map Prod.fst))
  ho : HeapOk (es.map (prQ ss rs wide))
  br : ∀ e ∈ es, BrA K H e.1 ss rs wide e.2
theorem QAt.same {K : PySem.W.Frag} {H H' : Hp} {ql : Addr} {ss : List Sh} {rs : List (List Nat)} {wide : Nat} {es : List Qe} (h : QAt K H ql ss rs wide es) (s : Same H H') : QAt K H' ql ss rs wide es := ⟨s _ _ h.hq, h.ho, fun e he => (h.br e he).tk (.same s)⟩
theorem hd_of {K : PySem.W.Frag} {H : Hp} {ql : Addr} {ss : List Sh} {rs : List (List Nat)} {wide : Nat} {es : List Qe} {zs : List V} (hq : H ql = some (.lst zs)) (br : ∀ e ∈ es, BrA K H e.1 ss rs wide e.2) : HD K H ql (fun p => p ∈ es.map (prQ ss rs wide)) := by
  refine ⟨fun p q hp hq' => ?_, fun p hp => ?_, fun p hp => ?_, fun p hp ys => ?_⟩
  · obtain ⟨e, _, rfl⟩ := List.mem_map.mp hp
    obtain ⟨e', _, rfl⟩ := List.mem_map.mp hq'
    exact alike_brD _ _
  · obtain ⟨e, _, rfl⟩ := List.mem_map.mp hp
    exact fun z => nomatch z
  · obtain ⟨e, _, rfl⟩ := List.mem_map.mp hp
    exact depth_brD _
  · obtain ⟨e, he, rfl⟩ := List.mem_map.mp hp
    exact ((br e he).tk (Tk.upd hq (fun _ z => by cases z) (fun _ _ z => by cases z))).dp
/-- the ways of all branches are many -/
theorem brW_ne {ss : List Sh} {rs : List (List Nat)} {wide : Nat} (h1 : ∀ k, k < ss.length → 1 ≤ wdt ss k) {b : Br} (hc : b.c ≤ wide) : 1 ≤ (brW ss rs wide b).length := by
  have := (brK_least (rs := rs) h1 hc).1
  exact List.length_pos_iff.mpr (List.ne_nil_of_mem this)
theorem len_allB {ss : List Sh} {rs : List (List Nat)} {wide : Nat} (h1 : ∀ k, k < ss.length → 1 ≤ wdt ss k) : ∀ q : List Br, (∀ b ∈ q, b.c ≤ wide) → q.length ≤ (allB ss rs wide q).length
  | [], _ => Nat.zero_le _
  | b :: q, h => by
    have a := brW_ne (rs := rs) h1 (h b List.mem_cons_self)
    have c := len_allB (rs := rs) h1 q fun x hx => h x (List.mem_cons_of_mem _ hx)
    rw [allB_cons, List.length_append, List.length_cons]
    omega
theorem Srch.len {ss : List Sh} {rs : List (List Nat)} {wide : Nat} {F : List Wy} {q : List Br} (h1 : ∀ k, k < ss.length → 1 ≤ wdt ss k) (h : Srch ss rs wide F q) : q.length ≤ ((tabY ss wide wide).getD 0 []).length := by
  have a := len_allB (rs := rs) h1 q h.cs
  have b := h.p.length_eq
  rw [List.length_append] at b
  unfold brW at b
  rw [List.length_map] at b
  change _ = ((tabY ss wide wide).getD 0 []).length at b
  omega
theorem brs_ok {ss : List Sh} {rs : List (List Nat)} {wide : Nat} (h1 : ∀ k, k < ss.length → 1 ≤ wdt ss k) {b : Br} (ob : OkB wide b) (hc : b.c < wide) : ∀ x ∈ brs ss rs wide b, OkB wide x := fun x hx => by
  have hb := ob.bg
  rcases List.mem_cons.mp hx with rfl | hx
  · exact ⟨hc, Nat.zero_le 1, by show b.bg.length ≤ b.c + 1; omega⟩
  · obtain ⟨k, hk, rfl⟩ := List.mem_map.mp hx
    obtain ⟨k1, k2⟩ := fitN_mem hk
    have := h1 k k1
    refine ⟨k2, Nat.le_refl 1, ?_⟩
    show (b.bg ++ [(b.c, k)]).length ≤ b.c + wdt ss k
    rw [List.length_append, List.length_singleton]
    omega
theorem map_prQ (ss : List Sh) (rs : List (List Nat)) (wide : Nat) (es : List Qe) : (es.map (prQ ss rs wide)).map Prod.fst = es.map Prod.fst := by
  rw [List.map_map]
  rfl
abbrev sFo : Stmt := inClass cWy2 5
abbrev nFo : List Str := ["self", "many", "found", "queue", "cost", "windows", "column", "state", "paid", "begun", "branch"]
theorem scFo : FnScope nFo ["self", "many"] (defScope sFo) := ⟨rfl, rfl, rfl, by decide +kernel, rfl, by decide +kernel, by decide +kernel⟩
def tdW (rs : List (List Nat)) (y : Wy) : Wy := ((whiteN rs : Int) + y.1, y.2)
def spFo (K : PySem.W.Frag) (C CS : Addr) : Sp := fun vs H Q _ => ∃ (p : Addr) (ss : List Sh) (rs : List (List Nat)) (wide many : Nat), vs = [.ref p, .int many] ∧ WayAt K C CS H p ss rs wide ∧ (∀ k, k < ss.length → 1 ≤ wdt ss k) ∧ ss.length ≤ 16 ∧ wide ≤ 60 ∧ many ≤ 1000 ∧
  ∀ l xs (F : List Wy) H', Same H H' → H l = none → H' l = some (.lst xs) → Wys K H' xs (F.map (tdW rs)) → (∀ S, Sd S → S.Perm (brW ss rs wide ⟨0, 0, 0, []⟩) → F = S.take many) → Q (.ref l) H'
section
variable {P : Program} {w : World} {K : PySem.W.Frag} {mg : Str → Option Value} {base : Heap} {C CA CS : Addr}
theorem ok_fo {f : Addr} {fd : FuncData} {k : Nat} (F : Fun K "first_ones" "Ways.first_ones" sFo f fd) (T : Tx mg) (TW : Twy K mg C) (h1p : mg "heappop" = some (.builtin "_heapq.heappop")) (h2p : mg "heappush" = some (.builtin "_heapq.heappush"))
    (GB : Mm P w K mg base (k + 1) C "_branch" ["self", "column", "state", "paid", "begun"] (spBr K C CS)) (GS : Mm P w K mg base (k + 1) C "_branches" ["self", "column", "state", "paid", "begun"] (spBs K C CS)) (GT : Mm P w K mg base (k + 1) C "told" ["self", "way"] (spTo K C CS)) :
    FnOk P w K mg base CX0 (k + 2) f fd ["self", "many"] (spFo K C CS) := by
  obtain ⟨fB, fdB, GB, mB, bB⟩ := GB.ex
  obtain ⟨fS, fdS, GS, mS, bS⟩ := GS.ex
  obtain ⟨fT, fdT, GT, mT, bT⟩ := GT.ex
  refine F.ok scFo (fun vs H Q E h => ?_) (fun cdv A outer s H vs Q E hr h => ?_)
  · obtain ⟨p, _, _, _, many, rfl, _⟩ := h
    rfl
  · obtain ⟨p, ss, rs, wide, many, rfl, wa, h1, s16, w60, m1000, q⟩ := h
    have nd := scFo.nd
    have hu : (A.deeper (envOfC "Ways.first_ones" (defScope sFo) s.heap.objs.size f cdv)).units + 64 < cLine := by
      have := hr.un
      omega
    refine ⟨_, pss_cons (ps_set (i := 2) nd rfl (.inl rfl) (pe_lst pa_nil))
      (C8.pss_cut (ps_set (i := 3) nd rfl (.inl rfl) (pe_lst (pa_cons (pe_meth (pv 0) TW.cl mB GB hr bB .nil pass0 (pa_cons pe_int (pa_cons pe_int (pa_cons pe_int (pa_cons (pe_tup pa_nil) pa_nil))))) pa_nil)))
      (pss_cons (ps_while PassesOwn.never (PW.pt (pw_and (pt_truth (pv 3) (fun _ => rfl)) (pw_and1 (pt_cmpR op_lt (pe_callB call_len_seq (by rfl) T.len PySem.boot_len (pa_cons (pv 2) pa_nil)) (pv 1) (nomark _)))))
        (C8.pss_cut (ps_asg (pe_callGB (cr_hpop hu) (by rfl) h1p (pa_cons (pv 3) pa_nil)) (pg_tup rfl (pgs_cons (pg_name (i := 4) nd rfl (Or.inl rfl)) (pgs_cons (pg_name (i := 5) nd rfl (Or.inl rfl)) (pgs_cons (pg_name (i := 6) nd rfl (Or.inl rfl)) (pgs_cons (pg_name (i := 7) nd rfl (Or.inl rfl)) (pgs_cons (pg_name (i := 8) nd rfl (Or.inl rfl)) (pgs_cons (pg_name (i := 9) nd rfl (Or.inl rfl)) pgs_nil))))))))
        (pss_cons (ps_if (pt_cmpR op_eq (pv 6) (pe_callB call_len_seq (by rfl) T.len PySem.boot_len (pa_cons (pe_fld (pv 0) rfl) pa_nil)) (nomark _))
            (pss_cons (ps_expr (pe_bm PySem.F.plainAttrs_list PySem.F.slot_list_append PySem.F.type_list_append mt_append (pv 2) (pa_cons (pe_meth (pv 0) TW.cl mT GT hr bT .nil pass0 (pa_cons (pe_tup (pa_cons (pv 4) (pa_cons (pv 5) pa_nil))) pa_nil)) pa_nil))) (pss_one ps_continue)) pss_nil)
        (pss_one (ps_for PassesOwn.never rfl (pi_list (pe_meth (pv 0) TW.cl mS GS hr bS .nil pass0 (pa_cons (pv 6) (pa_cons (pv 7) (pa_cons (pv 8) (pa_cons (pv 9) pa_nil)))))) (pg_name (i := 10) nd rfl (Or.inl rfl))
          (pss_one (ps_expr (pe_callGB (cr_hpush hu) (by rfl) h2p (pa_cons (pv 3) (pa_cons (pv 10) pa_nil))))))))))
      (pss_one (ps_ret (pv 2))))), ?_⟩
    obtain ⟨dx, fs, lr, rl, hp, fw, fr, hlr, R, n1, n2, lw, xw, sp, fW, hlw, WT, fS, SA, n3, n4, n5⟩ := id wa
    refine ⟨by show 0 ≤ sizeLine; decide, fun fl hfl => ?_⟩
    have s1 := same_upd (o := .lst []) hfl
    have hfl1 : (upd H fl (.lst [])) fl = some (.lst []) := upd_same
    generalize upd H fl (.lst []) = H1 at s1 hfl1
    refine ⟨fun σ' H' => ∃ (ql : Addr) (e0 : Qe), σ' = [some (.ref p), some (.int many), some (.ref fl), some (.ref ql), none, none, none, none, none, none, none] ∧ Same H1 H' ∧ H1 ql = none ∧ QAt K H' ql ss rs wide [e0] ∧ e0.2 = ⟨0, 0, 0, []⟩, ?_, ?_⟩
    · refine ⟨.ref p, rfl, p, dx, fs, rfl, s1 _ _ hp, n4, by show 0 ≤ sizeLine; decide, fun t0 ht0 => ?_⟩
      have st := same_upd (o := .tup []) ht0
      refine ⟨p, t0, ss, rs, wide, ⟨0, 0, 0, []⟩, [], rfl, wa.same (s1.trans st), Nat.zero_le _, w60, Nat.zero_le 1, SqT.of upd_same, ⟨rfl, fun i x z e => by cases e⟩, Nat.zero_le _, fun x H3 s3 bx => ⟨by show 1 ≤ sizeLine; decide, fun ql hql => ?_⟩⟩
      have s13 := st.trans s3
      refine ⟨ql, (x, ⟨0, 0, 0, []⟩), rfl, s13.trans (same_upd hql), s13.free hql, ⟨upd_same, fun i i0 il => absurd il (by simp; omega), fun e he => ?_⟩, rfl⟩
      rw [List.mem_singleton.mp he]
      exact bx.tk (.same (same_upd hql))
    rintro _ H2 ⟨ql, e0, rfl, s2, nq, Q0, ee0⟩
    have nfl : fl ≠ ql := ne_of_none hfl1 nq
    have ngH : ∀ {H' : Hp} {o : HO}, Same H H' → Same H (upd H' ql o) := fun s => same_over s (s1.free nq)
    have ngF : ∀ {H' : Hp} {o : HO}, Same H H' → Same H (upd H' fl o) := fun s => same_over s hfl
    have S0 : Srch ss rs wide [] [e0.2] := by rw [ee0]; exact Srch.start
    refine ⟨fun m σ H' => ∃ y4 y5 y6 y7 y8 y9 y10 xf F es, σ = [some (.ref p), some (.int many), some (.ref fl), some (.ref ql), y4, y5, y6, y7, y8, y9, y10] ∧ m = szQ ss wide (es.map Prod.snd) ∧ Same H H' ∧ H' fl = some (.lst xf) ∧ Wys K H' xf (F.map (tdW rs)) ∧ QAt K H' ql ss rs wide es ∧ Srch ss rs wide F (es.map Prod.snd) ∧ QB ss rs wide F (es.map Prod.snd) ∧ (∀ e ∈ es, OkB wide e.2) ∧ F.length ≤ many,
      ⟨_, none, none, none, none, none, none, none, [], [], [e0], rfl, rfl, s1.trans s2, s2 _ _ hfl1, Wys.nil, Q0, S0, QB.start, fun e he => ?_, Nat.zero_le _⟩, ?_⟩
    · rw [List.mem_singleton.mp he, ee0]
      exact ⟨Nat.zero_le _, Nat.zero_le 1, Nat.zero_le _⟩
    rintro m σ H3 ⟨y4, y5, y6, y7, y8, y9, y10, xf, F, es, rfl, rfl, s3, hf3, W3, Q3, S3, B3, O3, lF⟩
    have lxf : xf.length = F.length := by rw [W3.len, List.length_map]
    have exit : (es.map Prod.snd = [] ∨ F.length = many) → Q (.ref fl) H3 := fun e => q fl xf F H3 s3 hfl hf3 W3 fun S hS p' => S3.done e lF hS p'
    refine ⟨.ref ql, rfl, _, .inl ⟨_, SqL.of Q3.hq, rfl⟩, ?_⟩
    rw [map_prQ]
    cases hes : es with
    | nil => exact iteE rfl ⟨.ref fl, rfl, exit (.inl (by rw [hes]; rfl))⟩
    | cons e1 es1 =>
    refine iteY rfl ⟨.ref fl, rfl, fl, xf, rfl, .inl (SqL.of hf3), .int many, rfl, _, _, rfl, rfl, _, rfl, ?_⟩
    rw [lxf]
    by_cases cm : F.length < many
    rotate_left
    · exact iteE (decide_eq_false (by omega)) ⟨.ref fl, rfl, exit (.inr (by omega))⟩
    refine iteY (decide_eq_true (by omega)) ⟨fun σ' H' => ∃ m', m' < szQ ss wide (es.map Prod.snd) ∧ ∃ y4 y5 y6 y7 y8 y9 y10 xf F es, σ' = [some (.ref p), some (.int many), some (.ref fl), some (.ref ql), y4, y5, y6, y7, y8, y9, y10] ∧ m' = szQ ss wide (es.map Prod.snd) ∧ Same H H' ∧ H' fl = some (.lst xf) ∧ Wys K H' xf (F.map (tdW rs)) ∧ QAt K H' ql ss rs wide es ∧ Srch ss rs wide F (es.map Prod.snd) ∧ QB ss rs wide F (es.map Prod.snd) ∧ (∀ e ∈ es, OkB wide e.2) ∧ F.length ≤ many, fun _ _ h => by rw [hes] at h; exact h, ?_⟩
    have nes : es ≠ [] := by rw [hes]; exact List.cons_ne_nil _ _
    clear hes e1 es1 exit
    -- the least of the queue
    refine ⟨fun σ' H' => ∃ (e0 : Qe) (es' : List Qe) (q0 q1 : Addr) (zs ys : List V), σ' = [some (.ref p), some (.int many), some (.ref fl), some (.ref ql), some (.int (brK ss rs wide e0.2).1), some (.ref q0), some (.int e0.2.c), some (.int e0.2.st), some (.int e0.2.pd), some (.ref q1), y10] ∧ Same H H' ∧ H' fl = some (.lst xf) ∧ Wys K H' xf (F.map (tdW rs)) ∧ QAt K H' ql ss rs wide es' ∧ SqT K H' q0 zs ∧ Plc K H' zs (brK ss rs wide e0.2).2 ∧ SqT K H' q1 ys ∧ Plc K H' ys e0.2.bg ∧ (e0 :: es').Perm es ∧ ∀ e ∈ es', wLt (brK ss rs wide e.2) (brK ss rs wide e0.2) = false, ?_, ?_⟩
    · refine ⟨.ref ql, rfl, ql, es.map (prQ ss rs wide), rfl, Q3.hq, Q3.ho, fun z => nes (List.map_eq_nil_iff.mp z), hd_of Q3.hq Q3.br, fun x d ps' ho' pm least => ?_⟩
      obtain ⟨es2, p2, e2⟩ := perm_of_map (f := prQ ss rs wide) pm.symm es rfl
      obtain ⟨e0', es', rfl, ex, e3⟩ := List.map_eq_cons_iff.mp e2
      have m0 : e0' ∈ es := p2.mem_iff.mp List.mem_cons_self
      have tk3 : Tk H3 (upd H3 ql (.lst (ps'.map Prod.fst))) := Tk.upd Q3.hq (fun _ z => by cases z) (fun _ _ z => by cases z)
      obtain ⟨t, q0, q1, zs, ys, et, ht, hq0, pz, hq1, py⟩ := (Q3.br e0' m0).tk tk3
      have exx : x = e0'.1 := (congrArg Prod.fst ex).symm
      have edd : d = brD ss rs wide e0'.2 := (congrArg Prod.snd ex).symm
      rw [exx, et]
      refine ⟨t, _, rfl, SqT.of ht, rfl, _, _, rfl, _, _, rfl, _, _, rfl, _, _, rfl, _, _, rfl, _, _, rfl, rfl, e0', es', q0, q1, zs, ys, rfl, ngH s3, by rw [upd_ne nfl]; exact hf3, W3.tk tk3, ⟨by rw [upd_same, e3], by rw [e3]; exact ho', fun e he => (Q3.br e (p2.mem_iff.mp (List.mem_cons_of_mem _ he))).tk tk3⟩, hq0, pz, hq1, py, p2, fun e he => ?_⟩
      cases c : wLt (brK ss rs wide e.2) (brK ss rs wide e0'.2) with
      | false => rfl
      | true =>
        have z := least (prQ ss rs wide e) (List.mem_map_of_mem (p2.mem_iff.mp (List.mem_cons_of_mem _ he)))
        rw [edd] at z
        have z' : dataLt (brD ss rs wide e.2) (brD ss rs wide e0'.2) = false := z
        rw [dlt_brD c] at z'
        cases z'
    rintro _ H4 ⟨e0', es', q0, q1, zs, ys, rfl, s4, hf4, W4, Q4, hq0, pz, hq1, py, pm, least⟩
    have pm2 : (e0'.2 :: es'.map Prod.snd).Perm (es.map Prod.snd) := by
      have := pm.map Prod.snd
      exact this
    have S4 : Srch ss rs wide F (e0'.2 :: es'.map Prod.snd) := S3.perm pm2
    have B4 : QB ss rs wide F (e0'.2 :: es'.map Prod.snd) := B3.perm pm2
    have least2 : ∀ b' ∈ es'.map Prod.snd, wLt (brK ss rs wide b') (brK ss rs wide e0'.2) = false := fun b' hb => by
      obtain ⟨e, he, rfl⟩ := List.mem_map.mp hb
      exact least e he
    have ob := O3 e0' (pm.mem_iff.mp List.mem_cons_self)
    have O4 : ∀ e ∈ es', OkB wide e.2 := fun e he => O3 e (pm.mem_iff.mp (List.mem_cons_of_mem _ he))
    have esz : szQ ss wide (es.map Prod.snd) = szQ ss wide (e0'.2 :: es'.map Prod.snd) := (szQ_perm pm2).symm
    rw [esz]
    clear Q3 O3 S3 B3 pm esz
    refine ⟨.int e0'.2.c, rfl, .ref p, rfl, p, C, dx, fs, .ref lw, rfl, s4 _ _ hp, TW.cl, TW.n3, fW, lw, xw, rfl, .inl (SqL.of (s4 _ _ hlw)), ?_⟩
    rw [WT.1]
    refine ⟨rfl, _, rfl, ?_⟩
    by_cases cw : V.int (e0'.2.c : Nat) = V.int (wide : Nat)
    · -- found
      have ec : e0'.2.c = wide := by
        injection cw with z
        omega
      refine iteY (decide_eq_true cw) ?_
      refine ⟨.ref fl, rfl, .inl ⟨rfl, _, SqL.of hf4⟩, .ref p, rfl, p, dx, fs, rfl, s4 _ _ hp, n1, .int (brK ss rs wide e0'.2).1, rfl, .ref q0, rfl, by show 2 ≤ sizeLine; decide, fun t1 ht1 => ?_⟩
      have st := same_upd (o := .tup [V.int (brK ss rs wide e0'.2).1, V.ref q0]) ht1
      refine ⟨p, .ref t1, wide, ss, rs, brK ss rs wide e0'.2, rfl, wa.same (s4.trans st), ⟨t1, q0, zs, rfl, SqT.of upd_same, (Tk.same st).sq hq0, pz.same st⟩, fun v H5 s5 wv => ?_⟩
      have s45 := st.trans s5
      have h5 := s45 _ _ hf4
      have tk5 : Tk H5 (upd H5 fl (.lst (xf ++ [v]))) := Tk.upd h5 (fun _ z => by cases z) (fun _ _ z => by cases z)
      have S5 := S4.found h1 ec fun b' hb => by
        obtain ⟨e, he, rfl⟩ := List.mem_map.mp hb
        exact least e he
      refine ⟨fl, xf, v, rfl, rfl, h5, small1000 (by omega), szQ ss wide (es'.map Prod.snd), ?_, _, _, _, _, _, _, _, xf ++ [v], F ++ [brK ss rs wide e0'.2], es', rfl, rfl, ngF (s4.trans s45), upd_same, ?_, ⟨by rw [upd_ne nfl.symm]; exact s45 _ _ Q4.hq, Q4.ho, fun e he => ((Q4.br e he).tk (.same s45)).tk tk5⟩, S5, B4.found least2 (by omega), O4, by rw [List.length_append, List.length_singleton]; omega⟩
      · have := szB_pos ss wide (wide - e0'.2.c)
        show _ < ((e0'.2 :: es'.map Prod.snd).map _).sum
        rw [List.map_cons, List.sum_cons]
        unfold szQ
        omega
      · rw [List.map_append]
        exact ((W4.tk (.same s45)).tk tk5).add (wv.tk tk5)
    · -- it goes on
      have ec : e0'.2.c < wide := by
        have := ob.c
        have : e0'.2.c ≠ wide := fun z => cw (by rw [z])
        omega
      refine iteE (decide_eq_false cw) ?_
      have S5 := S4.more h1 ec
      have tot5 := B4.len least2 s16
      have B5 := B4.more h1 s16 S4 ec least2
      have okb := brs_ok (rs := rs) h1 ob ec
      refine ⟨.ref p, rfl, p, dx, fs, rfl, s4 _ _ hp, n5, .int e0'.2.c, rfl, .int e0'.2.st, rfl, .int e0'.2.pd, rfl, .ref q1, rfl, p, q1, ss, rs, wide, e0'.2, ys, rfl, wa.same s4, h1, s16, ob, ec, w60, hq1, py, fun l xs H5 s5 nl hl BL => ?_⟩
      have step5 := szQ_step (rs := rs) (q := es'.map Prod.snd) h1 s16 ec
      generalize brs ss rs wide e0'.2 = bs at BL S5 B5 okb tot5 step5
      rw [List.length_append, List.length_map] at tot5
      have nlq : l ≠ ql := fun z => by
        rw [z, Q4.hq] at nl
        cases nl
      have nlf : l ≠ fl := fun z => by
        rw [z, hf4] at nl
        cases nl
      refine ⟨l, rfl, ⟨_, SqL.of hl⟩, for_list (K := K) (a := l) (xs := xs) (fun i σ H6 => ∃ y10 es6, σ = [some (.ref p), some (.int many), some (.ref fl), some (.ref ql), some (.int (brK ss rs wide e0'.2).1), some (.ref q0), some (.int e0'.2.c), some (.int e0'.2.st), some (.int e0'.2.pd), some (.ref q1), y10] ∧ Same H H6 ∧ H6 fl = some (.lst xf) ∧ Wys K H6 xf (F.map (tdW rs)) ∧ QAt K H6 ql ss rs wide es6 ∧ (es6.map Prod.snd).Perm (bs.take i ++ es'.map Prod.snd) ∧ H6 l = some (.lst xs) ∧ BrL K H6 xs ss rs wide bs) ⟨y10, es', rfl, s4.trans s5, s5 _ _ hf4, W4.tk (.same s5), Q4.same s5, by rw [List.take_zero]; exact List.Perm.refl _, hl, BL⟩ (fun i σ H6 _ z => by
        obtain ⟨_, _, _, _, _, _, _, _, h6, _⟩ := z
        exact SqL.of h6) ?_ ?_⟩
      · rintro i x σ H6 hx ⟨y10, es6, rfl, s6, hf6, W6, Q6, p6, hl6, B6⟩
        have hi : i < bs.length := by
          rw [← B6.len]
          exact (List.getElem?_eq_some_iff.mp hx).1
        have eb : bs[i]? = some bs[i] := List.getElem?_eq_getElem hi
        generalize bs[i] = b at eb
        have bx := B6.at_ i x b hx eb
        have l6 := p6.length_eq
        rw [List.length_map, List.length_append, List.length_map, List.length_take] at l6
        refine ⟨.ref ql, rfl, x, rfl, ql, x, brD ss rs wide b, es6.map (prQ ss rs wide), rfl, Q6.hq, Q6.ho, ?_, ?_, fun ps' ho' pm => ?_⟩
        · have := hd_of (es := (x, b) :: es6) Q6.hq fun e he => by
            rcases List.mem_cons.mp he with rfl | he
            · exact bx
            · exact Q6.br e he
          exact this
        · rw [List.length_map, sizeLine_eq]
          omega
        · obtain ⟨es7, p7, e7⟩ := perm_of_map (f := prQ ss rs wide) pm.symm ((x, b) :: es6) rfl
          have tk6 : Tk H6 (upd H6 ql (.lst (ps'.map Prod.fst))) := Tk.upd Q6.hq (fun _ z => by cases z) (fun _ _ z => by cases z)
          refine ⟨some x, es7, rfl, ngH s6, by rw [upd_ne nfl]; exact hf6, W6.tk tk6, ⟨by rw [upd_same, e7], by rw [e7]; exact ho', fun e he => ?_⟩, ?_, by rw [upd_ne nlq]; exact hl6, B6.tk tk6⟩
          · have he' := p7.mem_iff.mp he
            rcases List.mem_cons.mp he' with rfl | he'
            · exact bx.tk tk6
            · exact (Q6.br e he').tk tk6
          · rw [take_snoc eb, List.append_assoc]
            refine (p7.map Prod.snd).trans ?_
            show (b :: es6.map Prod.snd).Perm _
            refine (List.Perm.cons b p6).trans ?_
            exact List.perm_middle.symm
      · rintro σ H6 ⟨y10, es6, rfl, s6, hf6, W6, Q6, p6, hl6, B6⟩
        rw [List.take_of_length_le (by rw [B6.len]; exact Nat.le_refl _)] at p6
        refine ⟨szQ ss wide (es6.map Prod.snd), by rw [szQ_perm p6]; exact step5, _, _, _, _, _, _, _, xf, F, es6, rfl, rfl, s6, hf6, W6, Q6, S5.perm p6, B5.perm p6, fun e he => ?_, Nat.le_of_lt cm⟩
        have := p6.mem_iff.mp (List.mem_map_of_mem (f := Prod.snd) he)
        rcases List.mem_append.mp this with z | z
        · exact okb _ z
        · obtain ⟨e', he', ee⟩ := List.mem_map.mp z
          rw [← ee]
          exact O4 e' he'
end
end Dt
namespace Dt
open PySem PySem.Spec PyProof.Rows L2 L2X
open PySem.W (AllAlike Sortable dataLe)
open SX (S)
/-! ### the first of all, and how wide a line may be -/
/-- what the law counts for each way -/
def allW (ss : List Sh) (rs : List (List Nat)) (wide : Nat) : List Wy := ((tabY ss wide wide).getD 0 []).map fun w => ((whiteN rs : Int) + cW ss rs w, w)
section
variable {P : Program} {w : World} {K : PySem.W.Frag} {mg : Str → Option Value} {base : Heap}
theorem srt_head {xs : List V} {ds : List PyData} (len : xs.length = ds.length) (ne : xs ≠ []) : ∃ x d ys, (srtD xs ds).map Prod.fst = x :: ys ∧ (x, d) ∈ xs.zip ds ∧ Lst ds d := by
  have hl : (srtD xs ds).length = xs.length := by
    unfold srtD
    rw [List.length_mergeSort, List.length_zip, len, Nat.min_self]
  have T1 : ∀ a b c : V × PyData, dataLe false Prod.snd a b = true → dataLe false Prod.snd b c = true → dataLe false Prod.snd a c = true := fun a b c h1 h2 => by
    have h1 : (!PySem.W.dataLt b.2 a.2) = true := h1
    have h2 : (!PySem.W.dataLt c.2 b.2) = true := h2
    show (!PySem.W.dataLt c.2 a.2) = true
    cases q : PySem.W.dataLt c.2 a.2 with
    | false => rfl
    | true =>
      rcases dlt_neg (y := b.2) q with z | z
      · rw [z] at h2
        cases h2
      · rw [z] at h1
        cases h1
  have T2 : ∀ a b : V × PyData, dataLe false Prod.snd a b = true ∨ dataLe false Prod.snd b a = true := fun a b => by
    show (!PySem.W.dataLt b.2 a.2) = true ∨ (!PySem.W.dataLt a.2 b.2) = true
    cases q : PySem.W.dataLt b.2 a.2 with
    | false => exact .inl rfl
    | true =>
      cases z : PySem.W.dataLt a.2 b.2 with
      | false => exact .inr rfl
      | true =>
        have := dlt_trans q z
        rw [dlt_irr] at this
        cases this
  have T : PySem.W.TotalLe (dataLe false (Prod.snd : V × PyData → PyData)) := ⟨T1, T2⟩
  have P := PySem.W.sort_pairwise T (xs.zip ds)
  have M : ∀ e, e ∈ srtD xs ds ↔ e ∈ xs.zip ds := fun e => List.mem_mergeSort
  change (srtD xs ds).Pairwise _ at P
  generalize srtD xs ds = sd at hl P M
  cases sd with
  | nil =>
    exfalso
    rw [List.length_nil] at hl
    exact ne (List.eq_nil_of_length_eq_zero hl.symm)
  | cons e r =>
    obtain ⟨x, d⟩ := e
    refine ⟨x, d, r.map Prod.fst, rfl, (M _).mp List.mem_cons_self, fun z hz => ?_⟩
    obtain ⟨i, hi⟩ := List.mem_iff_getElem?.mp hz
    have li : i < xs.length := by
      rw [len]
      exact (List.getElem?_eq_some_iff.mp hi).1
    have mz : (xs[i], z) ∈ xs.zip ds := List.mem_iff_getElem?.mpr ⟨i, List.getElem?_zip_eq_some.mpr ⟨List.getElem?_eq_getElem li, hi⟩⟩
    rcases List.mem_cons.mp ((M _).mpr mz) with q | q
    · have : z = d := congrArg Prod.snd q
      rw [this]
      exact dlt_irr d
    · have h := (List.pairwise_cons.mp P).1 _ q
      rw [PySem.W.dataLe_eq] at h
      have h : (!PySem.W.dataLt z d) = true := h
      cases q2 : PySem.W.dataLt z d with
      | false => rfl
      | true =>
        rw [q2] at h
        cases h
end
end Dt
namespace Dt
open PySem PySem.Spec PyProof.Rows L2 L2X
open PySem.W (AllAlike Sortable dataLe dataLt)
open SX (S)
/-! ### all of them, sorted -/
theorem srt_all {xs : List V} {L : List Wy} (len : xs.length = L.length) : ∃ es : List (V × Wy), (srtD xs (L.map yD)).map Prod.fst = es.map Prod.fst ∧ es.Perm (xs.zip L) ∧ Sd (es.map Prod.snd) := by
  have hz : xs.zip (L.map yD) = (xs.zip L).map fun e => (e.1, yD e.2) := by
    rw [List.zip_map_right]
    rfl
  have hm := List.map_mergeSort (r := fun a b : V × Wy => dataLe false (fun e : V × Wy => yD e.2) a b) (s := dataLe false (Prod.snd : V × PyData → PyData)) (f := fun e : V × Wy => (e.1, yD e.2)) (l := xs.zip L) (fun a _ b _ => rfl)
  refine ⟨(xs.zip L).mergeSort (fun a b => dataLe false (fun e : V × Wy => yD e.2) a b), ?_, List.mergeSort_perm _ _, ?_⟩
  · unfold srtD
    rw [hz, ← hm, List.map_map]
    rfl
  · have T1 : ∀ a b c : V × Wy, dataLe false (fun e : V × Wy => yD e.2) a b = true → dataLe false (fun e : V × Wy => yD e.2) b c = true → dataLe false (fun e : V × Wy => yD e.2) a c = true := fun a b c h1 h2 => by
      have h1 : (!dataLt (yD b.2) (yD a.2)) = true := h1
      have h2 : (!dataLt (yD c.2) (yD b.2)) = true := h2
      show (!dataLt (yD c.2) (yD a.2)) = true
      rw [dle_trans (by simpa using h1) (by simpa using h2)]
      rfl
    have T2 : ∀ a b : V × Wy, dataLe false (fun e : V × Wy => yD e.2) a b = true ∨ dataLe false (fun e : V × Wy => yD e.2) b a = true := fun a b => by
      show (!dataLt (yD b.2) (yD a.2)) = true ∨ (!dataLt (yD a.2) (yD b.2)) = true
      cases q : dataLt (yD b.2) (yD a.2) with
      | false => exact .inl rfl
      | true =>
        rw [dlt_le q]
        exact .inr rfl
    have T : PySem.W.TotalLe (dataLe false (fun e : V × Wy => yD e.2)) := ⟨T1, T2⟩
    have Pw := PySem.W.sort_pairwise T (xs.zip L)
    unfold Sd
    rw [List.pairwise_map]
    refine Pw.imp fun {a b} h => ?_
    rw [PySem.W.dataLe_eq] at h
    have h : (!dataLt (yD b.2) (yD a.2)) = true := h
    rw [dlt_yD] at h
    simpa using h
abbrev sWnx : Stmt := topS 51
theorem scWnx : FnScope ["thing"] ["thing"] (defScope sWnx) := ⟨rfl, rfl, rfl, by decide +kernel, rfl, by decide +kernel, by decide +kernel⟩
def spWnx : Sp := fun vs H Q _ => ∃ n : Nat, vs = [.int n] ∧ 1 ≤ n ∧ n ≤ 20 ∧ Q .non H
abbrev sNo1 : Stmt := topS 47
theorem scNo1 : FnScope ["alphabet", "line", "k"] ["alphabet", "line", "k"] (defScope sNo1) := ⟨rfl, rfl, rfl, by decide +kernel, rfl, by decide +kernel, by decide +kernel⟩
def spNo1 (K : PySem.W.Frag) (CA : Addr) : Sp := fun vs H Q _ => ∃ (o a : Addr) (high wide many : Nat) (ss : List Sh) (rs : List (List Nat)), vs = [.ref o, .ref a, .int many] ∧ LnAt CA H o a high wide ss rs ∧ 1 ≤ many ∧ many ≤ 20 ∧
  ∀ l xs (G : List Wy) H', Same H H' → H l = none → H' l = some (.lst xs) → Wys K H' xs G → (∀ S, Sd S → S.Perm (allW ss rs wide) → G = S.take many) → Q (.ref l) H'
theorem sd_shift {m : Int} {S : List Wy} (h : Sd S) : Sd (S.map fun y => (y.1 + m, y.2)) := by
  unfold Sd at *
  rw [List.pairwise_map]
  refine h.imp fun {a b} e => ?_
  show wLt (b.1 + m, b.2) (a.1 + m, a.2) = false
  rw [Int.add_comm b.1 m, Int.add_comm a.1 m, wLt_shift]
  exact e
/-- what is found, with the line's own dots -/
theorem told_take {ss : List Sh} {rs : List (List Nat)} {wide many : Nat} {F S : List Wy} (h : ∀ S, Sd S → S.Perm (brW ss rs wide ⟨0, 0, 0, []⟩) → F = S.take many) (hS : Sd S) (p : S.Perm (allW ss rs wide)) : F.map (tdW rs) = S.take many := by
  have e0 : (allW ss rs wide).map (fun y => (y.1 + -(whiteN rs : Int), y.2)) = brW ss rs wide ⟨0, 0, 0, []⟩ := by
    unfold allW brW
    rw [List.map_map]
    apply List.map_congr_left
    intro w _
    show ((whiteN rs : Int) + cW ss rs w + -(whiteN rs : Int), w) = (0 + cW ss rs w, [] ++ w)
    rw [List.nil_append, Int.zero_add]
    congr 1
    omega
  have a := h (S.map fun y => (y.1 + -(whiteN rs : Int), y.2)) (sd_shift hS) (by rw [← e0]; exact p.map _)
  rw [a, ← List.map_take, List.map_map]
  conv => rhs; rw [← List.map_id (S.take many)]
  apply List.map_congr_left
  intro y _
  show ((whiteN rs : Int) + (y.1 + -(whiteN rs : Int)), y.2) = y
  have : (whiteN rs : Int) + (y.1 + -(whiteN rs : Int)) = y.1 := by omega
  rw [this]
section
variable {P : Program} {w : World} {K : PySem.W.Frag} {mg : Str → Option Value} {base : Heap} {C CA CS : Addr}
theorem ok_wnx {f : Addr} {fd : FuncData} {k : Nat} (F : Fun K "want_next" "want_next" sWnx f fd) (mn : ∃ t, mg "MOST_NEXT" = some (.int 20 t)) (GB : Pm P w K mg base CX0 (k + 1) "is_between" ["thing", "least", "most"] (spBetw K)) : FnOk P w K mg base CX0 (k + 2) f fd ["thing"] spWnx := by
  obtain ⟨fB, fdB, GB, mB, kB, bB⟩ := GB.ex
  obtain ⟨tn, hmn⟩ := mn
  refine F.ok scWnx (fun vs H Q E h => ?_) (fun cdv A outer s H vs Q E hr h => ?_)
  · obtain ⟨_, rfl, _⟩ := h
    rfl
  · obtain ⟨n, rfl, n1, n20, q⟩ := h
    refine ⟨_, pss_one (ps_if (pt_not (pt_val (pe_call GB hr (by rfl) mB kB bB .nil pass0 (pa_cons (pv 0) (pa_cons pe_int (pa_cons (pe_glob (v := .int 20) (by rfl) hmn ⟨_, rfl⟩) pa_nil)))))) pss_never pss_nil), ?_⟩
    have b1 : betw (.int n) 1 20 = true := by
      rw [betw_int, decide_eq_true (by omega), decide_eq_true (by omega)]
      rfl
    refine ⟨.int n, rfl, .int n, 1, 20, rfl, kt_int _, _, rfl, ?_⟩
    rw [b1]
    exact iteF q
theorem ok_no1 {f : Addr} {fd : FuncData} {k : Nat} (F : Fun K "next_ones" "next_ones" sNo1 f fd) (TW : Twy K mg C) (GL : Pm P w K mg base CX0 (k + 1) "want_line" ["alphabet", "thing"] (spWL CA)) (GN : Pm P w K mg base CX0 (k + 1) "want_next" ["thing"] spWnx) (GW : Pm P w K mg base CX0 (k + 1) "_ways" ["alphabet", "line"] (spWys K C CA CS)) (GF : Mm P w K mg base (k + 1) C "first_ones" ["self", "many"] (spFo K C CS)) : FnOk P w K mg base CX0 (k + 2) f fd ["alphabet", "line", "k"] (spNo1 K CA) := by
  obtain ⟨fL, fdL, GL, mL, kL, bL⟩ := GL.ex
  obtain ⟨fN, fdN, GN, mN, kN, bN⟩ := GN.ex
  obtain ⟨fW, fdW, GW, mW, kW, bW⟩ := GW.ex
  obtain ⟨fF, fdF, GF, mF, bF⟩ := GF.ex
  refine F.ok scNo1 (fun vs H Q E h => ?_) (fun cdv A outer s H vs Q E hr h => ?_)
  · obtain ⟨o, a, _, _, many, _, _, rfl, _⟩ := h
    rfl
  · obtain ⟨o, a, high, wide, many, ss, rs, rfl, L, m1, m20, q⟩ := h
    have nd := scNo1.nd
    refine ⟨_, pss_cons (ps_expr (pe_call GL hr (by rfl) mL kL bL .nil pass0 (pa_cons (pv 0) (pa_cons (pv 1) pa_nil))))
      (pss_cons (ps_expr (pe_call GN hr (by rfl) mN kN bN .nil pass0 (pa_cons (pv 2) pa_nil)))
      (pss_one (ps_ret (pe_meth (pe_call GW hr (by rfl) mW kW bW .nil pass0 (pa_cons (pv 0) (pa_cons (pv 1) pa_nil))) TW.cl mF GF hr bF .nil pass0 (pa_cons (pv 2) pa_nil))))), ?_⟩
    refine ⟨.ref o, rfl, .ref a, rfl, o, a, high, wide, ss, rs, rfl, L.al.al, L.ha, L.pr, L.w60, fun H1 s1 => ?_⟩
    refine ⟨.int many, rfl, many, rfl, m1, m20, ?_⟩
    refine ⟨.ref o, rfl, .ref a, rfl, o, a, high, wide, ss, rs, rfl, L.same s1, fun p H2 s2 wa => ?_⟩
    obtain ⟨dx, fs, lr, rl, hp, f1, f2, h1, R, n1, n2, lw, xw, sp, e1, e2, e3, e4, e5, n3, n4, n5⟩ := id wa
    refine ⟨p, dx, fs, rfl, hp, n3, .int many, rfl, p, ss, rs, wide, many, rfl, wa, L.w1, L.al.l16, L.w60, by omega, fun l xs F H3 s3 nl hl W tk => ?_⟩
    exact q l xs (F.map (tdW rs)) H3 ((s1.trans s2).trans s3) ((s1.trans s2).free nl) hl W fun S hS p' => told_take tk hS p'
end
end Dt
namespace Dt
open PySem PySem.Spec PyProof.Rows L2 L2X
open SX (S)
structure Pcs (H : Hp) (zs : List V) (ss : List Sh) : Prop where
  len : zs.length = ss.length
  at_ : ∀ (i : Nat) (z : V) (s : Sh), zs[i]? = some z → ss[i]? = some s → ∃ p, z = .ref p ∧ H p = some (.tup (s.rs.map rv))
theorem Pcs.same {H H' : Hp} {zs : List V} {ss : List Sh} (h : Pcs H zs ss) (sm : Same H H') : Pcs H' zs ss := ⟨h.len, fun i z s a b => let ⟨p, e, hp⟩ := h.at_ i z s a b; ⟨p, e, sm _ _ hp⟩⟩
theorem Pcs.updl {H : Hp} {zs : List V} {ss : List Sh} {l : Addr} {ys us : List V} (h : Pcs H zs ss) (hl : H l = some (.lst ys)) : Pcs (upd H l (.lst us)) zs ss := ⟨h.len, fun i z s a b => let ⟨p, e, hp⟩ := h.at_ i z s a b; ⟨p, e, by rw [upd_ne (ne_of hp hl (by intro z; cases z))]; exact hp⟩⟩
theorem Pcs.add {H : Hp} {zs : List V} {ss : List Sh} {p : Addr} {s : Sh} (h : Pcs H zs ss) (hp : H p = some (.tup (s.rs.map rv))) : Pcs H (zs ++ [.ref p]) (ss ++ [s]) := by
  refine ⟨by rw [List.length_append, List.length_append, h.len]; rfl, fun i y s' hy hs => ?_⟩
  by_cases hi : i < zs.length
  · rw [List.getElem?_append_left hi] at hy
    rw [List.getElem?_append_left (by rw [← h.len]; exact hi)] at hs
    exact h.at_ i y s' hy hs
  · rw [List.getElem?_append_right (by omega)] at hy
    rw [List.getElem?_append_right (by rw [← h.len]; omega), ← h.len] at hs
    rcases hk : i - zs.length with _ | k
    · rw [hk] at hy hs
      cases hy
      cases hs
      exact ⟨p, rfl, hp⟩
    · rw [hk] at hy
      cases hy
end Dt
namespace L2X
open PySem PySem.Spec PyProof.Rows L2
/-! ### len(x) of an own class -/
def rLenO (C : Addr) (sp : Sp) : List V → Hp → VK → Prop := fun xs H Q => ∃ (a dx : Addr) (fs : List (Str × V)), xs = [.ref a] ∧ H a = some (.ins C dx fs) ∧ sp [.ref a] H (fun v H' => ∃ n : Nat, v = .int n ∧ n < 1000000 ∧ Q (.int n) H') E0
theorem call_lenO {X : Cx} {k : Nat} {f C : Addr} {fd : FuncData} {sp : Sp} (F : FnOk X.prog X.w X.K X.mg X.base CX0 k f fd ["self"] sp) (hr : Room (k + 1) X.A) (hm : Meth X.K C "__len__" f) (hb : Binds X.K fd ["self"] []) : CallR X (.builtin "len") (rLenO C sp) := by
  intro pins s σ H xs us Q I r h
  obtain ⟨a, dx, fs, rfl, ea, q⟩ := h
  obtain ⟨u, rfl, ru⟩ := vals1 r
  obtain rfl : u = Value.ref a := ru
  obtain ⟨mA, O, _⟩ := ins_get I.hok ea
  obtain ⟨od, J, _⟩ := O.look
  obtain ⟨m, fr⟩ := I.fr
  refine PySem.W.len_K fr I.ok.mod.kin J hm.at_ hm.fn (wpAny_call (codeAny_mono (F.run X.A.in1 X.stack s H ⟨[.ref a], []⟩ [.ref a] [.ref a] _ E0 hr.in1 I.env0.in1 (hb _ [.ref a] I.kIn rfl) (.cons rfl .nil) q) fun r s' hq => ?_))
  cases r with
  | error e => exact hq.elim
  | ok fl =>
    cases fl with
    | ret u =>
      obtain ⟨v, H', I3, rv, n, rfl, hn, q3⟩ := I.after hq
      obtain ⟨t, rfl⟩ := rv
      exact ⟨⟨Int.natCast_nonneg n, by omega⟩, .int n, H', I3.tok _, ⟨_, rfl⟩, q3⟩
    | next => exact False.elim hq
    | brk => exact False.elim hq
    | cont => exact False.elim hq
end L2X
namespace Dt
open PySem PySem.Spec PyProof.Rows L2 L2X
open SX (S)
/-! ### right readings, drawn and weighed -/
theorem pad_ok : ∀ n : Nat, n ≤ 120 → PySem.PadOk (n : Int) = true := by
  have : ∀ n : Fin 121, PySem.PadOk (n.val : Int) = true := by decide +kernel
  intro n h
  exact this ⟨n, by omega⟩
abbrev sRD : Stmt := topS 49
theorem scRD : FnScope ["pictures", "wide", "reading", "row", "text", "column", "number"] ["pictures", "wide", "reading", "row"] (defScope sRD) := ⟨rfl, rfl, rfl, by decide +kernel, rfl, by decide +kernel, by decide +kernel⟩
def spRD (K : PySem.W.Frag) : Sp := fun vs H Q _ => ∃ (l a : Addr) (high wide r : Nat) (pvs zs : List V) (ss : List Sh) (ws : List (Nat × Nat)), vs = [.ref l, .int wide, .ref a, .int r] ∧ H l = some (.lst pvs) ∧ Pcs H pvs ss ∧ (∀ s ∈ ss, PicR high s.w s.rs) ∧ SqT K H a zs ∧ Plc K H zs ws ∧ WayOk ss wide ws ∧ wide ≤ 60 ∧ r < high ∧ Q (rv ((List.range wide).map (pix ss ws r))) H
abbrev sDr : Stmt := topS 48
abbrev nDr : List Str := ["alphabet", "wide", "reading", "pictures", "_", "picture", "row"]
theorem scDr : FnScope nDr ["alphabet", "wide", "reading"] (defScope sDr) := ⟨rfl, rfl, rfl, by decide +kernel, rfl, by decide +kernel, by decide +kernel⟩
abbrev sALn : Stmt := inClass cAl 9
theorem scALn : FnScope ["self"] ["self"] (defScope sALn) := ⟨rfl, rfl, rfl, by decide +kernel, rfl, by decide +kernel, by decide +kernel⟩
def spALn (C : Addr) : Sp := fun vs H Q _ => ∃ (o : Addr) (high : Nat) (ss : List Sh), vs = [.ref o] ∧ AlpAt C H o high ss ∧ Q (.int ss.length) H
abbrev sIW : Stmt := topS 53
theorem scIW : FnScope ["alphabet", "thing", "edge", "columns"] ["alphabet", "thing", "edge", "columns"] (defScope sIW) := ⟨rfl, rfl, rfl, by decide +kernel, rfl, by decide +kernel, by decide +kernel⟩
abbrev sWR : Stmt := topS 52
abbrev nWR : List Str := ["alphabet", "columns", "thing", "edge", "window"]
theorem scWR : FnScope nWR ["alphabet", "columns", "thing"] (defScope sWR) := ⟨rfl, rfl, rfl, by decide +kernel, rfl, by decide +kernel, by decide +kernel⟩
/-- a right reading, as it is laid -/
structure RdR (K : PySem.W.Frag) (H : Hp) (ss : List Sh) (cols : Nat) (a : Addr) (ws : List (Nat × Nat)) : Prop where
  ex : ∃ xs, SqT K H a xs ∧ Plc K H xs ws
  wk : WayOk ss cols ws
theorem RdR.same {K : PySem.W.Frag} {H H' : Hp} {ss : List Sh} {cols : Nat} {a : Addr} {ws : List (Nat × Nat)} (h : RdR K H ss cols a ws) (s : Same H H') : RdR K H' ss cols a ws := by
  obtain ⟨⟨xs, h1, h2⟩, wk⟩ := h
  exact ⟨⟨xs, sameT s h1, h2.same s⟩, wk⟩
def spIWr (K : PySem.W.Frag) (C : Addr) : Sp := fun vs H Q _ => ∃ (o t : Addr) (high e cols : Nat) (ss : List Sh) (p : Nat × Nat), vs = [.ref o, .ref t, .int e, .int cols] ∧ AlpG C H o high ss ∧ SqT K H t [.int p.1, .int p.2] ∧ p.2 < ss.length ∧ e ≤ p.1 ∧ p.1 + wdt ss p.2 ≤ cols ∧ ∀ H', Same H H' → Q (.bl true) H'
def spWRr (K : PySem.W.Frag) (C : Addr) : Sp := fun vs H Q _ => ∃ (o a : Addr) (high cols : Nat) (ss : List Sh) (ws : List (Nat × Nat)), vs = [.ref o, .int cols, .ref a] ∧ AlpG C H o high ss ∧ RdR K H ss cols a ws ∧ ∀ H', Same H H' → Q .non H'
def spDrr (K : PySem.W.Frag) (C : Addr) : Sp := fun vs H Q _ => ∃ (o a : Addr) (high cols : Nat) (ss : List Sh) (ws : List (Nat × Nat)), vs = [.ref o, .int cols, .ref a] ∧ AlpG C H o high ss ∧ 1 ≤ cols ∧ cols ≤ 60 ∧ RdR K H ss cols a ws ∧
  ∀ (p : Addr) H', Same H H' → H p = none → H' p = some (.tup ((drawR ss high cols ws).map rv)) → Q (.ref p) H'
theorem AlpG.shape {C : Addr} {H : Hp} {o : Addr} {high n : Nat} {ss : List Sh} (h : AlpG C H o high ss) (hn : n < ss.length) : ∃ s, ss[n]? = some s ∧ PicR high s.w s.rs ∧ wdt ss n = s.w := ⟨ss[n], List.getElem?_eq_getElem hn, h.pr _ (List.getElem_mem hn), wdt_at (List.getElem?_eq_getElem hn)⟩
section
variable {P : Program} {w : World} {K : PySem.W.Frag} {mg : Str → Option Value} {base : Heap} {C CA CP : Addr}
theorem ok_rd {f : Addr} {fd : FuncData} {k : Nat} (F : Fun K "_row_drawn" "_row_drawn" sRD f fd) : FnOk P w K mg base CX0 (k + 1) f fd ["pictures", "wide", "reading", "row"] (spRD K) := by
  refine F.ok scRD (fun vs H Q E h => ?_) (fun cdv A outer s H vs Q E hr h => ?_)
  · obtain ⟨l, a, _, _, _, _, _, _, _, rfl, _⟩ := h
    rfl
  · obtain ⟨l, a, high, wide, r, pvs, zs, ss, ws, rfl, hl, Ps, pr, ha, pl, wk, w60, hr', q⟩ := h
    have nd := scRD.nd
    refine ⟨_, pss_cons (ps_set (i := 4) nd rfl (.inl rfl) pe_str)
      (pss_cons (ps_for PassesOwn.never rfl (pi_tup (pv 2)) (pg_tup rfl (pgs_cons (pg_name (i := 5) nd rfl (Or.inl rfl)) (pgs_cons (pg_name (i := 6) nd rfl (Or.inl rfl)) pgs_nil)))
        (pss_one (ps_set (i := 4) nd rfl (.inl rfl) (pe_op op_add_str (pe_bm PySem.F.plainAttrs_str PySem.F.slot_str_ljust PySem.F.type_str_ljust mt_ljustF (pv 4) (pa_cons (pv 5) (pa_cons pe_str pa_nil))) (pe_ix (r := rIxT K) ix_tup (pe_ix (r := rIxL K) ix_list (pv 0) (pv 6) (fun _ _ => rfl)) (pv 3) (fun _ _ => rfl))))))
      (pss_one (ps_ret (pe_bm PySem.F.plainAttrs_str PySem.F.slot_str_ljust PySem.F.type_str_ljust mt_ljustF (pv 4) (pa_cons (pv 1) (pa_cons pe_str pa_nil)))))), ?_⟩
    have R := rowsW_of pr hr'
    have lz := pl.len
    have dot : ∀ c : Nat, ([V.int (c : Int), V.str "."] : List V) = [V.int (c : Int), V.str ⟨#[46]⟩] := fun c => by
      rw [s_dot]
    rw [s_empty]
    refine ⟨.ref a, rfl, a, rfl, ⟨_, ha⟩, for_tup (K := K) (a := a) (xs := zs) (fun i σ H1 => H1 = H ∧ ∃ y5 y6, σ = [some (.ref l), some (.int wide), some (.ref a), some (.int r), some (rv (rowT ss (ws.take i) r)), y5, y6]) ⟨rfl, none, none, rfl⟩ (fun i σ H1 _ z => by
      obtain ⟨rfl, _⟩ := z
      exact ha) ?_ ?_⟩
    · rintro i x σ H1 hx ⟨rfl, y5, y6, rfl⟩
      have hi : i < ws.length := by
        rw [← lz]
        exact (List.getElem?_eq_some_iff.mp hx).1
      have ep : ws[i]? = some ws[i] := List.getElem?_eq_getElem hi
      generalize ws[i] = p at ep
      obtain ⟨t, rfl, hp⟩ := pl.at_ i x p hx ep
      obtain ⟨w1, w2, w3⟩ := wk i p ep
      have es : ss[p.2]? = some ss[p.2] := List.getElem?_eq_getElem w1
      have prp := pr _ (List.getElem_mem w1)
      have ra := rowAt_at (r := r) es
      generalize ss[p.2] = s' at es prp ra
      have lp := Ps.len
      have ev : pvs[p.2]? = some (pvs[p.2]'(by omega)) := List.getElem?_eq_getElem (by omega)
      obtain ⟨pp, epp, hpp⟩ := Ps.at_ p.2 _ s' ev es
      rw [epp] at ev
      have er : s'.rs[r]? = some (s'.rs[r]'(by rw [prp.len]; exact hr')) := List.getElem?_eq_getElem (by rw [prp.len]; exact hr')
      have er2 : s'.rs.getD r [] = s'.rs[r]'(by rw [prp.len]; exact hr') := by
        rw [List.getD_eq_getElem?_getD, er]
        rfl
      obtain ⟨i1, i2⟩ := rowT_pix wk R i (by omega)
      refine ⟨t, _, rfl, hp, rfl, _, _, rfl, _, _, rfl, rfl, ?_⟩
      refine ⟨rv (rowT ss (ws.take i) r), rfl, rfl, .int p.1, rfl, S (rowT ss (ws.take i) r), p.1, 46, rfl, dot p.1, pad_ok p.1 (by omega), ?_⟩
      rw [ljust_S]
      refine ⟨.ref l, rfl, .int p.2, rfl, l, _, (p.2 : Int), .ref pp, rfl, rfl, SqL.of hl, atI_nat ev, .int r, rfl, pp, _, (r : Int), rv (rowAt ss p.2 r), rfl, rfl, SqT.of hpp, atI_nat (by rw [List.getElem?_map, er, ra, er2]; rfl), S (padL (rowT ss (ws.take i) r) p.1), S (rowAt ss p.2 r), rfl, rfl, ?_, ?_⟩
      · have l1 := (R p.2 w1).1
        have l2 : (rowT ss (ws.take i) r).length = edge ss ws i := by rw [i1, List.length_map, List.length_range]
        rw [SX.S_len, SX.S_len, l1]
        unfold padL
        rw [List.length_append, List.length_replicate, l2]
        exact Nat.le_of_lt (small1000 (by omega))
      · rw [SX.S_cat]
        refine ⟨rfl, some (.int p.1), some (.int p.2), ?_⟩
        rw [take_snoc ep, rowT_snoc]
        rfl
    · rintro σ H1 ⟨rfl, y5, y6, rfl⟩
      have e5 : ws.take zs.length = ws := by rw [lz, List.take_length]
      rw [e5]
      refine ⟨rv (rowT ss ws r), rfl, rfl, .int wide, rfl, S (rowT ss ws r), wide, 46, rfl, dot wide, pad_ok wide (by omega), ?_⟩
      rw [ljust_S, row_pix wk R]
      exact q
theorem ok_aln {f : Addr} {fd : FuncData} {k : Nat} (F : Fun K "__len__" "Alphabet.__len__" sALn f fd) (T : Tx mg) (TA : Tal K mg CA) : FnOk P w K mg base CX0 (k + 1) f fd ["self"] (spALn CA) := by
  refine F.ok scALn (fun vs H Q E h => ?_) (fun cdv A outer s H vs Q E hr h => ?_)
  · obtain ⟨o, high, ss, rfl, _⟩ := h
    rfl
  · obtain ⟨o, high, ss, rfl, ⟨dx, t, xs, ho, ht, Ss⟩, q⟩ := h
    refine ⟨_, pss_one (ps_ret (pe_callB call_len_seq (by rfl) T.len PySem.boot_len (pa_cons (pe_fld (pv 0) rfl) pa_nil))), ?_⟩
    refine ⟨.ref o, rfl, o, CA, dx, _, .ref t, rfl, ho, TA.cl, TA.nS, aF_shapes _ _, t, xs, rfl, .inr (SqT.of ht), ?_⟩
    rw [Ss.len]
    exact q
theorem ok_iwr {f : Addr} {fd : FuncData} {k : Nat} (F : Fun K "_is_window" "_is_window" sIW f fd) (T : Tx mg) (TA : Tal K mg CA) (GU : Pm P w K mg base CX0 (k + 2) "is_tuple" ["thing", "many"] (spIsTup K)) (GB : Pm P w K mg base CX0 (k + 2) "is_between" ["thing", "least", "most"] (spBetw K))
    (GL : Mm P w K mg base (k + 1) CA "__len__" ["self"] (spALn CA)) (GW : Mm P w K mg base (k + 2) CA "wide" ["self", "number"] (spAW CA)) : FnOk P w K mg base CX0 (k + 3) f fd ["alphabet", "thing", "edge", "columns"] (spIWr K CA) := by
  obtain ⟨fU, fdU, GU, mU, kU, bU⟩ := GU.ex
  obtain ⟨fB, fdB, GB, mB, kB, bB⟩ := GB.ex
  obtain ⟨fL, fdL, GL, mL, bL⟩ := GL.ex
  obtain ⟨fW, fdW, GW, mW, bW⟩ := GW.ex
  refine F.ok scIW (fun vs H Q E h => ?_) (fun cdv A outer s H vs Q E hr h => ?_)
  · obtain ⟨o, t, _, _, _, _, _, rfl, _⟩ := h
    rfl
  · obtain ⟨o, t, high, e, cols, ss, p, rfl, al, ht, p1, p2, p3, q⟩ := h
    refine ⟨_, pss_cons (ps_if (PW.pt (pw_or (pt_not (pt_val (pe_call GU hr (by rfl) mU kU bU .nil pass0 (pa_cons (pv 1) (pa_cons pe_int pa_nil)))))
        (pw_or1 (pt_not (pt_val (pe_call GB hr (by rfl) mB kB bB .nil pass0 (pa_cons (pe_ix (r := rIxT K) ix_tup (pv 1) pe_int (fun _ _ => rfl)) (pa_cons pe_int (pa_cons (pe_op op_sub (pe_callB (call_lenO GL hr mL bL) (by rfl) T.len PySem.boot_len (pa_cons (pv 0) pa_nil)) pe_int) pa_nil))))))))) (pss_one (ps_ret pe_bl)) pss_nil)
      (pss_one (ps_ret (pe_call GB hr (by rfl) mB kB bB .nil pass0 (pa_cons (pe_ix (r := rIxT K) ix_tup (pv 1) pe_int (fun _ _ => rfl)) (pa_cons (pv 2) (pa_cons (pe_op op_sub (pv 3) (pe_meth (pv 0) TA.cl mW GW hr bW .nil pass0 (pa_cons (pe_ix (r := rIxT K) ix_tup (pv 1) pe_int (fun _ _ => rfl)) pa_nil))) pa_nil)))))), ?_⟩
    obtain ⟨dx, tt, ys, ho, hts, Ss⟩ := id al.al
    have l16 := al.l16
    refine ⟨.ref t, rfl, .ref t, 2, rfl, .inr ⟨t, _, rfl, ht, _, rfl, iteF ?_⟩⟩
    refine ⟨.ref t, rfl, t, _, 1, .int p.2, rfl, rfl, ht, rfl, .ref o, rfl, o, dx, _, rfl, ho, ⟨o, high, ss, rfl, al.al, ss.length, rfl, by omega, _, 1, rfl, rfl, .int p.2, 0, _, rfl, kt_int _, _, rfl, ?_⟩⟩
    have e1 : betw (.int (p.2 : Int)) 0 ((ss.length : Int) - 1) = true := by
      rw [betw_int, decide_eq_true (by omega), decide_eq_true (by omega)]
      rfl
    rw [e1]
    obtain ⟨s', es, pr, ew⟩ := al.shape p1
    refine iteF ⟨.ref t, rfl, t, _, 0, .int p.1, rfl, rfl, ht, rfl, .int e, rfl, .int cols, rfl, .ref o, rfl, o, dx, _, rfl, ho, aF_no _ _ (by decide +kernel) (by decide +kernel), .ref t, rfl, t, _, 1, .int p.2, rfl, rfl, ht, rfl, o, high, p.2, ss, s', rfl, al.al, es, pr, fun H1 s1 => ⟨cols, s'.w, rfl, rfl, .int p.1, e, _, rfl, kt_int _, ?_⟩⟩
    have e2 : betw (.int (p.1 : Int)) (e : Int) ((cols : Int) - (s'.w : Int)) = true := by
      rw [betw_int, decide_eq_true (by omega), decide_eq_true (by omega)]
      rfl
    rw [e2]
    exact q H1 s1
theorem ok_wrr {f : Addr} {fd : FuncData} {k : Nat} (F : Fun K "want_reading" "want_reading" sWR f fd) (T : Tx mg) (T2 : Tp mg) (TA : Tal K mg CA) (GI : Pm P w K mg base CX0 (k + 1) "_is_window" ["alphabet", "thing", "edge", "columns"] (spIWr K CA)) (GW : Mm P w K mg base (k + 1) CA "wide" ["self", "number"] (spAW CA)) :
    FnOk P w K mg base CX0 (k + 2) f fd ["alphabet", "columns", "thing"] (spWRr K CA) := by
  obtain ⟨fI, fdI, GI, mI, kI, bI⟩ := GI.ex
  obtain ⟨fW, fdW, GW, mW, bW⟩ := GW.ex
  refine F.ok scWR (fun vs H Q E h => ?_) (fun cdv A outer s H vs Q E hr h => ?_)
  · obtain ⟨o, a, _, _, _, _, rfl, _⟩ := h
    rfl
  · obtain ⟨o, a, high, cols, ss, ws, rfl, al, ⟨⟨xs, ht, pl⟩, wk⟩, q⟩ := h
    have nd := scWR.nd
    refine ⟨_, pss_cons (ps_if (pt_cmpR op_ne_ty (pe_callTy call_type1 (by rfl) T2.typ (by decide +kernel) (pa_cons (pv 2) pa_nil)) (pe_bltn (v := .ty "tuple") (u := .type "tuple") (by rfl) T.tuple (by decide +kernel) rfl) (nomark _)) pss_never pss_nil)
      (pss_cons (ps_set (i := 3) nd rfl (.inl rfl) pe_int)
      (pss_one (ps_for PassesOwn.never rfl (pi_tup (pv 2)) (pg_name (i := 4) nd rfl (Or.inl rfl))
        (pss_cons (ps_if (pt_not (pt_val (pe_call GI hr (by rfl) mI kI bI .nil pass0 (pa_cons (pv 0) (pa_cons (pv 4) (pa_cons (pv 3) (pa_cons (pv 1) pa_nil))))))) pss_never pss_nil)
        (pss_one (ps_set (i := 3) nd rfl (.inl rfl) (pe_op op_add (pe_ix (r := rIxT K) ix_tup (pv 4) pe_int (fun _ _ => rfl)) (pe_meth (pv 0) TA.cl mW GW hr bW .nil pass0 (pa_cons (pe_ix (r := rIxT K) ix_tup (pv 4) pe_int (fun _ _ => rfl)) pa_nil))))))))), ?_⟩
    refine ⟨.ref a, rfl, .ref a, "tuple", rfl, .tup ht, "tuple", "tuple", rfl, rfl, rfl, rfl, _, rfl, iteE (by decide) ?_⟩
    refine ⟨.ref a, rfl, a, rfl, ⟨_, ht⟩, for_tup (K := K) (a := a) (xs := xs) (fun i σ H1 => ∃ y4, σ = [some (.ref o), some (.int cols), some (.ref a), some (.int (edge ss ws i)), y4] ∧ Same H H1) ⟨none, rfl, Same.refl H⟩ (fun i σ H1 _ z => by
      obtain ⟨_, _, sm⟩ := z
      exact sameT sm ht) ?_ ?_⟩
    · rintro i x σ H1 hx ⟨y4, rfl, sm⟩
      have al1 := al.same sm
      obtain ⟨dx, tt, ys, ho, hts, Ss⟩ := id al1.al
      have hlt : i < ws.length := by
        rw [← pl.len]
        exact (List.getElem?_eq_some_iff.mp hx).1
      have ep : ws[i]? = some ws[i] := List.getElem?_eq_getElem hlt
      generalize ws[i] = p at ep
      obtain ⟨t, rfl, hp⟩ := pl.at_ i x p hx ep
      obtain ⟨w1, w2, w3⟩ := wk i p ep
      obtain ⟨s', es, pr, ew⟩ := al.shape w1
      refine ⟨.ref o, rfl, .ref t, rfl, .int (edge ss ws i), rfl, .int cols, rfl, o, t, high, edge ss ws i, cols, ss, p, rfl, al1, sameT sm hp, w1, w2, w3, fun H2 s2 => ⟨_, rfl, iteF ?_⟩⟩
      have s12 := sm.trans s2
      refine ⟨.ref t, rfl, t, _, 0, .int p.1, rfl, rfl, sameT s12 hp, rfl, .ref o, rfl, o, dx, _, rfl, s2 _ _ ho, aF_no _ _ (by decide +kernel) (by decide +kernel), .ref t, rfl, t, _, 1, .int p.2, rfl, rfl, sameT s12 hp, rfl, o, high, p.2, ss, s', rfl, (al.same s12).al, es, pr, fun H3 s3 => ⟨p.1, s'.w, rfl, rfl, some (.ref t), ?_, s12.trans s3⟩⟩
      rw [edge_at ep, ew, Int.natCast_add]
      rfl
    · rintro σ H1 ⟨y4, rfl, sm⟩
      exact q H1 sm
theorem ok_drr {f : Addr} {fd : FuncData} {k : Nat} (F : Fun K "drawn" "drawn" sDr f fd) (T : Tx mg) (TA : Tal K mg CA) (ml : ∃ t, mg "MOST_LINE_COLUMNS" = some (.int 60 t)) (GR : Pm P w K mg base CX0 (k + 1) "want_reading" ["alphabet", "columns", "thing"] (spWRr K CA))
    (GB : Pm P w K mg base CX0 (k + 1) "is_between" ["thing", "least", "most"] (spBetw K)) (GS : Mm P w K mg base (k + 1) CA "shapes" ["self"] (spAS CA)) (GH : Mm P w K mg base (k + 1) CA "high" ["self"] (spAH CA)) (GD : Pm P w K mg base CX0 (k + 1) "_row_drawn" ["pictures", "wide", "reading", "row"] (spRD K)) :
    FnOk P w K mg base CX0 (k + 2) f fd ["alphabet", "wide", "reading"] (spDrr K CA) := by
  obtain ⟨fR, fdR, GR, mR, kR, bR⟩ := GR.ex
  obtain ⟨fB, fdB, GB, mB, kB, bB⟩ := GB.ex
  obtain ⟨fS, fdS, GS, mS, bS⟩ := GS.ex
  obtain ⟨fH, fdH, GH, mH, bH⟩ := GH.ex
  obtain ⟨fD, fdD, GD, mD, kD, bD⟩ := GD.ex
  obtain ⟨tl, hml⟩ := ml
  refine F.ok scDr (fun vs H Q E h => ?_) (fun cdv A outer s H vs Q E hr h => ?_)
  · obtain ⟨o, a, _, _, _, _, rfl, _⟩ := h
    rfl
  · obtain ⟨o, a, high, cols, ss, ws, rfl, al, c1, c60, gd, q⟩ := h
    have nd := scDr.nd
    refine ⟨_, pss_cons (ps_if (pt_not (pt_val (pe_call GB hr (by rfl) mB kB bB .nil pass0 (pa_cons (pv 1) (pa_cons pe_int (pa_cons (pe_glob (v := .int 60) (by rfl) hml ⟨_, rfl⟩) pa_nil)))))) pss_never pss_nil)
      (pss_cons (ps_expr (pe_call GR hr (by rfl) mR kR bR .nil pass0 (pa_cons (pv 0) (pa_cons (pv 1) (pa_cons (pv 2) pa_nil)))))
      (C8.pss_cut (ps_set (i := 3) nd rfl (.inr rfl) (pe_lc (own := [("_", 4), ("picture", 5)]) (g := gTup K 2 (gCons (gName 4) (gCons (gName 5) gNil))) (tt := tYes) rfl nd (pi_list (pe_meth0 (pv 0) TA.cl mS GS hr bS .nil pass0)) (blkOk_by (N := nDr) (sc := defScope sDr) (by decide +kernel))
          (fun _ _ _ _ _ => pg_tup rfl (pgs_cons (pg_name (i := 4) nd rfl (Or.inl rfl)) (pgs_cons (pg_name (i := 5) nd rfl (Or.inl rfl)) pgs_nil))) (fun _ _ _ _ _ => pts_nil) (fun _ _ _ _ _ => pv 5)))
      (pss_one (ps_ret (pe_callTy call_tuple_of (by rfl) T.tuple (by decide +kernel) (pa_cons (pe_lc (own := [("row", 6)]) (g := gName 6) (tt := tYes) rfl nd (pi_range1 rfl T.range (pa_cons (pe_meth0 (pv 0) TA.cl mH GH hr bH .nil pass0) pa_nil)) (blkOk_by (N := nDr) (sc := defScope sDr) (by decide +kernel)) (fun _ _ _ _ _ => pg_name (i := 6) nd rfl (Or.inl rfl)) (fun _ _ _ _ _ => pts_nil)
          (fun _ _ _ _ _ => pe_call GD hr (by rfl) mD kD bD .nil pass0 (pa_cons (pv 3) (pa_cons (pv 1) (pa_cons (pv 2) (pa_cons (pv 6) pa_nil)))))) pa_nil)))))), ?_⟩
    have eb : betw (.int cols) 1 60 = true := by
      rw [betw_int, decide_eq_true (by omega), decide_eq_true (by omega)]
      rfl
    refine ⟨.int cols, rfl, .int cols, 1, 60, rfl, kt_int _, _, rfl, ?_⟩
    rw [eb]
    refine iteF ?_
    refine ⟨.ref o, rfl, .int cols, rfl, .ref a, rfl, o, a, high, cols, ss, ws, rfl, al, gd, fun H1 s1 => ?_⟩
    have al1 := al.same s1
    obtain ⟨⟨zs, ha, pl⟩, wk⟩ := gd.same s1
    have l16 := al.l16
    obtain ⟨dx, t, ys0, ho, hts, Ss⟩ := id al1.al
    refine ⟨fun σ' H' => ∃ l pvs, σ' = [some (.ref o), some (.int cols), some (.ref a), some (.ref l), none, none, none] ∧ Same H1 H' ∧ H' l = some (.lst pvs) ∧ Pcs H' pvs ss, ?_, ?_⟩
    · refine ⟨.ref o, rfl, o, dx, _, rfl, ho, aF_no _ _ (by decide +kernel) (by decide +kernel), o, high, ss, rfl, al1.al, fun l ys H2 s2 nl hl Sl => ⟨l, rfl, ⟨_, SqL.of hl⟩, fun D hD => lc_list (K := K) (a := l) (xs := ys) (fun i H3 => Same H2 H3 ∧ ∃ pvs, H3 D = some (.lst pvs) ∧ Pcs H3 pvs (ss.take i)) ⟨same_upd hD, [], upd_same, ⟨rfl, fun i z s h => nomatch h⟩⟩ (fun i H3 _ z => SqL.of (z.1 _ _ hl)) ?_ ?_⟩⟩
      · rintro i y H3 hy ⟨sm, pvs, h3, P3⟩
        have hi : i < ss.length := by
          rw [← Sl.len]
          exact (List.getElem?_eq_some_iff.mp hy).1
        have es : ss[i]? = some ss[i] := List.getElem?_eq_getElem hi
        generalize ss[i] = s' at es
        obtain ⟨t2, p2, rfl, ht2, hp2⟩ := Sl.at_ i y s' hy es
        refine ⟨t2, _, rfl, SqT.of (sm _ _ ht2), rfl, _, _, rfl, _, _, rfl, rfl, rfl, .ref p2, rfl, _, h3, ?_, same_over sm hD, pvs ++ [.ref p2], upd_same, ?_⟩
        · rw [P3.len, List.length_take]
          exact small1000 (by omega)
        · rw [take_snoc es]
          refine Pcs.add (P3.updl h3) ?_
          rw [upd_ne (ne_of (sm _ _ hp2) h3 (by intro q; cases q))]
          exact sm _ _ hp2
      · rintro H3 ⟨sm, pvs, h3, P3⟩
        rw [Sl.len, List.take_length] at P3
        exact ⟨D, pvs, rfl, s2.trans sm, h3, P3⟩
    rintro _ H2 ⟨l, pvs, rfl, s2, hl, Ps⟩
    have al2 := al1.same s2
    obtain ⟨dx2, t2, ys2, ho2, hts2, Ss2⟩ := id al2.al
    have pr0 := al.pr
    have high0 : 1 ≤ high ∧ high ≤ 60 := by
      have p := pr0 _ (List.getElem_mem al.l1)
      exact ⟨p.h0, p.h1⟩
    refine ⟨.ref o, rfl, o, dx2, _, rfl, ho2, aF_no _ _ (by decide +kernel) (by decide +kernel), o, high, ss, rfl, al2.al, high, rfl, by omega, by omega, fun D hD => lc_range (lo := 0) (n := high) (fun i H3 => Same H2 H3 ∧ H3 D = some (.lst (((drawR ss high cols ws).take i).map rv))) ⟨same_upd hD, upd_same⟩ ?_ ?_⟩
    · rintro i H3 hi ⟨sm, h3⟩
      have e0 : (0 + (i : Int)) = (i : Int) := Int.zero_add _
      rw [e0]
      have ed : (drawR ss high cols ws)[i]? = some ((List.range cols).map (pix ss ws i)) := by
        unfold drawR
        rw [List.getElem?_map, List.getElem?_range hi]
        rfl
      refine ⟨rfl, .ref l, rfl, .int cols, rfl, .ref a, rfl, .int i, rfl, l, a, high, cols, i, pvs, zs, ss, ws, rfl, sm _ _ hl, Ps.same sm, pr0, sameT (s2.trans sm) ha, pl.same (s2.trans sm), wk, c60, hi, _, h3, ?_, same_over sm hD, ?_⟩
      · rw [List.length_map, List.length_take]
        exact small1000 (by omega)
      · rw [upd_same, take_snoc ed, List.map_append]
        rfl
    · rintro H3 ⟨sm, h3⟩
      have e3 : (drawR ss high cols ws).take high = drawR ss high cols ws := List.take_of_length_le (by unfold drawR; rw [List.length_map, List.length_range]; exact Nat.le_refl _)
      rw [e3] at h3
      refine ⟨D, _, rfl, .inl ⟨SqL.of h3, fun p hp => ?_⟩⟩
      have s13 := (s1.trans s2).trans sm
      exact q p _ (s13.trans (same_upd hp)) (s13.free hp) upd_same
end
end Dt
namespace Dt
open PySem PySem.Spec PyProof.Rows L2 L2X
/-! ### ways on are readings -/
theorem vd_fw {ss : List Sh} {wide : Nat} : ∀ {w : List (Nat × Nat)} {lim : Nat}, Vd ss lim w → lim ≤ wide → Fw ss wide (wide - lim) (fromFront wide w)
  | [], _, _, _ => trivial
  | p :: r, lim, ⟨h1, h2, h3, h4⟩, hl => by
    refine ⟨by show wide - lim ≤ wide - p.1; omega, h2, by show wide - p.1 + wdt ss p.2 ≤ wide; omega, ?_⟩
    have := vd_fw (wide := wide) h4 (by omega)
    rw [show wide - (p.1 - wdt ss p.2) = wide - p.1 + wdt ss p.2 by omega] at this
    exact this
theorem vd_le {ss : List Sh} : ∀ {w : List (Nat × Nat)} {lim : Nat}, Vd ss lim w → ∀ q ∈ w, q.1 ≤ lim
  | [], _, _, q, h => nomatch h
  | p :: r, lim, ⟨h1, _, _, h4⟩, q, h => by
    rcases List.mem_cons.mp h with e | h
    · rw [e]
      exact h1
    · have := vd_le h4 q h
      omega
theorem fw_le {ss : List Sh} {wide : Nat} : ∀ {w : List (Nat × Nat)} {e : Nat}, Fw ss wide e w → ∀ q ∈ w, q.1 ≤ wide
  | [], _, _, q, h => nomatch h
  | p :: r, e, ⟨h1, h2, h3, h4⟩, q, h => by
    rcases List.mem_cons.mp h with z | h
    · rw [z]
      omega
    · exact fw_le h4 q h
theorem front_front {n : Nat} : ∀ {w : List (Nat × Nat)}, (∀ p ∈ w, p.1 ≤ n) → fromFront n (fromFront n w) = w
  | [], _ => rfl
  | p :: w, h => by
    have p1 := h p List.mem_cons_self
    have ih := front_front (n := n) (w := w) fun q hq => h q (List.mem_cons_of_mem _ hq)
    unfold fromFront at ih ⊢
    rw [List.map_cons, List.map_cons, ih]
    congr 1
    refine Prod.ext ?_ rfl
    show n - (n - p.1) = p.1
    omega
/-- a column of what a reading draws -/
def colP (ss : List Sh) (high : Nat) (ws : List (Nat × Nat)) (c : Nat) : List Nat := (List.range high).map fun r => pix ss ws r c
def colK (ss : List Sh) (high : Nat) (ws : List (Nat × Nat)) (c : Nat) : Nat := numN (colP ss high ws c)
theorem numN_white : ∀ n : Nat, numN (List.replicate n 46) = 0
  | 0 => rfl
  | n + 1 => by
    rw [List.replicate_succ', numN_snoc, numN_white n]
    rfl
theorem colP_low {ss : List Sh} {high wide c : Nat} {v : List (Nat × Nat)} (h : ∀ r, pix ss v r c = 46) : colK ss high v c = 0 := by
  unfold colK colP
  have : ((List.range high).map fun r => pix ss v r c) = List.replicate high 46 := by
    rw [show (fun r => pix ss v r c) = fun _ => 46 from funext h, List.map_const', List.length_range]
  rw [this]
  exact numN_white high
theorem col_low {ss : List Sh} {high wide c e : Nat} {v : List (Nat × Nat)} (h : Fw ss wide e v) (hc : c < e) : colK ss high v c = 0 :=
  colP_low (wide := wide) fun r => fold_low 46 h hc
theorem Go.cols {ss : List Sh} {high wide : Nat} (pr : ∀ s ∈ ss, PicR high s.w s.rs) : ∀ {n : Nat} {t : List Nat} {w : List (Nat × Nat)} {cs : List Nat}, Go ss n t w cs → n ≤ wide → cs = t ++ (List.range (n - t.length)).map fun j => colK ss high (fromFront wide w) (wide - n + t.length + j)
  | _, _, _, _, .nil, _ => rfl
  | _, _, _, _, .pend (n := n) (c := c) (t := t) h, hn => by
    have ih := h.cols pr (wide := wide) (by omega)
    have lt := h.vd.1
    rw [List.length_cons, show n + 1 - (t.length + 1) = n - t.length by omega, show wide - (n + 1) + (t.length + 1) = wide - n + t.length by omega, List.cons_append]
    exact congrArg _ ih
  | _, _, _, _, .white (n := n) (w := w) (cs := cs) h, hn => by
    have ih := h.cols pr (wide := wide) (by omega)
    have f := vd_fw (wide := wide) h.vd.2.1 (by omega)
    rw [List.nil_append, List.length_nil] at ih ⊢
    rw [Nat.sub_zero, List.range_succ_eq_map, List.map_cons, List.map_map, col_low f (by show _ < wide - (n - 0); omega)]
    rw [ih, Nat.sub_zero]
    refine congrArg _ (List.map_congr_left fun j hj => ?_)
    show colK ss high _ (wide - n + 0 + j) = colK ss high _ (wide - (n + 1) + 0 + (j + 1))
    congr 1
    omega
  | _, _, _, _, .beg (n := n) (k := k) (c := c) (t := t) (w := w) (cs := cs) hk hc h, hn => by
    have ih := h.cols pr (wide := wide) (by omega)
    have f0 := h.vd
    have f := vd_fw (wide := wide) f0.2.1 (by omega)
    have lw := clk_len ss k
    have lc := congrArg List.length hc
    rw [List.length_cons] at lc
    have fc : Fw ss wide (wide - (n + 1)) ((wide - (n + 1), k) :: fromFront wide w) := by
      refine ⟨Nat.le_refl _, hk, by show wide - (n + 1) + wdt ss k ≤ wide; omega, ?_⟩
      show Fw ss wide (wide - (n + 1) + wdt ss k) (fromFront wide w)
      rw [show wide - (n + 1) + wdt ss k = wide - (n - t.length) by omega]
      exact f
    have es : ss[k]? = some ss[k] := List.getElem?_eq_getElem hk
    have ps := pr ss[k] (List.getElem_mem hk)
    have ew := wdt_at es
    have ra : ∀ r, rowAt ss k r = ss[k].rs.getD r [] := fun r => rowAt_at es
    have ek := clk_at es
    generalize ss[k] = s at es ps ew ra ek
    have e1 : c :: cs = clk ss k ++ (List.range (n - t.length)).map fun j => colK ss high (fromFront wide w) (wide - n + t.length + j) := by
      rw [hc, List.cons_append, ← ih]
    rw [e1, List.nil_append, List.length_nil, Nat.sub_zero, show n + 1 = wdt ss k + (n - t.length) by omega, List.range_add, List.map_append, List.map_map]
    have fc' : fromFront wide ((wdt ss k + (n - t.length), k) :: w) = (wide - (n + 1), k) :: fromFront wide w := by
      rw [show wdt ss k + (n - t.length) = n + 1 by omega]
      rfl
    rw [fc']
    congr 1
    · rw [ek]
      unfold nums colsW
      rw [List.map_map, ← ew]
      refine List.map_congr_left fun j hj => ?_
      have hj' := List.mem_range.mp hj
      show numN (s.rs.map fun l => l.getD j 0) = numN (colP ss high _ _)
      congr 1
      unfold colP
      apply List.ext_getElem?
      intro r
      by_cases hr : r < high
      · rw [List.getElem?_map, List.getElem?_map, List.getElem?_range hr, List.getElem?_eq_getElem (by rw [ps.len]; exact hr)]
        show some ((s.rs[r]'(by rw [ps.len]; exact hr)).getD j 0) = some (pix ss ((wide - (n + 1), k) :: fromFront wide w) r (wide - (wdt ss k + (n - t.length)) + 0 + j))
        rw [pix_cons fc]
        show _ = some (if wide - (n + 1) ≤ _ ∧ _ < wide - (n + 1) + wdt ss k then (rowAt ss k r).getD (_ - (wide - (n + 1))) 0 else _)
        rw [if_pos (by omega), ra r, List.getD_eq_getElem?_getD (l := s.rs), List.getElem?_eq_getElem (by rw [ps.len]; exact hr)]
        rw [show wide - (wdt ss k + (n - t.length)) + 0 + j - (wide - (n + 1)) = j by omega]
        rfl
      · rw [List.getElem?_eq_none (by rw [List.length_map, ps.len]; omega), List.getElem?_eq_none (by rw [List.length_map, List.length_range]; omega)]
    · refine List.map_congr_left fun j hj => ?_
      show colK ss high _ (wide - n + t.length + j) = colK ss high _ (wide - (wdt ss k + (n - t.length)) + 0 + (wdt ss k + j))
      unfold colK
      congr 1
      unfold colP
      refine List.map_congr_left fun r _ => ?_
      rw [pix_cons fc]
      show _ = if wide - (n + 1) ≤ _ ∧ _ < wide - (n + 1) + wdt ss k then _ else _
      rw [if_neg (by omega)]
      congr 1
      omega
theorem Go.whites {ss : List Sh} {n : Nat} {w : List (Nat × Nat)} {cs : List Nat} (h : Go ss n [] w cs) : ∀ m : Nat, ∃ cs', Go ss (n + m) [] w cs'
  | 0 => ⟨cs, h⟩
  | m + 1 => let ⟨_, g⟩ := h.whites m; ⟨_, .white g⟩
theorem Go.pends {ss : List Sh} {n : Nat} {w : List (Nat × Nat)} {cs : List Nat} (h : Go ss n [] w cs) : ∀ t : List Nat, Go ss (n + t.length) t w (t ++ cs)
  | [] => h
  | c :: t => .pend (h.pends t)
theorem go_of {ss : List Sh} {wide : Nat} (h1 : ∀ k, k < ss.length → 1 ≤ wdt ss k) : ∀ {v : List (Nat × Nat)} {e : Nat}, Fw ss wide e v → e ≤ wide → ∃ cs, Go ss (wide - e) [] (fromFront wide v) cs
  | [], e, _, he => by
    obtain ⟨cs, g⟩ := Go.nil (ss := ss) |>.whites (wide - e)
    rw [Nat.zero_add] at g
    exact ⟨cs, g⟩
  | p :: v, e, ⟨a, b, c, d⟩, he => by
    obtain ⟨cs, g⟩ := go_of h1 d (by omega)
    have w1 := h1 _ b
    have lw := clk_len ss p.2
    obtain ⟨c0, t, ec⟩ : ∃ c0 t, clk ss p.2 = c0 :: t := by
      cases hc : clk ss p.2 with
      | nil =>
        rw [hc] at lw
        have lw' : 0 = wdt ss p.2 := lw
        omega
      | cons c0 t => exact ⟨c0, t, rfl⟩
    rw [ec, List.length_cons] at lw
    have g2 := Go.beg b ec (g.pends t)
    rw [show wide - (p.1 + wdt ss p.2) + t.length + 1 = wide - p.1 by omega] at g2
    obtain ⟨cs', g3⟩ := g2.whites (p.1 - e)
    rw [show wide - p.1 + (p.1 - e) = wide - e by omega] at g3
    exact ⟨cs', g3⟩
theorem go_of0 {ss : List Sh} {n : Nat} (h1 : ∀ k, k < ss.length → 1 ≤ wdt ss k) {v : List (Nat × Nat)} (h : Fw ss n 0 v) : ∃ cs, Go ss n [] (fromFront n v) cs := go_of h1 h (Nat.zero_le _)
theorem Go.unpend {ss : List Sh} : ∀ {n : Nat} {t : List Nat} {w : List (Nat × Nat)} {cs : List Nat}, Go ss n t w cs → ∃ cs2, cs = t ++ cs2 ∧ Go ss (n - t.length) [] w cs2
  | _, _, _, _, .nil => ⟨[], rfl, .nil⟩
  | _, _, _, _, .pend (n := n) (t := t) h => by
    obtain ⟨cs2, e, g⟩ := h.unpend
    refine ⟨cs2, by rw [e]; rfl, ?_⟩
    rw [List.length_cons, show n + 1 - (t.length + 1) = n - t.length by omega]
    exact g
  | _, _, _, _, .white h => ⟨_, rfl, .white h⟩
  | _, _, _, _, .beg hk hc h => ⟨_, rfl, .beg hk hc h⟩
theorem pc_zero : pc 0 = 0 := by
  rw [pc]
  rfl
theorem dC_same : ∀ (t a b : List Nat), dC (t ++ a) (t ++ b) = dC a b
  | [], _, _ => rfl
  | c :: t, a, b => by
    show pc (c ^^^ c) + dC (t ++ a) (t ++ b) = _
    rw [Nat.xor_self, pc_zero, Nat.zero_add]
    exact dC_same t a b
theorem dC_map (f g : Nat → Nat) : ∀ l : List Nat, dC (l.map f) (l.map g) = (l.map fun j => pc (f j ^^^ g j)).sum
  | [] => rfl
  | c :: l => by
    rw [List.map_cons, List.map_cons, List.map_cons, List.sum_cons, ← dC_map f g l]
    rfl
/-- what two unlike ways have alike at the front is left out -/
theorem Go.strip {ss : List Sh} (n : Nat) : ∀ {w cs w' cs'}, Go ss n [] w cs → Go ss n [] w' cs' → w ≠ w' → ∃ m u cu u' cu', m ≤ n ∧ Go ss m [] u cu ∧ Go ss m [] u' cu' ∧ hdN m u ≠ hdN m u' ∧ dC cu cu' = dC cs cs' ∧ (m = n → u = w ∧ u' = w') := by
  induction n using Nat.strongRecOn with
  | _ n ih =>
    intro w cs w' cs' g g' ne
    by_cases hd : hdN n w ≠ hdN n w'
    · exact ⟨n, w, cs, w', cs', Nat.le_refl _, g, g', hd, rfl, fun _ => ⟨rfl, rfl⟩⟩
    · have hd : hdN n w = hdN n w' := by
        by_cases e : hdN n w = hdN n w'
        · exact e
        · exact absurd e hd
      cases g with
      | nil =>
        cases g'
        exact absurd rfl ne
      | @white n w cs h =>
        have a := hd_pre (o := none) h
        cases g' with
        | @white _ w' cs' h' =>
          obtain ⟨m, u, cu, u', cu', l, x1, x2, x3, x4, x5⟩ := ih n (Nat.lt_succ_self _) h h' ne
          refine ⟨m, u, cu, u', cu', by omega, x1, x2, x3, ?_, fun z => by omega⟩
          rw [x4]
          exact (dC_same [0] cs cs').symm
        | @beg _ k c t w' cs' hk hc h' =>
          have b := hd_pre (o := some k) h'
          have a' : hdN (n + 1) w = none := a
          have b' : hdN (n + 1) ((n + 1, k) :: w') = some k := b
          rw [a', b'] at hd
          cases hd
      | @beg n k c t w cs hk hc h =>
        have a : hdN (n + 1) ((n + 1, k) :: w) = some k := hd_pre (o := some k) h
        cases g' with
        | @white _ w' cs' h' =>
          have b : hdN (n + 1) w' = none := hd_pre (o := none) h'
          rw [a, b] at hd
          cases hd
        | @beg _ k' c' t' w' cs' hk' hc' h' =>
          have b : hdN (n + 1) ((n + 1, k') :: w') = some k' := hd_pre (o := some k') h'
          rw [a, b] at hd
          cases hd
          rw [hc] at hc'
          obtain ⟨rfl, rfl⟩ := List.cons.inj hc'
          obtain ⟨c1, rfl, g1⟩ := h.unpend
          obtain ⟨c2, rfl, g2⟩ := h'.unpend
          obtain ⟨m, u, cu, u', cu', l, x1, x2, x3, x4, x5⟩ := ih (n - t.length) (by omega) g1 g2 (fun z => ne (by rw [z]))
          refine ⟨m, u, cu, u', cu', by omega, x1, x2, x3, ?_, fun z => by omega⟩
          rw [x4]
          exact (dC_same (c :: t) c1 c2).symm
/-! ### how far apart two readings draw -/
def dsR (ss : List Sh) (high wide : Nat) (v u : List (Nat × Nat)) : Nat := ((List.range wide).map fun c => pc (colK ss high v c ^^^ colK ss high u c)).sum
theorem dsR_comm (ss : List Sh) (high wide : Nat) (v u : List (Nat × Nat)) : dsR ss high wide v u = dsR ss high wide u v := by
  unfold dsR
  congr 1
  refine List.map_congr_left fun c _ => ?_
  rw [Nat.xor_comm]
theorem dsR_self (ss : List Sh) (high wide : Nat) (v : List (Nat × Nat)) : dsR ss high wide v v = 0 := by
  unfold dsR
  have : (fun c => pc (colK ss high v c ^^^ colK ss high v c)) = fun _ => 0 := funext fun c => by rw [Nat.xor_self, pc_zero]
  rw [this, sum_zero]
theorem colK_lt (ss : List Sh) (high : Nat) (v : List (Nat × Nat)) (c : Nat) : colK ss high v c < 2 ^ high := by
  have := numN_lt (colP ss high v c)
  unfold colP at this
  rw [List.length_map, List.length_range] at this
  exact this
theorem sum_le_mul {f : Nat → Nat} {h : Nat} (hf : ∀ c, f c ≤ h) : ∀ l : List Nat, (l.map f).sum ≤ l.length * h
  | [] => Nat.zero_le _
  | c :: l => by
    rw [List.map_cons, List.sum_cons, List.length_cons, Nat.succ_mul]
    have := sum_le_mul hf l
    have := hf c
    omega
theorem dsR_le (ss : List Sh) (high wide : Nat) (v u : List (Nat × Nat)) : dsR ss high wide v u ≤ wide * high := by
  have := sum_le_mul (f := fun c => pc (colK ss high v c ^^^ colK ss high u c)) (h := high) (fun c => pc_small _ _ (Nat.xor_lt_two_pow (colK_lt ss high v c) (colK_lt ss high u c))) (List.range wide)
  rw [List.length_range] at this
  exact this
theorem Go.dist {ss : List Sh} {high n : Nat} (pr : ∀ s ∈ ss, PicR high s.w s.rs) {w cs w' cs'} (g : Go ss n [] w cs) (g' : Go ss n [] w' cs') : dC cs cs' = dsR ss high n (fromFront n w) (fromFront n w') := by
  have a := g.cols pr (Nat.le_refl _)
  have b := g'.cols pr (Nat.le_refl _)
  rw [List.nil_append, List.length_nil] at a b
  rw [a, b, dC_map]
  unfold dsR
  congr 1
  rw [Nat.sub_zero]
  refine List.map_congr_left fun c _ => ?_
  rw [show n - n + 0 + c = c by omega]
theorem pix_cl {ss : List Sh} {high wide : Nat} {v : List (Nat × Nat)} {c : Nat} (hc : c < wide) : colAt (drawR ss high wide v) c = colP ss high v c := by
  unfold colAt drawR colP
  rw [List.map_map]
  refine List.map_congr_left fun r _ => ?_
  show ((List.range wide).map (pix ss v r)).getD c 0 = _
  rw [List.getD_eq_getElem?_getD, List.getElem?_map, List.getElem?_range hc]
  rfl
theorem colP_sg {ss : List Sh} {high wide : Nat} (pr : ∀ s ∈ ss, PicR high s.w s.rs) {e : Nat} {v : List (Nat × Nat)} (h : Fw ss wide e v) (c : Nat) : ∀ x ∈ colP ss high v c, x = 35 ∨ x = 46 := fun x hx => by
  obtain ⟨r, hr, rfl⟩ := List.mem_map.mp hx
  exact pix_ok (rowsW_of pr (List.mem_range.mp hr)) h.way.num
theorem dsR_mis {ss : List Sh} {high wide : Nat} (pr : ∀ s ∈ ss, PicR high s.w s.rs) (h0 : 1 ≤ high) (h6 : high ≤ 60) (w0 : 1 ≤ wide) (w1 : wide ≤ 120) {e f : Nat} {v u : List (Nat × Nat)} (hv : Fw ss wide e v) (hu : Fw ss wide f u) : misP (drawR ss high wide v) (drawR ss high wide u) = (dsR ss high wide v u : Int) := by
  have pv := draw_pic pr hv.way h0 h6 w0 w1
  have a := misP_pix (f := pix ss u) pv.rows
  refine a.trans (congrArg _ ?_)
  unfold dsR
  congr 1
  refine List.map_congr_left fun c hc => ?_
  have hc' := List.mem_range.mp hc
  have b := col_dif (f := pix ss u) (c := c) pv.rows
  rw [← b, zip_mis]
  show misZ (colP ss high u c) (colAt (drawR ss high wide v) c) = _
  rw [pix_cl hc', ← pc_xor _ _ (by unfold colP; rw [List.length_map, List.length_map]) (colP_sg pr hu c) (colP_sg pr hv c), Nat.xor_comm]
  rfl
/-! ### the nearest of widths up to m -/
/-- .. as they are told, from behind -/
structure NX (ss : List Sh) (i num wd : Nat) (w : List (Nat × Nat)) : Prop where
  lo : ∀ n, n ≤ i → ∀ w1 c1 w2 c2, Go ss n [] w1 c1 → Go ss n [] w2 c2 → hdN n w1 ≠ hdN n w2 → num ≤ dC c1 c2 ∧ (dC c1 c2 = num → wd ≤ n ∧ (n = wd → msLt w1 w = false))
  hit : num < 1000000 → 1 ≤ wd ∧ ∃ c w2 c2, Go ss wd [] w c ∧ Go ss wd [] w2 c2 ∧ hdN wd w ≠ hdN wd w2 ∧ dC c c2 = num
  le : num ≤ 1000000
  wi : wd ≤ i
theorem NX.start {ss : List Sh} : NX ss 0 1000000 0 [] := by
  refine ⟨fun n hn w1 c1 w2 c2 g1 g2 ne => ?_, fun z => absurd z (Nat.lt_irrefl _), Nat.le_refl _, Nat.le_refl _⟩
  obtain rfl : n = 0 := by omega
  cases g1
  cases g2
  exact absurd rfl ne
theorem NX.lt {ss : List Sh} {i num wd : Nat} {w : List (Nat × Nat)} (h : NX ss i num wd w) {p : Pw} (u : UX ss (i + 1) p) (l : p.1 < num) : NX ss (i + 1) p.1 (i + 1) p.2 := by
  have hl := h.le
  refine ⟨fun n hn w1 c1 w2 c2 g1 g2 ne => ?_, fun _ => ⟨by omega, ?_⟩, by omega, Nat.le_refl _⟩
  · by_cases e : n = i + 1
    · subst e
      have := u.lo _ _ _ _ g1 g2 ne
      exact ⟨qLt_num this, fun z => ⟨Nat.le_refl _, fun _ => qLt_eq this z⟩⟩
    · have := (h.lo n (by omega) _ _ _ _ g1 g2 ne).1
      exact ⟨by omega, fun z => by omega⟩
  · exact u.hit (by omega)
theorem NX.ge {ss : List Sh} {i num wd : Nat} {w : List (Nat × Nat)} (h : NX ss i num wd w) {p : Pw} (u : UX ss (i + 1) p) (l : ¬ p.1 < num) : NX ss (i + 1) num wd w := by
  have hw := h.wi
  refine ⟨fun n hn w1 c1 w2 c2 g1 g2 ne => ?_, h.hit, h.le, by omega⟩
  by_cases e : n = i + 1
  · subst e
    have := qLt_num (u.lo _ _ _ _ g1 g2 ne)
    have this' : p.1 ≤ dC c1 c2 := this
    exact ⟨by omega, fun z => ⟨by omega, fun z2 => by omega⟩⟩
  · exact h.lo n (by omega) _ _ _ _ g1 g2 ne
/-- the first reading of the nearest pairs of all widths up to m, and their number -/
structure Near (ss : List Sh) (high m num wd : Nat) (v : List (Nat × Nat)) : Prop where
  fw : Fw ss wd 0 v
  w1 : 1 ≤ wd
  w2 : wd ≤ m
  ex : ∃ u, Fw ss wd 0 u ∧ u ≠ v ∧ dsR ss high wd v u = num
  lo : ∀ n, n ≤ m → ∀ x y, Fw ss n 0 x → Fw ss n 0 y → x ≠ y → num ≤ dsR ss high n x y ∧ (dsR ss high n x y = num → wd ≤ n ∧ (n = wd → psLt x v = false))
/-- there is one reading alone -/
def Alone (ss : List Sh) (m : Nat) : Prop := ∀ n, n ≤ m → ∀ x, Fw ss n 0 x → x = []
theorem Go.fw {ss : List Sh} {n : Nat} {w : List (Nat × Nat)} {cs : List Nat} (g : Go ss n [] w cs) : Fw ss n 0 (fromFront n w) := by
  have := vd_fw (wide := n) g.vd.2.1 (Nat.sub_le _ _)
  rw [List.length_nil, Nat.sub_zero, Nat.sub_self] at this
  exact this
theorem Go.le {ss : List Sh} {n : Nat} {w : List (Nat × Nat)} {cs : List Nat} (g : Go ss n [] w cs) : ∀ p ∈ w, p.1 ≤ n := fun p hp => by
  have := vd_le g.vd.2.1 p hp
  omega
theorem NX.low {ss : List Sh} {high m num wd : Nat} {w : List (Nat × Nat)} (pr : ∀ s ∈ ss, PicR high s.w s.rs) (h1 : ∀ k, k < ss.length → 1 ≤ wdt ss k) (h : NX ss m num wd w) (hw : ∀ p ∈ w, p.1 ≤ wd) {n : Nat} (hn : n ≤ m) {x y : List (Nat × Nat)} (hx : Fw ss n 0 x) (hy : Fw ss n 0 y) (ne : x ≠ y) : num ≤ dsR ss high n x y ∧ (dsR ss high n x y = num → wd ≤ n ∧ (n = wd → psLt x (fromFront wd w) = false)) := by
  obtain ⟨cx, gx⟩ := go_of0 h1 hx
  obtain ⟨cy, gy⟩ := go_of0 h1 hy
  have fx := front_front (fw_le hx)
  have fy := front_front (fw_le hy)
  obtain ⟨k, u, cu, u', cu', l, x1, x2, x3, x4, x5⟩ := gx.strip n gy (fun z => ne (by rw [← fx, ← fy, z]))
  have d := gx.dist pr gy
  rw [fx, fy] at d
  have kn : k ≤ n := by omega
  obtain ⟨a, b⟩ := h.lo k (by omega) _ _ _ _ x1 x2 x3
  rw [x4, d] at a b
  refine ⟨a, fun e => ?_⟩
  obtain ⟨c1, c2⟩ := b e
  refine ⟨by omega, fun z => ?_⟩
  have kz : k = n := by omega
  obtain ⟨e1, e2⟩ := x5 (by omega)
  have := c2 (by omega)
  rw [← front_lt (n := wd) (fun p hp => by have := x1.le p hp; omega) hw, e1, ← z] at this
  rw [← z]
  rw [show fromFront n (fromFront n x) = x from fx] at this
  exact this
theorem NX.near {ss : List Sh} {high m num wd : Nat} {w : List (Nat × Nat)} (pr : ∀ s ∈ ss, PicR high s.w s.rs) (h1 : ∀ k, k < ss.length → 1 ≤ wdt ss k) (h : NX ss m num wd w) (lt : num < 1000000) : Near ss high m num wd (fromFront wd w) := by
  obtain ⟨w1, c, w2, c2, g, g2, ne, d⟩ := h.hit lt
  refine ⟨g.fw, w1, h.wi, ⟨fromFront wd w2, g2.fw, fun z => ne ?_, ?_⟩, fun n hn x y hx hy nxy => h.low pr h1 g.le hn hx hy nxy⟩
  · have := congrArg (fromFront wd) z
    rw [front_front g.le, front_front g2.le] at this
    rw [this]
  · rw [← g.dist pr g2]
    exact d
theorem NX.none {ss : List Sh} {high m num wd : Nat} {w : List (Nat × Nat)} (pr : ∀ s ∈ ss, PicR high s.w s.rs) (h1 : ∀ k, k < ss.length → 1 ≤ wdt ss k) (h : NX ss m num wd w) (lt : ¬ num < 1000000) (h9 : high ≤ 9) (m6 : m ≤ 60) : Alone ss m := fun n hn x hx => by
  by_cases e : x = []
  · exact e
  · obtain ⟨cx, gx⟩ := go_of0 h1 hx
    obtain ⟨cy, gy⟩ := go_of0 (n := n) h1 (show Fw ss n 0 [] from trivial)
    have fx := front_front (fw_le hx)
    obtain ⟨k, u, cu, u', cu', l, x1, x2, x3, x4, x5⟩ := gx.strip n gy (fun z => e (by rw [← fx, z]; rfl))
    have a := (h.lo k (by omega) _ _ _ _ x1 x2 x3).1
    rw [x1.dist pr x2] at a
    have b := dsR_le ss high k (fromFront k u) (fromFront k u')
    have : k * high ≤ 60 * 9 := Nat.mul_le_mul (by omega) h9
    omega
end Dt
namespace Dt
open PySem PySem.Spec PyProof.Rows L2 L2X
open SX (S)
/-! ### the nearest of all -/
/-- a number, a width, a reading -/
def NeA (K : PySem.W.Frag) (H : Hp) (t : Addr) (num wd : Nat) (ws : List (Nat × Nat)) : Prop := ∃ u zs, H t = some (.tup [.int num, .int wd, .ref u]) ∧ SqT K H u zs ∧ Plc K H zs ws
theorem NeA.same {K : PySem.W.Frag} {H H' : Hp} {t : Addr} {num wd : Nat} {ws : List (Nat × Nat)} (h : NeA K H t num wd ws) (s : Same H H') : NeA K H' t num wd ws :=
  let ⟨u, zs, a, b, c⟩ := h; ⟨u, zs, s _ _ a, sameT s b, c.same s⟩
/-- .. that is found -/
def Nst (ss : List Sh) (i num wd : Nat) (ws : List (Nat × Nat)) : Prop := ∃ w, ws = fromFront wd w ∧ NX ss i num wd w
abbrev sNe : Stmt := topS 58
abbrev nNe : List Str := ["alphabet", "most", "pairs", "nearest", "wide", "number", "one", "column", "at"]
theorem scNe : FnScope nNe ["alphabet", "most"] (defScope sNe) := ⟨rfl, rfl, rfl, by decide +kernel, rfl, by decide +kernel, by decide +kernel⟩
def spNe (K : PySem.W.Frag) (CA : Addr) : Sp := fun vs H Q _ => ∃ (o : Addr) (m high : Nat) (ss : List Sh), vs = [.ref o, .int m] ∧ AlpG CA H o high ss ∧ high ≤ 9 ∧ 1 ≤ m ∧ m ≤ 60 ∧
  (∀ H', Same H H' → Alone ss m → Q .non H') ∧ ∀ (t : Addr) (num wd : Nat) (ws : List (Nat × Nat)) (H' : Hp), Same H H' → NeA K H' t num wd ws → Near ss high m num wd ws → Q (.ref t) H'
theorem far_lt {num : Nat} (h : decide ((num : Int) < 1000000) = true) : num < 1000000 := by
  have := of_decide_eq_true h
  omega
theorem far_of {num : Nat} (h : num < 1000000) : decide ((num : Int) < 1000000) = true := decide_eq_true (by omega)
section
variable {P : Program} {w : World} {K : PySem.W.Frag} {mg : Str → Option Value} {base : Heap} {C CA CT : Addr}
theorem ok_ne {f fI : Addr} {fd fdI : FuncData} {k : Nat} (F : Fun K "_nearest" "_nearest" sNe f fd) (X : Tx mg) (T : Tpr K mg C) (ml : ∃ t, mg "MOST_LINE_COLUMNS" = some (.int 60 t)) (mf : ∃ t, mg "FAR_parting" = some (.int 1000000 t)) (M : Mk K C fI)
    (GB : Pm P w K mg base CX0 (k + 3) "is_between" ["thing", "least", "most"] (spBetw K)) (GI : FnOk P w K mg base CX0 (k + 2) fI fdI ["self", "alphabet"] (spPI K C CA)) (bI : Binds K fdI ["self", "alphabet"] []) (GF : Mm P w K mg base (k + 3) C "first_unlike" ["self"] (spPF K C)) (GW : Mm P w K mg base (k + 3) C "widen" ["self"] (spPW K C)) :
    FnOk P w K mg base CX0 (k + 4) f fd ["alphabet", "most"] (spNe K CA) := by
  obtain ⟨fB, fdB, GB, mB, kB, bB⟩ := GB.ex
  obtain ⟨fF, fdF, GF, mF, bF⟩ := GF.ex
  obtain ⟨fW, fdW, GW, mW, bW⟩ := GW.ex
  obtain ⟨tn, hml⟩ := ml
  obtain ⟨tf, hmf⟩ := mf
  refine F.ok scNe (fun vs H Q E h => ?_) (fun cdv A outer s H vs Q E hr h => ?_)
  · obtain ⟨_, _, _, _, rfl, _⟩ := h
    rfl
  · obtain ⟨o, m, high, ss, rfl, al, h9, m1, m60, qn, q⟩ := h
    have nd := scNe.nd
    refine ⟨_, pss_cons (ps_if (pt_not (pt_val (pe_call GB hr (by rfl) mB kB bB .nil pass0 (pa_cons (pv 1) (pa_cons pe_int (pa_cons (pe_glob (v := .int 60) (by rfl) hml ⟨_, rfl⟩) pa_nil)))))) pss_never pss_nil)
      (C8.pss_cut (ps_set (i := 2) nd rfl (.inl rfl) (pe_make M GI hr (by rfl) T.mC bI .nil pass0 (pa_cons (pv 0) pa_nil)))
      (pss_cons (ps_set (i := 3) nd rfl (.inl rfl) (pe_tup (pa_cons (pe_glob (v := .int 1000000) (by rfl) hmf ⟨_, rfl⟩) (pa_cons pe_int (pa_cons (pe_tup pa_nil) pa_nil)))))
      (pss_cons (ps_for PassesOwn.never rfl (pi_range2 rfl X.range (pa_cons pe_int (pa_cons (pe_op op_add (pv 1) pe_int) pa_nil))) (pg_name (i := 4) nd rfl (Or.inr rfl))
        (pss_cons (ps_asg (pe_meth0 (pv 2) T.cl mF GF hr bF .nil pass0) (pg_tup rfl (pgs_cons (pg_name (i := 5) nd rfl (Or.inl rfl)) (pgs_cons (pg_name (i := 6) nd rfl (Or.inl rfl)) pgs_nil))))
        (C8.pss_cut (ps_if (pt_cmpR op_lt (pv 5) (pe_ix (r := rIxT K) ix_tup (pv 3) pe_int (fun _ _ => rfl)) (nomark _))
            (pss_one (ps_set (i := 3) nd rfl (.inl rfl) (pe_tup (pa_cons (pv 5) (pa_cons (pv 4) (pa_cons (pe_callTy call_tuple_of (by rfl) X.tuple (by decide +kernel) (pa_cons (pe_lc (own := [("column", 7), ("at", 8)]) (g := gTup K 2 (gCons (gName 7) (gCons (gName 8) gNil))) (tt := tYes) rfl nd (pi_sq (pv 6)) (blkOk_by (N := nNe) (sc := defScope sNe) (by decide +kernel))
                (fun _ _ _ _ _ => pg_tup rfl (pgs_cons (pg_name (i := 7) nd rfl (Or.inl rfl)) (pgs_cons (pg_name (i := 8) nd rfl (Or.inl rfl)) pgs_nil))) (fun _ _ _ _ _ => pts_nil)
                (fun _ _ _ _ _ => pe_tup (pa_cons (pe_op op_add (pv 4) (pv 7)) (pa_cons (pv 8) pa_nil)))) pa_nil)) pa_nil)))))) pss_nil)
        (pss_one (ps_expr (pe_meth0 (pv 2) T.cl mW GW hr bW .nil pass0))))))
      (pss_one (ps_ret (pe_ifExp (pt_cmpR op_lt (pe_ix (r := rIxT K) ix_tup (pv 3) pe_int (fun _ _ => rfl)) (pe_glob (v := .int 1000000) (by rfl) hmf ⟨_, rfl⟩) (nomark _)) (pv 3) pe_non)))))), ?_⟩
    have wd1 : ∀ k, k < ss.length → 1 ≤ wdt ss k := fun k hk => by
      rw [wdt_at (List.getElem?_eq_getElem hk)]
      exact (al.pr _ (List.getElem_mem hk)).w0
    have eb : betw (.int m) 1 60 = true := by
      rw [betw_int, decide_eq_true (by omega), decide_eq_true (by omega)]
      rfl
    refine ⟨.int m, rfl, .int m, 1, 60, rfl, kt_int _, _, rfl, ?_⟩
    rw [eb]
    refine iteF ?_
    refine ⟨fun σ' H' => ∃ p dx fs ct ls lr xs zs b r rl, σ' = [some (.ref o), some (.int m), some (.ref p), none, none, none, none, none, none] ∧ Same H H' ∧ H p = none ∧ PrS C H' p dx fs ss high 0 ct ls lr xs zs b r rl, ?_, ?_⟩
    · refine ⟨.ref o, rfl, fun p dx np ndx nxp => ?_⟩
      have s1 : Same H (upd (upd H dx (.own p)) p (.ins C dx [])) := fun b u e => by
        rw [upd_ne (ne_of_none e np), upd_ne (ne_of_none e ndx)]
        exact e
      have op : o ≠ p := by
        obtain ⟨dx', t, ys0, ho, _⟩ := al.al
        exact ne_of_none ho np
      exact ⟨p, dx, o, high, ss, rfl, upd_same, al.same s1, op, h9, fun fs ct ls lr xs zs b r rl H1 b1 S => ⟨rfl, p, dx, fs, ct, ls, lr, xs, zs, b, r, rl, rfl, fun b' o' e => b1 _ _ (s1 _ _ e) (ne_of_none e np), np, S⟩⟩
    rintro _ H1 ⟨p, dx, fs, ct, ls, lr, xs, zs, b, r, rl, rfl, s1, np, S⟩
    refine ⟨by show 0 ≤ sizeLine; decide, fun e0 he0 => ⟨by show 3 ≤ sizeLine; decide, fun t0 ht0 => ?_⟩⟩
    have s12 := (same_upd (o := .tup []) he0).trans (same_upd (o := .tup [V.int 1000000, V.int 0, V.ref e0]) ht0)
    have N0 : NeA K (upd (upd H1 e0 (.tup [])) t0 (.tup [V.int 1000000, V.int 0, V.ref e0])) t0 1000000 0 [] := ⟨e0, [], upd_same, SqT.of (same_upd ht0 _ _ upd_same), ⟨rfl, fun i x p h => nomatch h⟩⟩
    have S2 := S.same s12
    have sH2 := s1.trans s12
    generalize upd (upd H1 e0 (.tup [])) t0 (.tup [V.int 1000000, V.int 0, V.ref e0]) = H2 at s12 N0 S2 sH2
    have rng : ((m : Int) + 1 - 1).toNat = m := by omega
    refine ⟨.int m, rfl, _, 1, rfl, rfl, ?_⟩
    refine ⟨1, (m : Int) + 1, rfl, ⟨by omega, by omega, by omega, by omega⟩, ?_⟩
    rw [rng]
    refine for_range (lo := 1) (n := m) (fun i σ H3 => ∃ y4 y5 y6 fs lr zs nt num wd ws, σ = [some (.ref o), some (.int m), some (.ref p), some (.ref nt), y4, y5, y6, none, none] ∧ Same H H3 ∧ PrS C H3 p dx fs ss high i ct ls lr xs zs b r rl ∧ NeA K H3 nt num wd ws ∧ Nst ss i num wd ws) ⟨none, none, none, fs, lr, zs, t0, 1000000, 0, [], rfl, sH2, S2, N0, [], rfl, NX.start⟩ ?_ ?_
    · rintro i σ H3 hi ⟨y4, y5, y6, fs3, lr3, zs3, nt, num, wd, ws, rfl, s3, S3, N3, w0, ew0, X0⟩
      have ei : (1 + (i : Nat) : Int) = ((1 + i : Nat) : Int) := by omega
      refine ⟨.ref p, rfl, p, dx, fs3, rfl, S3.hp, S3.m1, p, dx, fs3, ss, high, i, ct, ls, lr3, xs, zs3, b, r, rl, rfl, S3, by omega, al.l1, al.l16, fun v pw H4 s4 U ⟨t, u, us, ev, ht, hu, W⟩ => ?_⟩
      subst ev
      refine ⟨t, _, rfl, SqT.of ht, rfl, _, _, rfl, _, _, rfl, rfl, ?_⟩
      have N4 := N3.same s4
      have S4 := S3.same s4
      have s04 := s3.trans s4
      refine ⟨fun σ' H' => ∃ nt' num' wd' ws', σ' = [some (.ref o), some (.int m), some (.ref p), some (.ref nt'), some (.int (1 + (i : Nat))), some (.int pw.1), some (.ref u), none, none] ∧ Same H4 H' ∧ NeA K H' nt' num' wd' ws' ∧ Nst ss (i + 1) num' wd' ws', ?_, ?_⟩
      · obtain ⟨un, zn, hn, hun, Pn⟩ := id N4
        refine ⟨.int pw.1, rfl, .ref nt, rfl, nt, _, 0, .int num, rfl, rfl, SqT.of hn, atI_nat (j := 0) rfl, _, _, rfl, rfl, _, rfl, ite2 (fun e => ?_) (fun e => ⟨nt, num, wd, ws, rfl, Same.refl _, N4, w0, ew0, X0.ge U (fun z => e (decide_eq_true (show (pw.1 : Int) < (num : Int) by omega)))⟩)⟩
        · have lt : pw.1 < num := by
            have := of_decide_eq_true e
            omega
          have X1 := X0.lt U lt
          have vl : ∀ q ∈ pw.2, q.1 ≤ i + 1 := by
            have hle := X0.le
            obtain ⟨c1, w2, c2, g, _⟩ := U.hit (by omega)
            exact g.le
          refine ⟨.int pw.1, rfl, .int (1 + (i : Nat)), rfl, .ref u, rfl, false, u, us, rfl, SqT.of hu, fun D hD => lc_sq (K := K) (b := false) (a := u) (xs := us) (fun j H5 => Same H4 H5 ∧ ∃ zs, H5 D = some (.lst zs) ∧ Plc K H5 zs (fromFront (i + 1) (pw.2.take j))) ⟨same_upd hD, [], upd_same, ⟨rfl, fun i x p h => nomatch h⟩⟩ (fun j H5 _ z => SqT.of (z.1 _ _ hu)) ?_ ?_⟩
          · rintro j y H5 hy ⟨sm, zs', hzs, P5⟩
            have hj : j < pw.2.length := by
              rw [← W.len]
              exact (List.getElem?_eq_some_iff.mp hy).1
            have eq : pw.2[j]? = some pw.2[j] := List.getElem?_eq_getElem hj
            have qm := vl _ (List.getElem_mem hj)
            generalize pw.2[j] = qq at eq qm
            obtain ⟨tq, rfl, htq⟩ := W.at_ j y qq hy eq
            have e5 : ((1 + (i : Nat) : Int) + -(qq.1 : Int)) = ((i + 1 - qq.1 : Nat) : Int) := by omega
            refine ⟨tq, _, rfl, SqT.of (sm _ _ htq), rfl, _, _, rfl, _, _, rfl, rfl, rfl, .int (1 + (i : Nat)), rfl, .int (-(qq.1 : Int)), rfl, _, _, rfl, rfl, .int qq.2, rfl, by show 2 ≤ sizeLine; decide, fun t6 ht6 => ⟨zs', ?_, ?_, ?_, zs' ++ [.ref t6], upd_same, ?_⟩⟩
            · exact same_upd ht6 _ _ hzs
            · rw [P5.len]
              unfold fromFront
              rw [List.length_map, List.length_take]
              exact smallT (by have := U.ln; omega)
            · exact same_over (sm.trans (same_upd ht6)) hD
            · rw [take_snoc eq]
              have := plc_one (r := i + 1 - qq.1) (c := qq.2) P5 hzs ht6
              rw [← e5] at this
              unfold fromFront at this ⊢
              rw [List.map_append]
              exact this
          · rintro H5 ⟨sm, zs', hzs, P5⟩
            rw [W.len, List.take_length] at P5
            refine ⟨D, _, rfl, .inl ⟨SqL.of hzs, fun u6 hu6 => ⟨by show 3 ≤ sizeLine; decide, fun t6 ht6 => ?_⟩⟩⟩
            have s6 := (same_upd (o := .tup zs') hu6).trans (same_upd (o := .tup [V.int pw.1, V.int (1 + (i : Nat)), V.ref u6]) ht6)
            refine ⟨t6, pw.1, i + 1, fromFront (i + 1) pw.2, rfl, sm.trans s6, ⟨u6, zs', ?_, SqT.of (same_upd ht6 _ _ upd_same), P5.same s6⟩, pw.2, rfl, X1⟩
            rw [upd_same, ei, Nat.add_comm 1 i]
      rintro _ H5 ⟨nt', num', wd', ws', rfl, s5, N5, st5⟩
      have S5 := S4.same s5
      refine ⟨.ref p, rfl, p, dx, fs3, rfl, S5.hp, S5.m2, p, dx, fs3, ss, high, i, ct, ls, lr3, xs, zs3, b, r, rl, rfl, S5, by omega, al.l1, al.l16, fun fs' lr' zs' H6 b6 S6 => ?_⟩
      obtain ⟨un, zn, hn, hun, Pn⟩ := id N5
      have npH : ∀ (a : Addr) (us : List V), H5 a = some (.tup us) → H6 a = some (.tup us) := fun a us e => b6 _ _ e (fun z => by rw [z, S5.hp] at e; cases e)
      have tk : Tk H5 H6 := fun a zs => ⟨fun e => b6 _ _ e (ne_ins S5.hp e fun _ _ _ z => by cases z), fun od e => b6 _ _ e (ne_ins S5.hp e fun _ _ _ z => by cases z)⟩
      have N6 : NeA K H6 nt' num' wd' ws' := ⟨un, zn, npH _ _ hn, tk.sq hun, tk.plc Pn⟩
      exact ⟨_, _, _, fs', lr', zs', nt', num', wd', ws', rfl, fun b' o' e => b6 _ _ (s5 _ _ (s04 _ _ e)) (ne_of_none e np), S6, N6, st5⟩
    · rintro σ H3 ⟨y4, y5, y6, fs3, lr3, zs3, nt, num, wd, ws, rfl, s3, S3, N3, st⟩
      obtain ⟨un, zn, hn, hun, Pn⟩ := id N3
      refine ⟨.ref nt, rfl, nt, _, 0, .int num, rfl, rfl, SqT.of hn, atI_nat (j := 0) rfl, (num : Int), 1000000, rfl, rfl, decide ((num : Int) < 1000000), rfl, ?_⟩
      generalize hb : decide ((num : Int) < 1000000) = bb
      cases bb with
      | true =>
        obtain ⟨w0, rfl, X0⟩ := st
        exact iteT ⟨.ref nt, rfl, q nt num wd _ H3 s3 N3 (X0.near al.pr wd1 (far_lt hb))⟩
      | false =>
        obtain ⟨w0, rfl, X0⟩ := st
        exact iteF (qn H3 s3 (X0.none al.pr wd1 (fun z => by rw [far_of z] at hb; cases hb) h9 m60))
end
end Dt
namespace Dt
open PySem PySem.Spec PyProof.Rows L2 L2X
open SX (S)
/-! ### partings -/
theorem two_le {α : Type} {l : List α} {a b : α} (ha : a ∈ l) (hb : b ∈ l) (ne : a ≠ b) : 2 ≤ l.length := by
  match l, ha, hb with
  | [], ha, _ => exact nomatch ha
  | [x], ha, hb =>
    rw [List.mem_singleton.mp ha, List.mem_singleton.mp hb] at ne
    exact absurd rfl ne
  | _ :: _ :: _, _, _ =>
    show 2 ≤ _ + 1 + 1
    omega
/-- number, width, the first reading of the nearest pairs, the first of those so near to it -/
structure Part (ss : List Sh) (high m num wd : Nat) (v u : List (Nat × Nat)) : Prop where
  nr : Near ss high m num wd v
  fw : Fw ss wd 0 u
  lt : psLt v u = true
  ds : dsR ss high wd v u = num
  lo : ∀ x, Fw ss wd 0 x → x ≠ v → dsR ss high wd v x = num → psLt x u = false
theorem second {ss : List Sh} {high m num wd : Nat} {v : List (Nat × Nat)} (pr : ∀ s ∈ ss, PicR high s.w s.rs) (h1 : ∀ k, k < ss.length → 1 ≤ wdt ss k) (h0 : 1 ≤ high) (h6 : high ≤ 60) (w6 : wd ≤ 60) (nr : Near ss high m num wd v) {S : List Wy} (sd : Sd S) (pe : S.Perm (allW ss (drawR ss high wd v) wd)) : ∃ b, S[1]? = some b ∧ Part ss high m num wd v b.2 := by
  have w1 := nr.w1
  have pl := draw_pic pr nr.fw.way h0 h6 w1 (by omega : wd ≤ 120)
  have m0 : ∀ w, w ∈ (tabY ss wd wd).getD 0 [] ↔ Fw ss wd 0 w := tabY_mem h1 wd 0 (Nat.zero_add _)
  have co : ∀ w, Fw ss wd 0 w → (whiteN (drawR ss high wd v) : Int) + cW ss (drawR ss high wd v) w = (dsR ss high wd v w : Int) := fun w hw => by
    rw [← cost_way pr pl hw]
    exact dsR_mis pr h0 h6 w1 (by omega) nr.fw hw
  have mem : ∀ w, Fw ss wd 0 w → ((dsR ss high wd v w : Int), w) ∈ S := fun w hw => by
    refine pe.mem_iff.mpr ?_
    unfold allW
    rw [← co w hw]
    exact List.mem_map_of_mem (f := fun w => ((whiteN (drawR ss high wd v) : Int) + cW ss (drawR ss high wd v) w, w)) ((m0 w).mpr hw)
  have of : ∀ y, y ∈ S → Fw ss wd 0 y.2 ∧ y = ((dsR ss high wd v y.2 : Int), y.2) := fun y hy => by
    have := pe.mem_iff.mp hy
    unfold allW at this
    obtain ⟨w, hw, rfl⟩ := List.mem_map.mp this
    have fw := (m0 w).mp hw
    exact ⟨fw, by rw [co w fw]⟩
  have nd : S.Nodup := by
    refine pe.nodup_iff.mpr ?_
    unfold allW
    exact nodup_inj (fun a b z => (Prod.mk.inj z).2) (tabY_nd h1 wd 0 (Nat.zero_add _))
  obtain ⟨x0, fx0, nx0, dx0⟩ := nr.ex
  have mv := mem v nr.fw
  have mx := mem x0 fx0
  have l2 := two_le mv mx (fun z => nx0 (Prod.mk.inj z).2.symm)
  match S, l2 with
  | a :: b :: R, _ =>
    obtain ⟨p1, p2⟩ := List.pairwise_cons.mp sd
    obtain ⟨p3, p4⟩ := List.pairwise_cons.mp p2
    obtain ⟨n1, n2⟩ := List.nodup_cons.mp nd
    obtain ⟨fa, ea⟩ := of a List.mem_cons_self
    obtain ⟨fb, eb⟩ := of b (List.mem_cons_of_mem _ List.mem_cons_self)
    rw [dsR_self] at mv
    have ea2 : a.2 = v := by
      by_cases e : a.2 = v
      · exact e
      · have l1 : wLt (((0 : Nat) : Int), v) a = false := by
          rcases List.mem_cons.mp mv with z | z
          · rw [z]
            exact wLt_irr _
          · exact p1 _ z
        have l3 : wLt a (((0 : Nat) : Int), v) = false := by
          rw [ea]
          unfold wLt
          by_cases z : ((dsR ss high wd v a.2 : Int), a.2).1 = (((0 : Nat) : Int), v).1
          · rw [if_pos z]
            have z' : (dsR ss high wd v a.2 : Int) = ((0 : Nat) : Int) := z
            obtain ⟨c1, c2⟩ := nr.lo wd nr.w2 a.2 v fa nr.fw e
            rw [dsR_comm] at c1 c2
            exact (c2 (by omega)).2 rfl
          · rw [if_neg z]
            refine decide_eq_false ?_
            show ¬ (dsR ss high wd v a.2 : Int) < ((0 : Nat) : Int)
            omega
        have := wLt_tri l3 l1
        rw [this] at e
        exact absurd rfl e
    have nb : b.2 ≠ v := fun z => n1 (by
      have : a = b := by rw [ea, eb, ea2, z]
      rw [this]
      exact List.mem_cons_self)
    have lb : ∀ x, Fw ss wd 0 x → x ≠ v → wLt ((dsR ss high wd v x : Int), x) b = false := fun x fx nx => by
      rcases List.mem_cons.mp (mem x fx) with z | z
      · exact absurd (by rw [← ea2, ← z]) nx
      · rcases List.mem_cons.mp z with z | z
        · rw [z]
          exact wLt_irr _
        · exact p3 _ z
    have db : dsR ss high wd v b.2 = num := by
      have c1 := (nr.lo wd nr.w2 v b.2 nr.fw fb (fun z => nb z.symm)).1
      have c2 := lb x0 fx0 nx0
      rw [eb, dx0] at c2
      unfold wLt at c2
      by_cases z : ((num : Int), x0).1 = ((dsR ss high wd v b.2 : Int), b.2).1
      · have z' : (num : Int) = (dsR ss high wd v b.2 : Int) := z
        omega
      · rw [if_neg z] at c2
        have c3 := of_decide_eq_false c2
        have c3' : ¬ (num : Int) < (dsR ss high wd v b.2 : Int) := c3
        omega
    refine ⟨b, rfl, nr, fb, ?_, db, fun x fx nx dx => ?_⟩
    · have c := (nr.lo wd nr.w2 b.2 v fb nr.fw nb).2 (by rw [dsR_comm]; exact db)
      have c2 := c.2 rfl
      by_cases z : psLt v b.2 = true
      · exact z
      · exact absurd (psLt_tri _ _ c2 (by simpa using z)) nb
    · have c := lb x fx nx
      rw [eb, dx, db] at c
      unfold wLt at c
      rw [if_pos rfl] at c
      exact c
/-- .. as it is told -/
def PtA (K : PySem.W.Frag) (H : Hp) (t : Addr) (num wd : Nat) (v u : List (Nat × Nat)) : Prop := ∃ p1 z1 p2 z2, H t = some (.tup [.int num, .int wd, .ref p1, .ref p2]) ∧ SqT K H p1 z1 ∧ Plc K H z1 v ∧ SqT K H p2 z2 ∧ Plc K H z2 u
theorem PtA.same {K : PySem.W.Frag} {H H' : Hp} {t : Addr} {num wd : Nat} {v u : List (Nat × Nat)} (h : PtA K H t num wd v u) (s : Same H H') : PtA K H' t num wd v u :=
  let ⟨p1, z1, p2, z2, a, b, c, d, e⟩ := h; ⟨p1, z1, p2, z2, s _ _ a, sameT s b, c.same s, sameT s d, e.same s⟩
abbrev sPt : Stmt := topS 57
abbrev nPt : List Str := ["alphabet", "most", "nearest", "number", "wide", "one", "other"]
theorem scPt : FnScope nPt ["alphabet", "most"] (defScope sPt) := ⟨rfl, rfl, rfl, by decide +kernel, rfl, by decide +kernel, by decide +kernel⟩
def spPt (K : PySem.W.Frag) (CA : Addr) : Sp := fun vs H Q _ => ∃ (o : Addr) (m high : Nat) (ss : List Sh), vs = [.ref o, .int m] ∧ AlpG CA H o high ss ∧ high ≤ 9 ∧ 1 ≤ m ∧ m ≤ 60 ∧
  (∀ H', Same H H' → Alone ss m → Q .non H') ∧ ∀ (t : Addr) (num wd : Nat) (v u : List (Nat × Nat)) (H' : Hp), Same H H' → H t = none → PtA K H' t num wd v u → Part ss high m num wd v u → Q (.ref t) H'
section
variable {P : Program} {w : World} {K : PySem.W.Frag} {mg : Str → Option Value} {base : Heap} {CA : Addr}
theorem ok_pt {f : Addr} {fd : FuncData} {k : Nat} (F : Fun K "parting" "parting" sPt f fd) (GN : Pm P w K mg base CX0 (k + 1) "_nearest" ["alphabet", "most"] (spNe K CA)) (GD : Pm P w K mg base CX0 (k + 1) "drawn" ["alphabet", "wide", "reading"] (spDrr K CA)) (GX : Pm P w K mg base CX0 (k + 1) "next_ones" ["alphabet", "line", "k"] (spNo1 K CA)) :
    FnOk P w K mg base CX0 (k + 2) f fd ["alphabet", "most"] (spPt K CA) := by
  obtain ⟨fN, fdN, GN, mN, kN, bN⟩ := GN.ex
  obtain ⟨fD, fdD, GD, mD, kD, bD⟩ := GD.ex
  obtain ⟨fX, fdX, GX, mX, kX, bX⟩ := GX.ex
  refine F.ok scPt (fun vs H Q E h => ?_) (fun cdv A outer s H vs Q E hr h => ?_)
  · obtain ⟨_, _, _, _, rfl, _⟩ := h
    rfl
  · obtain ⟨o, m, high, ss, rfl, al, h9, m1, m60, qn, q⟩ := h
    have nd := scPt.nd
    refine ⟨_, C8.pss_cut (ps_set (i := 2) nd rfl (.inl rfl) (pe_call GN hr (by rfl) mN kN bN .nil pass0 (pa_cons (pv 0) (pa_cons (pv 1) pa_nil))))
      (pss_cons (ps_if (pt_cmp (pc_isN (pv 2))) (pss_one (ps_ret pe_non)) pss_nil)
      (pss_cons (ps_asg (pv 2) (pg_tup rfl (pgs_cons (pg_name (i := 3) nd rfl (Or.inl rfl)) (pgs_cons (pg_name (i := 4) nd rfl (Or.inl rfl)) (pgs_cons (pg_name (i := 5) nd rfl (Or.inl rfl)) pgs_nil)))))
      (pss_cons (ps_set (i := 6) nd rfl (.inl rfl) (pe_ix (r := rIxT K) ix_tup (pe_ix (r := rIxL K) ix_list (pe_call GX hr (by rfl) mX kX bX .nil pass0 (pa_cons (pv 0) (pa_cons (pe_call GD hr (by rfl) mD kD bD .nil pass0 (pa_cons (pv 0) (pa_cons (pv 4) (pa_cons (pv 5) pa_nil)))) (pa_cons pe_int pa_nil)))) pe_int (fun _ _ => rfl)) pe_int (fun _ _ => rfl)))
      (pss_one (ps_ret (pe_tup (pa_cons (pv 3) (pa_cons (pv 4) (pa_cons (pv 5) (pa_cons (pv 6) pa_nil)))))))))), ?_⟩
    refine ⟨fun σ' H' => ∃ y : V, σ' = [some (.ref o), some (.int m), some y, none, none, none, none] ∧ Same H H' ∧ ((y = .non ∧ Alone ss m) ∨ ∃ t num wd ws, y = .ref t ∧ NeA K H' t num wd ws ∧ Near ss high m num wd ws), ?_, ?_⟩
    · exact ⟨.ref o, rfl, .int m, rfl, o, m, high, ss, rfl, al, h9, m1, m60, fun H' s z => ⟨.non, rfl, s, .inl ⟨rfl, z⟩⟩, fun t num wd ws H' s N z => ⟨.ref t, rfl, s, .inr ⟨t, num, wd, ws, rfl, N, z⟩⟩⟩
    rintro _ H1 ⟨y, rfl, s1, ⟨rfl, z⟩ | ⟨t, num, wd, ws, rfl, ⟨un, zn, hn, hun, Pn⟩, nr⟩⟩
    · exact ⟨.non, rfl, _, rfl, iteT (qn _ s1 z)⟩
    · have al1 := al.same s1
      have wd1 : ∀ k, k < ss.length → 1 ≤ wdt ss k := fun k hk => by
        rw [wdt_at (List.getElem?_eq_getElem hk)]
        exact (al.pr _ (List.getElem_mem hk)).w0
      have hi : 1 ≤ high ∧ high ≤ 60 := by
        have := al.pr _ (List.getElem_mem al.l1)
        exact ⟨this.h0, this.h1⟩
      have w1 := nr.w1
      have w2 := nr.w2
      have wk := nr.fw.way
      refine ⟨.ref t, rfl, _, rfl, iteF ⟨.ref t, rfl, t, _, rfl, SqT.of hn, rfl, _, _, rfl, _, _, rfl, _, _, rfl, rfl, ?_⟩⟩
      refine ⟨.ref o, rfl, .ref o, rfl, .int wd, rfl, .ref un, rfl, o, un, high, wd, ss, ws, rfl, al1, w1, by omega, ⟨⟨zn, hun, Pn⟩, wk⟩, fun p H2 s2 np hp => ?_⟩
      have ln : LnAt CA H2 o p high wd ss (drawR ss high wd ws) := ⟨al1.same s2, hp, draw_pic al.pr wk hi.1 hi.2 w1 (by omega), h9, by omega, wd1⟩
      refine ⟨o, p, high, wd, 2, ss, _, rfl, ln, by decide, by decide, fun l xs G H3 s3 nl hl Wy hG => ?_⟩
      obtain ⟨es, _, pe, sd⟩ := srt_all (xs := (allW ss (drawR ss high wd ws) wd).map fun _ => V.non) (L := allW ss (drawR ss high wd ws) wd) (by rw [List.length_map])
      have pe2 : (es.map Prod.snd).Perm (allW ss (drawR ss high wd ws) wd) := by
        have := pe.map Prod.snd
        rw [zip_snd (by rw [List.length_map])] at this
        exact this
      obtain ⟨b, hb, PP⟩ := second al.pr wd1 hi.1 hi.2 (by omega) nr sd pe2
      have eG : G[1]? = some b := by
        rw [hG _ sd pe2, List.getElem?_take, if_pos (by decide)]
        exact hb
      have lG := (List.getElem?_eq_some_iff.mp eG).1
      have lxs := Wy.len
      have e1 : xs[1]? = some (xs[1]'(by omega)) := List.getElem?_eq_getElem _
      obtain ⟨t1, q1, z1, ex, h1, h2, h3⟩ := Wy.at_ 1 _ _ e1 eG
      rw [ex] at e1
      refine ⟨l, xs, 1, .ref t1, rfl, rfl, SqL.of hl, atI_nat (j := 1) e1, t1, _, 1, .ref q1, rfl, rfl, h1, atI_nat (j := 1) rfl, ?_⟩
      have s13 := s2.trans s3
      refine ⟨.int num, rfl, .int wd, rfl, .ref un, rfl, .ref q1, rfl, by show 4 ≤ sizeLine; decide, fun r hr' => ?_⟩
      have s4 := same_upd (o := .tup [V.int num, V.int wd, V.ref un, V.ref q1]) hr'
      exact q r num wd ws b.2 _ ((s1.trans s13).trans s4) ((s1.trans s13).free hr') ⟨un, zn, q1, z1, upd_same, sameT (s13.trans s4) hun, Pn.same (s13.trans s4), sameT s4 h2, h3.same s4⟩ PP
end
end Dt
namespace Dt
open PySem PySem.Spec PyProof.Rows L2 L2X
open SX (S)
/-! ### the same ways, put otherwise (pure) -/
def flipS (s : Sh) : Sh := ⟨s.sg, s.w, s.rs.reverse⟩
def whtS (s : Sh) : Sh := ⟨s.sg, s.w, s.rs ++ [List.replicate s.w 46]⟩
def mirR (rs : List (List Nat)) : List (List Nat) := rs.map List.reverse
def mirS (s : Sh) : Sh := ⟨s.sg, s.w, mirR s.rs⟩
theorem wdt_map {f : Sh → Sh} (hf : ∀ s, (f s).w = s.w) (ss : List Sh) (k : Nat) : wdt (ss.map f) k = wdt ss k := by
  unfold wdt
  rw [List.getElem?_map]
  cases ss[k]? with
  | none => rfl
  | some s => exact hf s
theorem fitN_like {ss ss' : List Sh} (e : ∀ k, wdt ss' k = wdt ss k) (wide c n : Nat) : fitN ss' wide c n = fitN ss wide c n := by
  unfold fitN
  congr 1
  funext k
  rw [e]
theorem tabY_like {ss ss' : List Sh} (hl : ss'.length = ss.length) (e : ∀ k, wdt ss' k = wdt ss k) (wide : Nat) : ∀ n, tabY ss' wide n = tabY ss wide n
  | 0 => rfl
  | n + 1 => by
    show stepY ss' wide _ (tabY ss' wide n) :: tabY ss' wide n = stepY ss wide _ (tabY ss wide n) :: tabY ss wide n
    rw [tabY_like hl e wide n]
    congr 1
    unfold stepY
    rw [hl, fitN_like e]
    congr 2
    apply List.map_congr_left
    intro k _
    rw [e]
theorem cW_like {ss ss' : List Sh} {rs rs' : List (List Nat)} {wide : Nat} (m : ∀ k c, k < ss.length → c + wdt ss k ≤ wide → moreZ ss' rs' c k = moreZ ss rs c k) : ∀ {e : Nat} {w : List (Nat × Nat)}, Fw ss wide e w → cW ss' rs' w = cW ss rs w
  | _, [], _ => rfl
  | _, p :: w, ⟨_, b, c, d⟩ => by
    rw [cW_cons, cW_cons, cW_like m d, m p.2 p.1 b c]
theorem allW_like {ss ss' : List Sh} {rs rs' : List (List Nat)} {wide : Nat} (h1 : ∀ k, k < ss.length → 1 ≤ wdt ss k) (hl : ss'.length = ss.length) (e : ∀ k, wdt ss' k = wdt ss k) (m : ∀ k c, k < ss.length → c + wdt ss k ≤ wide → moreZ ss' rs' c k = moreZ ss rs c k) (wh : whiteN rs' = whiteN rs) : allW ss' rs' wide = allW ss rs wide := by
  unfold allW
  rw [tabY_like hl e, wh]
  apply List.map_congr_left
  intro w hw
  rw [cW_like m ((tabY_mem h1 wide 0 (by omega) w).mp hw)]
/-! rows the other way about -/
theorem filt_rev {α : Type} (p : α → Bool) (l : List α) : (l.reverse.filter p).length = (l.filter p).length := by
  rw [List.filter_reverse, List.length_reverse]
theorem zip_rev {α β : Type} : ∀ {a : List α} {b : List β}, a.length = b.length → a.reverse.zip b.reverse = (a.zip b).reverse
  | [], [], _ => rfl
  | x :: a, y :: b, h => by
    have h : a.length = b.length := Nat.succ.inj h
    rw [List.reverse_cons, List.reverse_cons, List.zip_append (by rw [List.length_reverse, List.length_reverse, h]), zip_rev h]
    show _ = ((x, y) :: a.zip b).reverse
    rw [List.reverse_cons]
    rfl
theorem misZ_rev {a b : List Nat} (h : a.length = b.length) : misZ a.reverse b.reverse = misZ a b := by
  unfold misZ
  rw [zip_rev h, filt_rev]
theorem cnt_rev (a : List Nat) : cnt35 a.reverse = cnt35 a := filt_rev _ _
theorem colAt_rev (rs : List (List Nat)) (j : Nat) : colAt rs.reverse j = (colAt rs j).reverse := by
  unfold colAt
  rw [List.map_reverse]
theorem whiteN_rev (rs : List (List Nat)) : whiteN rs.reverse = whiteN rs := by
  unfold whiteN
  rw [List.map_reverse, List.sum_reverse_nat]
theorem wgt_map {f : Sh → Sh} {ss : List Sh} {rs rs' : List (List Nat)} {c k j : Nat} (h : ∀ s, ss[k]? = some s → (misZ (colAt (f s).rs j) (colAt rs' (c + j)) : Int) - (cnt35 (colAt rs' (c + j)) : Int) = (misZ (colAt s.rs j) (colAt rs (c + j)) : Int) - (cnt35 (colAt rs (c + j)) : Int)) : wgt (ss.map f) rs' c k j = wgt ss rs c k j := by
  unfold wgt
  rw [List.getElem?_map]
  cases e : ss[k]? with
  | none => rfl
  | some s => exact h s e
theorem allW_flip {ss : List Sh} {rs : List (List Nat)} {high wide : Nat} (h1 : ∀ k, k < ss.length → 1 ≤ wdt ss k) (pr : ∀ s ∈ ss, PicR high s.w s.rs) (pl : PicR high wide rs) : allW (ss.map flipS) rs.reverse wide = allW ss rs wide := by
  refine allW_like h1 (List.length_map _) (wdt_map (f := flipS) (fun _ => rfl) ss) (fun k c hk _ => ?_) (whiteN_rev rs)
  unfold moreZ
  rw [wdt_map (f := flipS) (fun _ => rfl)]
  congr 1
  apply List.map_congr_left
  intro j _
  refine wgt_map fun s hs => ?_
  show (misZ (colAt s.rs.reverse j) (colAt rs.reverse (c + j)) : Int) - (cnt35 (colAt rs.reverse (c + j)) : Int) = _
  rw [colAt_rev, colAt_rev, misZ_rev (by rw [colAt_len (pr s (List.mem_of_getElem? hs)), colAt_len pl]), cnt_rev]
/-! a row of white more -/
theorem misZ_app {a b : List Nat} (h : a.length = b.length) (x : Nat) : misZ (a ++ [x]) (b ++ [x]) = misZ a b := by
  unfold misZ
  rw [List.zip_append h, List.filter_append]
  simp
theorem cnt_46 (n : Nat) : cnt35 (List.replicate n 46) = 0 := by
  unfold cnt35
  rw [List.filter_eq_nil_iff.mpr (fun x hx => by rw [List.eq_of_mem_replicate hx]; decide)]
  rfl
theorem cnt_app (a : List Nat) : cnt35 (a ++ [46]) = cnt35 a := by
  rw [cnt_snoc, if_neg (by decide)]
  rfl
theorem colAt_wht (rs : List (List Nat)) {w j : Nat} (h : j < w) : colAt (rs ++ [List.replicate w 46]) j = colAt rs j ++ [46] := by
  unfold colAt
  rw [List.map_append, List.map_cons, List.map_nil, List.getD_eq_getElem?_getD, List.getElem?_replicate, if_pos h]
  rfl
theorem allW_wht {ss : List Sh} {rs : List (List Nat)} {high wide : Nat} (h1 : ∀ k, k < ss.length → 1 ≤ wdt ss k) (pr : ∀ s ∈ ss, PicR high s.w s.rs) (pl : PicR high wide rs) : allW (ss.map whtS) (rs ++ [List.replicate wide 46]) wide = allW ss rs wide := by
  refine allW_like h1 (List.length_map _) (wdt_map (f := whtS) (fun _ => rfl) ss) (fun k c hk hw => ?_) ?_
  · unfold moreZ
    rw [wdt_map (f := whtS) (fun _ => rfl)]
    congr 1
    apply List.map_congr_left
    intro j hj
    have hj := List.mem_range.mp hj
    refine wgt_map fun s hs => ?_
    rw [wdt_at hs] at hj hw
    show (misZ (colAt (s.rs ++ [List.replicate s.w 46]) j) (colAt (rs ++ [List.replicate wide 46]) (c + j)) : Int) - (cnt35 (colAt (rs ++ [List.replicate wide 46]) (c + j)) : Int) = _
    rw [colAt_wht _ hj, colAt_wht _ (by omega), misZ_app (by rw [colAt_len (pr s (List.mem_of_getElem? hs)), colAt_len pl]), cnt_app]
  · unfold whiteN
    rw [List.map_append, List.sum_append, List.map_cons, List.map_nil, cnt_46]
    simp
/-! ### what the first so many cost -/
def csts (L : List Wy) : List Int := L.map Prod.fst
theorem wLt_le {a b : Wy} (h : wLt b a = false) : a.1 ≤ b.1 := by
  unfold wLt at h
  by_cases c : b.1 = a.1
  · omega
  · rw [if_neg c] at h
    have := of_decide_eq_false h
    omega
theorem csts_eq {S S' : List Wy} (hS : Sd S) (hS' : Sd S') (p : (csts S).Perm (csts S')) : csts S = csts S' := by
  have up : ∀ {T : List Wy}, Sd T → (csts T).Pairwise (· ≤ ·) := fun {T} h => by
    unfold csts
    rw [List.pairwise_map]
    exact List.Pairwise.imp (fun {a b} e => wLt_le e) h
  exact List.Perm.eq_of_pairwise (fun a b _ _ x y => Int.le_antisymm x y) (up hS) (up hS') p
/-! the shapes in another order -/
def mS (s : Sh) (rs : List (List Nat)) (c : Nat) : Int := moreZ [s] rs c 0
theorem moreZ_at {ss : List Sh} {k : Nat} {s : Sh} (h : ss[k]? = some s) (rs : List (List Nat)) (c : Nat) : moreZ ss rs c k = mS s rs c := by
  unfold mS moreZ
  rw [wdt_at h, show wdt [s] 0 = s.w from rfl]
  congr 1
  apply List.map_congr_left
  intro j _
  unfold wgt
  rw [h]
  rfl
theorem idx_map {α β : Type} (d : α) (q : α → Bool) (g : α → β) (l : List α) : ((List.range l.length).filter fun k => q (l.getD k d)).map (fun k => g (l.getD k d)) = (l.filter q).map g := by
  have e : l = (List.range l.length).map fun k => l.getD k d := by
    apply List.ext_getElem?
    intro i
    rw [List.getElem?_map]
    by_cases h : i < l.length
    · rw [List.getElem?_range h, List.getElem?_eq_getElem h, Option.map_some, List.getD_eq_getElem?_getD, List.getElem?_eq_getElem h]
      rfl
    · rw [List.getElem?_eq_none (by omega), List.getElem?_eq_none (by rw [List.length_range]; omega)]
      rfl
  conv => rhs; rw [e, List.filter_map, List.map_map]
  rfl
def cstA (ss : List Sh) (rs : List (List Nat)) (wide c : Nat) : List Int := ((tabY ss wide wide).getD c []).map (cW ss rs)
theorem cstA_step {ss : List Sh} {rs : List (List Nat)} {wide c : Nat} (h1 : ∀ k, k < ss.length → 1 ≤ wdt ss k) (hc : c < wide) : cstA ss rs wide c = cstA ss rs wide (c + 1) ++ ((ss.filter fun s => decide (c + s.w ≤ wide)).map fun s => (cstA ss rs wide (c + s.w)).map (mS s rs c + ·)).flatten := by
  unfold cstA
  rw [tabY_step h1 hc, List.map_append, List.map_flatten, List.map_map]
  congr 2
  rw [← idx_map (⟨0, 0, []⟩ : Sh)]
  have ge : ∀ k, k < ss.length → ss[k]? = some (ss.getD k ⟨0, 0, []⟩) := fun k hk => by
    rw [List.getD_eq_getElem?_getD, List.getElem?_eq_getElem hk]
    rfl
  have ef : fitN ss wide c ss.length = (List.range ss.length).filter fun k => decide (c + (ss.getD k ⟨0, 0, []⟩).w ≤ wide) := by
    unfold fitN
    apply List.filter_congr
    intro k hk
    rw [wdt_at (ge k (List.mem_range.mp hk))]
  rw [ef]
  apply List.map_congr_left
  intro k hk
  have hk := List.mem_range.mp (List.mem_filter.mp hk).1
  show (((tabY ss wide wide).getD (c + wdt ss k) []).map ((c, k) :: ·)).map (cW ss rs) = _
  rw [wdt_at (ge k hk), List.map_map, List.map_map]
  apply List.map_congr_left
  intro v _
  show cW ss rs ((c, k) :: v) = mS _ rs c + cW ss rs v
  rw [cW_cons, moreZ_at (ge k hk)]
theorem perm_flat {α β : Type} {f g : α → List β} : ∀ {l : List α}, (∀ x ∈ l, (f x).Perm (g x)) → ((l.map f).flatten).Perm ((l.map g).flatten)
  | [], _ => List.Perm.refl _
  | x :: l, h => by
    rw [List.map_cons, List.map_cons, List.flatten_cons, List.flatten_cons]
    exact (h x List.mem_cons_self).append (perm_flat fun y hy => h y (List.mem_cons_of_mem _ hy))
theorem cstA_perm {ss ss' : List Sh} {rs : List (List Nat)} {wide : Nat} (w1 : ∀ s ∈ ss, 1 ≤ s.w) (p : ss'.Perm ss) : ∀ n c, c + n = wide → (cstA ss' rs wide c).Perm (cstA ss rs wide c)
  | 0, c, hn => by
    obtain rfl : c = wide := by omega
    unfold cstA
    rw [tabY_end, tabY_end]
    exact List.Perm.refl _
  | n + 1, c, hn => by
    have toW : ∀ {tt : List Sh}, (∀ s ∈ tt, 1 ≤ s.w) → ∀ k, k < tt.length → 1 ≤ wdt tt k := fun {tt} h k hk => by
      rw [wdt_at (List.getElem?_eq_getElem hk)]
      exact h _ (List.getElem_mem hk)
    have w1' : ∀ s ∈ ss', 1 ≤ s.w := fun s hs => w1 s (p.mem_iff.mp hs)
    rw [cstA_step (toW w1') (by omega), cstA_step (toW w1) (by omega)]
    refine (cstA_perm w1 p n (c + 1) (by omega)).append ?_
    have pf := p.filter fun s => decide (c + s.w ≤ wide)
    refine ((pf.map fun s => (cstA ss' rs wide (c + s.w)).map (mS s rs c + ·)).flatten).trans (perm_flat fun s hs => ?_)
    obtain ⟨m, hf⟩ := List.mem_filter.mp hs
    have hf := of_decide_eq_true hf
    have := w1 s m
    exact (cstA_perm w1 p (n + 1 - s.w) (c + s.w) (by omega)).map _
termination_by n => n
decreasing_by
  all_goals simp_wf
  all_goals first | omega | (have := w1 s m; omega)
theorem csts_all (ss : List Sh) (rs : List (List Nat)) (wide : Nat) : csts (allW ss rs wide) = (cstA ss rs wide 0).map ((whiteN rs : Int) + ·) := by
  unfold csts allW cstA
  rw [List.map_map, List.map_map]
  rfl
theorem csts_order {ss ss' : List Sh} {rs : List (List Nat)} {wide : Nat} (w1 : ∀ s ∈ ss, 1 ≤ s.w) (p : ss'.Perm ss) : (csts (allW ss' rs wide)).Perm (csts (allW ss rs wide)) := by
  rw [csts_all, csts_all]
  exact (cstA_perm w1 p wide 0 (by omega)).map _
end Dt
namespace Dt
open PySem PySem.Spec PyProof.Rows L2 L2X
open SX (S)
/-! ### from behind (pure) -/
def mirP (ss : List Sh) (wide : Nat) (p : Nat × Nat) : Nat × Nat := (wide - p.1 - wdt ss p.2, p.2)
def mirW (ss : List Sh) (wide : Nat) (w : List (Nat × Nat)) : List (Nat × Nat) := (w.map (mirP ss wide)).reverse
theorem Fw.wider {ss : List Sh} {f g : Nat} (h : f ≤ g) : ∀ {e : Nat} {w : List (Nat × Nat)}, Fw ss f e w → Fw ss g e w
  | _, [], _ => trivial
  | _, _ :: _, ⟨a, b, c, d⟩ => ⟨a, b, Nat.le_trans c h, d.wider h⟩
theorem Fw.snoc {ss : List Sh} {f g : Nat} {p : Nat × Nat} (k : p.2 < ss.length) (h1 : f ≤ p.1) (h2 : p.1 + wdt ss p.2 ≤ g) : ∀ {e : Nat} {w : List (Nat × Nat)}, e ≤ f → Fw ss f e w → Fw ss g e (w ++ [p])
  | _, [], he, _ => ⟨Nat.le_trans he h1, k, h2, trivial⟩
  | _, _ :: _, he, ⟨a, b, c, d⟩ => ⟨a, b, by omega, Fw.snoc k h1 h2 c d⟩
theorem Fw.mir {ss : List Sh} {W f : Nat} (hf : f ≤ W) : ∀ {e : Nat} {w : List (Nat × Nat)}, e ≤ f → Fw ss f e w → Fw ss (W - e) (W - f) (mirW ss W w)
  | e, [], _, _ => trivial
  | e, p :: w, he, ⟨a, b, c, d⟩ => by
    have ih := Fw.mir hf c d
    unfold mirW
    rw [List.map_cons, List.reverse_cons]
    refine Fw.snoc (p := mirP ss W p) b ?_ ?_ (by omega) ih
    · show W - (p.1 + wdt ss p.2) ≤ W - p.1 - wdt ss p.2
      omega
    · show W - p.1 - wdt ss p.2 + wdt ss p.2 ≤ W - e
      omega
theorem mir_mir {ss : List Sh} {W f : Nat} (hf : f ≤ W) : ∀ {e : Nat} {w : List (Nat × Nat)}, Fw ss f e w → mirW ss W (mirW ss W w) = w := by
  intro e w h
  unfold mirW
  rw [List.map_reverse, List.reverse_reverse, List.map_map]
  have : ∀ {e : Nat} {w : List (Nat × Nat)}, Fw ss f e w → w.map (mirP ss W ∘ mirP ss W) = w := by
    intro e w
    induction w generalizing e with
    | nil => intro _; rfl
    | cons p w ih =>
      rintro ⟨a, b, c, d⟩
      rw [List.map_cons, ih d]
      congr 1
      show (W - (W - p.1 - wdt ss p.2) - wdt ss p.2, p.2) = p
      rw [show W - (W - p.1 - wdt ss p.2) - wdt ss p.2 = p.1 by omega]
  exact this h
theorem cW_rev (ss : List Sh) (rs : List (List Nat)) (w : List (Nat × Nat)) : cW ss rs w.reverse = cW ss rs w := by
  unfold cW
  rw [List.map_reverse, List.sum_reverse_int]
theorem getD_rev {l : List Nat} {w j : Nat} (h : l.length = w) (hj : j < w) : l.reverse.getD j 0 = l.getD (w - 1 - j) 0 := by
  rw [List.getD_eq_getElem?_getD, List.getD_eq_getElem?_getD, List.getElem?_reverse (by omega), h]
theorem colAt_mir {rs : List (List Nat)} {high w j : Nat} (pr : PicR high w rs) (hj : j < w) : colAt (mirR rs) j = colAt rs (w - 1 - j) := by
  unfold colAt mirR
  rw [List.map_map]
  apply List.map_congr_left
  intro l hl
  exact getD_rev (pr.row l hl).len hj
theorem sum_range_rev (f : Nat → Int) : ∀ n, ((List.range n).map fun j => f (n - 1 - j)).sum = ((List.range n).map f).sum := fun n => by
  have : (List.range n).map (fun j => f (n - 1 - j)) = ((List.range n).map f).reverse := by
    apply List.ext_getElem?
    intro i
    by_cases h : i < n
    · rw [List.getElem?_reverse (by rw [List.length_map, List.length_range]; exact h), List.getElem?_map, List.getElem?_map, List.length_map, List.length_range, List.getElem?_range h, List.getElem?_range (by omega)]
      rfl
    · rw [List.getElem?_eq_none (by rw [List.length_map, List.length_range]; omega), List.getElem?_eq_none (by rw [List.length_reverse, List.length_map, List.length_range]; omega)]
  rw [this, List.sum_reverse_int]
theorem moreZ_mir {ss : List Sh} {rs : List (List Nat)} {high wide c k : Nat} (pr : ∀ s ∈ ss, PicR high s.w s.rs) (pl : PicR high wide rs) (hk : k < ss.length) (hc : c + wdt ss k ≤ wide) : moreZ (ss.map mirS) (mirR rs) (wide - c - wdt ss k) k = moreZ ss rs c k := by
  have hs := List.getElem?_eq_getElem hk
  generalize ss[k] = s at hs
  have ps := pr s (List.mem_of_getElem? hs)
  unfold moreZ
  rw [wdt_map (f := mirS) (fun _ => rfl), wdt_at hs]
  rw [wdt_at hs] at hc
  rw [← sum_range_rev (wgt ss rs c k) s.w]
  congr 1
  apply List.map_congr_left
  intro j hj
  have hj := List.mem_range.mp hj
  unfold wgt
  rw [List.getElem?_map, hs]
  show (misZ (colAt (mirR s.rs) j) (colAt (mirR rs) (wide - c - s.w + j)) : Int) - (cnt35 (colAt (mirR rs) (wide - c - s.w + j)) : Int) = (misZ (colAt s.rs (s.w - 1 - j)) (colAt rs (c + (s.w - 1 - j))) : Int) - (cnt35 (colAt rs (c + (s.w - 1 - j))) : Int)
  rw [colAt_mir ps hj, colAt_mir pl (by omega), show wide - 1 - (wide - c - s.w + j) = c + (s.w - 1 - j) by omega]
theorem cW_mir {ss : List Sh} {rs : List (List Nat)} {high wide : Nat} (pr : ∀ s ∈ ss, PicR high s.w s.rs) (pl : PicR high wide rs) {e : Nat} {w : List (Nat × Nat)} (h : Fw ss wide e w) : cW (ss.map mirS) (mirR rs) (mirW ss wide w) = cW ss rs w := by
  unfold mirW
  rw [cW_rev]
  unfold cW
  rw [List.map_map]
  congr 1
  apply List.map_congr_left
  intro p hp
  obtain ⟨i, hi⟩ := List.mem_iff_getElem?.mp hp
  obtain ⟨a, b, _⟩ := h.at_ i p hi
  exact moreZ_mir pr pl a b
theorem whiteN_mir (rs : List (List Nat)) : whiteN (mirR rs) = whiteN rs := by
  unfold whiteN mirR
  rw [List.map_map]
  congr 1
  apply List.map_congr_left
  intro l _
  exact cnt_rev l
theorem csts_mir {ss : List Sh} {rs : List (List Nat)} {high wide : Nat} (h1 : ∀ k, k < ss.length → 1 ≤ wdt ss k) (pr : ∀ s ∈ ss, PicR high s.w s.rs) (pl : PicR high wide rs) : (csts (allW (ss.map mirS) (mirR rs) wide)).Perm (csts (allW ss rs wide)) := by
  have eT : (tabY (ss.map mirS) wide wide) = tabY ss wide wide := tabY_like (List.length_map _) (wdt_map (f := mirS) (fun _ => rfl) ss) wide wide
  unfold csts allW
  rw [eT, whiteN_mir, List.map_map, List.map_map]
  have mem := tabY_mem (wide := wide) h1 wide 0 (by omega)
  have nd := tabY_nd (wide := wide) h1 wide 0 (by omega)
  generalize (tabY ss wide wide).getD 0 [] = L at mem nd
  have p : (L.map (mirW ss wide)).Perm L := by
    have inj : (L.map (mirW ss wide)).Nodup := by
      have : ∀ M : List (List (Nat × Nat)), (∀ w ∈ M, Fw ss wide 0 w) → M.Nodup → (M.map (mirW ss wide)).Nodup := by
        intro M
        induction M with
        | nil => intro _ _; exact List.nodup_nil
        | cons a M ih =>
          intro hM nM
          obtain ⟨n1, n2⟩ := List.nodup_cons.mp nM
          rw [List.map_cons]
          refine List.nodup_cons.mpr ⟨fun z => ?_, ih (fun w hw => hM w (List.mem_cons_of_mem _ hw)) n2⟩
          obtain ⟨b, hb, e⟩ := List.mem_map.mp z
          have := congrArg (mirW ss wide) e
          rw [mir_mir (Nat.le_refl _) (hM b (List.mem_cons_of_mem _ hb)), mir_mir (Nat.le_refl _) (hM a List.mem_cons_self)] at this
          exact n1 (this ▸ hb)
      exact this L (fun w hw => (mem w).mp hw) nd
    refine (List.perm_ext_iff_of_nodup inj nd).mpr fun w => ?_
    have go : ∀ v, Fw ss wide 0 v → Fw ss wide 0 (mirW ss wide v) := fun v hv => by
      have := Fw.mir (Nat.le_refl wide) (Nat.zero_le _) hv
      rw [Nat.sub_self, Nat.sub_zero] at this
      exact this
    constructor
    · intro hw
      obtain ⟨v, hv, rfl⟩ := List.mem_map.mp hw
      exact (mem _).mpr (go v ((mem v).mp hv))
    · intro hw
      have fw := (mem w).mp hw
      exact List.mem_map.mpr ⟨mirW ss wide w, (mem _).mpr (go w fw), mir_mir (Nat.le_refl _) fw⟩
  refine ((p.map _).symm).trans ?_
  rw [List.map_map]
  refine List.Perm.of_eq (List.map_congr_left fun w hw => ?_)
  show (whiteN rs : Int) + cW (ss.map mirS) (mirR rs) (mirW ss wide w) = (whiteN rs : Int) + cW ss rs w
  rw [cW_mir pr pl ((mem w).mp hw)]
/-! ### with one shape less (pure) -/
def upK (a k : Nat) : Nat := if k < a then k else k + 1
def dnK (a k : Nat) : Nat := if k < a then k else k - 1
def cutS (ss : List Sh) (a : Nat) : List Sh := ss.take a ++ ss.drop (a + 1)
theorem cutS_at {ss : List Sh} {a : Nat} (ha : a < ss.length) (k : Nat) : (cutS ss a)[k]? = ss[upK a k]? := by
  unfold cutS upK
  by_cases h : k < a
  · rw [if_pos h, List.getElem?_append_left (by rw [List.length_take]; omega), List.getElem?_take, if_pos h]
  · rw [if_neg h, List.getElem?_append_right (by rw [List.length_take]; omega), List.length_take, List.getElem?_drop]
    congr 1
    omega
theorem cutS_len {ss : List Sh} {a : Nat} (ha : a < ss.length) : (cutS ss a).length + 1 = ss.length := by
  unfold cutS
  rw [List.length_append, List.length_take, List.length_drop]
  omega
theorem wdt_cut {ss : List Sh} {a : Nat} (ha : a < ss.length) (k : Nat) : wdt (cutS ss a) k = wdt ss (upK a k) := by
  unfold wdt
  rw [cutS_at ha]
theorem moreZ_cut {ss : List Sh} {a : Nat} (ha : a < ss.length) (rs : List (List Nat)) (c k : Nat) : moreZ (cutS ss a) rs c k = moreZ ss rs c (upK a k) := by
  unfold moreZ
  rw [wdt_cut ha]
  congr 1
  apply List.map_congr_left
  intro j _
  unfold wgt
  rw [cutS_at ha]
def upW (a : Nat) (w : List (Nat × Nat)) : List (Nat × Nat) := w.map fun p => (p.1, upK a p.2)
theorem cW_up {ss : List Sh} {a : Nat} (ha : a < ss.length) (rs : List (List Nat)) (w : List (Nat × Nat)) : cW ss rs (upW a w) = cW (cutS ss a) rs w := by
  unfold cW upW
  rw [List.map_map]
  congr 1
  apply List.map_congr_left
  intro p _
  exact (moreZ_cut ha rs p.1 p.2).symm
theorem Fw.up {ss : List Sh} {a wide : Nat} (ha : a < ss.length) : ∀ {e : Nat} {w : List (Nat × Nat)}, Fw (cutS ss a) wide e w → Fw ss wide e (upW a w)
  | _, [], _ => trivial
  | _, p :: w, ⟨x, b, c, d⟩ => by
    have l := cutS_len ha
    have hk : upK a p.2 < ss.length := by
      unfold upK
      split <;> omega
    rw [wdt_cut ha] at c d
    exact ⟨x, hk, c, d.up ha⟩
theorem Fw.dn {ss : List Sh} {a wide : Nat} (ha : a < ss.length) : ∀ {e : Nat} {w : List (Nat × Nat)}, (∀ p ∈ w, p.2 ≠ a) → Fw ss wide e w → ∃ v, Fw (cutS ss a) wide e v ∧ upW a v = w
  | _, [], _, _ => ⟨[], trivial, rfl⟩
  | _, p :: w, na, ⟨x, b, c, d⟩ => by
    obtain ⟨v, hv, e⟩ := Fw.dn ha (fun q hq => na q (List.mem_cons_of_mem _ hq)) d
    have l := cutS_len ha
    have n := na p List.mem_cons_self
    have eu : upK a (dnK a p.2) = p.2 := by
      unfold upK dnK
      by_cases h : p.2 < a
      · rw [if_pos h, if_pos h]
      · rw [if_neg h, if_neg (by omega)]
        omega
    refine ⟨(p.1, dnK a p.2) :: v, ⟨x, ?_, ?_, ?_⟩, ?_⟩
    · show dnK a p.2 < (cutS ss a).length
      unfold dnK
      split <;> omega
    · show p.1 + wdt (cutS ss a) (dnK a p.2) ≤ wide
      rw [wdt_cut ha, eu]
      exact c
    · show Fw (cutS ss a) wide (p.1 + wdt (cutS ss a) (dnK a p.2)) v
      rw [wdt_cut ha, eu]
      exact hv
    · show (p.1, upK a (dnK a p.2)) :: upW a v = p :: w
      rw [eu, e]
theorem less_le {ss : List Sh} {rs : List (List Nat)} {a wide : Nat} {y z : Wy} (h1 : ∀ k, k < ss.length → 1 ≤ wdt ss k) (ha : a < ss.length) (hy : Lw (allW (cutS ss a) rs wide) y) (hz : Lw (allW ss rs wide) z) : z.1 ≤ y.1 ∧ ((∀ p ∈ z.2, p.2 ≠ a) → y.1 = z.1) := by
  have h1' : ∀ k, k < (cutS ss a).length → 1 ≤ wdt (cutS ss a) k := fun k hk => by
    rw [wdt_cut ha]
    have l := cutS_len ha
    exact h1 _ (by unfold upK; split <;> omega)
  have mem := tabY_mem (wide := wide) h1 wide 0 (by omega)
  have mem' := tabY_mem (wide := wide) h1' wide 0 (by omega)
  obtain ⟨v, hv, rfl⟩ := List.mem_map.mp hy.1
  obtain ⟨u, hu, rfl⟩ := List.mem_map.mp hz.1
  have b1 : (whiteN rs : Int) + cW ss rs u ≤ (whiteN rs : Int) + cW (cutS ss a) rs v := by
    have := wLt_le (hz.2 ((whiteN rs : Int) + cW ss rs (upW a v), upW a v) (List.mem_map.mpr ⟨upW a v, (mem _).mpr (((mem' v).mp hv).up ha), rfl⟩))
    rw [← cW_up ha]
    exact this
  refine ⟨b1, fun na => ?_⟩
  obtain ⟨v', hv', e⟩ := Fw.dn ha na ((mem u).mp hu)
  have := wLt_le (hy.2 ((whiteN rs : Int) + cW (cutS ss a) rs v', v') (List.mem_map.mpr ⟨v', (mem' v').mpr hv', rfl⟩))
  rw [← cW_up ha rs v', e] at this
  show (whiteN rs : Int) + cW (cutS ss a) rs v = (whiteN rs : Int) + cW ss rs u
  have : (whiteN rs : Int) + cW (cutS ss a) rs v ≤ (whiteN rs : Int) + cW ss rs u := this
  omega
theorem sd_ex (L : List Wy) : ∃ S : List Wy, Sd S ∧ S.Perm L := by
  obtain ⟨es, _, p, sd⟩ := srt_all (xs := L.map fun _ => V.non) (L := L) (List.length_map _)
  refine ⟨es.map Prod.snd, sd, (p.map Prod.snd).trans ?_⟩
  rw [List.map_snd_zip (by rw [List.length_map]; exact Nat.le_refl _)]
end Dt
namespace Dt
open PySem PySem.Spec PyProof.Rows L2 L2X
/-! ### partings of alphabets made of one (pure) -/
/-- the readings of one alphabet as readings of another one, so many times as far apart -/
structure Emb (ss : List Sh) (high : Nat) (ss' : List Sh) (high' c : Nat) (φ : Nat → List (Nat × Nat) → List (Nat × Nat)) : Prop where
  fw : ∀ n x, Fw ss n 0 x → Fw ss' n 0 (φ n x)
  inj : ∀ n x y, Fw ss n 0 x → Fw ss n 0 y → φ n x = φ n y → x = y
  ds : ∀ n x y, Fw ss n 0 x → Fw ss n 0 y → dsR ss' high' n (φ n x) (φ n y) = c * dsR ss high n x y
theorem Emb.alone {ss ss' : List Sh} {high high' c m : Nat} {φ} (E : Emb ss high ss' high' c φ) (h : Alone ss' m) : Alone ss m := fun n hn x hx => by
  have a := h n hn _ (E.fw n x hx)
  have b := h n hn _ (E.fw n [] trivial)
  exact E.inj n x [] hx trivial (a.trans b.symm)
theorem Near.alone {ss : List Sh} {high m num wd : Nat} {v : List (Nat × Nat)} (h : Near ss high m num wd v) (a : Alone ss m) : False := by
  obtain ⟨u, fu, ne, _⟩ := h.ex
  exact ne ((a wd h.w2 u fu).trans (a wd h.w2 v h.fw).symm)
theorem Alone.le {ss : List Sh} {m m' : Nat} (h : Alone ss m') (l : m ≤ m') : Alone ss m := fun n hn x hx => h n (Nat.le_trans hn l) x hx
theorem Emb.le {ss ss' : List Sh} {high high' c m m' num wd num' wd' : Nat} {v v' : List (Nat × Nat)} {φ} (E : Emb ss high ss' high' c φ) (a : Near ss high m num wd v) (b : Near ss' high' m' num' wd' v') (l : wd ≤ m') : num' ≤ c * num ∧ (num' = c * num → wd' ≤ wd) := by
  obtain ⟨u, fu, ne, d⟩ := a.ex
  obtain ⟨x, y⟩ := b.lo wd l (φ wd v) (φ wd u) (E.fw _ _ a.fw) (E.fw _ _ fu) (fun z => ne (E.inj wd v u a.fw fu z).symm)
  rw [E.ds wd v u a.fw fu, d] at x y
  exact ⟨x, fun z => (y z.symm).1⟩
theorem Emb.refl (ss : List Sh) (high : Nat) : Emb ss high ss high 1 (fun _ x => x) := ⟨fun n x h => h, fun n x y _ _ e => e, fun n x y _ _ => (Nat.one_mul _).symm⟩
theorem Emb.trans {ss ss' ss'' : List Sh} {high high' high'' : Nat} {φ ψ} (E : Emb ss high ss' high' 1 φ) (F : Emb ss' high' ss'' high'' 1 ψ) : Emb ss high ss'' high'' 1 (fun n x => ψ n (φ n x)) :=
  ⟨fun n x h => F.fw n _ (E.fw n x h), fun n x y hx hy e => E.inj n x y hx hy (F.inj n _ _ (E.fw n x hx) (E.fw n y hy) e), fun n x y hx hy => by rw [F.ds n _ _ (E.fw n x hx) (E.fw n y hy), E.ds n x y hx hy, Nat.one_mul]⟩
/-- as near, and as wide -/
theorem Emb.both {ss ss' : List Sh} {high high' m num wd num' wd' : Nat} {v v' : List (Nat × Nat)} {φ ψ} (E : Emb ss high ss' high' 1 φ) (F : Emb ss' high' ss high 1 ψ) (a : Near ss high m num wd v) (b : Near ss' high' m num' wd' v') : num' = num ∧ wd' = wd := by
  obtain ⟨x1, x2⟩ := E.le a b a.w2
  obtain ⟨y1, y2⟩ := F.le b a b.w2
  have e : num' = num := by omega
  refine ⟨e, ?_⟩
  have := x2 (by omega)
  have := y2 (by omega)
  omega
theorem Near.mono {ss : List Sh} {high m m' num wd num' wd' : Nat} {v v' : List (Nat × Nat)} (a : Near ss high m num wd v) (b : Near ss high m' num' wd' v') (l : m ≤ m') : num' ≤ num ∧ (num' = num → wd' = wd ∧ v' = v) := by
  have w2 := a.w2
  obtain ⟨x1, x2⟩ := (Emb.refl ss high).le a b (by omega)
  rw [Nat.one_mul] at x1 x2
  refine ⟨x1, fun e => ?_⟩
  have l1 := x2 e
  obtain ⟨u, fu, ne, d⟩ := a.ex
  obtain ⟨u', fu', ne', d'⟩ := b.ex
  have c1 := (b.lo wd (by omega) v u a.fw fu ne.symm).2 (by omega)
  have c2 := (a.lo wd' (by omega) v' u' b.fw fu' ne'.symm).2 (by omega)
  have ew : wd' = wd := by omega
  refine ⟨ew, ?_⟩
  exact psLt_tri _ _ (c2.2 ew) (c1.2 ew.symm)
theorem Part.same {ss : List Sh} {high m m' num wd wd' : Nat} {v v' u u' : List (Nat × Nat)} (a : Part ss high m num wd v u) (b : Part ss high m' num wd' v' u') (l : m ≤ m') : wd' = wd ∧ v' = v ∧ u' = u := by
  obtain ⟨e1, e2⟩ := (a.nr.mono b.nr l).2 rfl
  subst e1 e2
  refine ⟨rfl, rfl, ?_⟩
  have na : u ≠ v' := fun z => by
    have := a.lt
    rw [z] at this
    have irr : psLt v' v' = false := by
      have := dlt_pDs v' v'
      rw [← this]
      exact lex_irrefl _
    rw [irr] at this
    cases this
  have nb : u' ≠ v' := fun z => by
    have := b.lt
    rw [z] at this
    have irr : psLt v' v' = false := by
      have := dlt_pDs v' v'
      rw [← this]
      exact lex_irrefl _
    rw [irr] at this
    cases this
  exact psLt_tri _ _ (a.lo u' b.fw nb b.ds) (b.lo u a.fw na a.ds)
/-! ### shapes numbered otherwise, or fewer -/
def renW (σ : Nat → Nat) (v : List (Nat × Nat)) : List (Nat × Nat) := v.map fun p => (p.1, σ p.2)
theorem wdt_ren {ss ss' : List Sh} {σ : Nat → Nat} {k : Nat} (h : ss'[σ k]? = ss[k]?) : wdt ss' (σ k) = wdt ss k := by
  unfold wdt
  rw [h]
theorem rowAt_ren {ss ss' : List Sh} {σ : Nat → Nat} {k r : Nat} (h : ss'[σ k]? = ss[k]?) : rowAt ss' (σ k) r = rowAt ss k r := by
  unfold rowAt
  rw [h]
theorem fw_ren {ss ss' : List Sh} {σ : Nat → Nat} (h : ∀ k, k < ss.length → ss'[σ k]? = ss[k]?) {n : Nat} : ∀ {v : List (Nat × Nat)} {e : Nat}, Fw ss n e v → Fw ss' n e (renW σ v)
  | [], _, _ => trivial
  | p :: v, e, ⟨a, b, c, d⟩ => by
    have hk := h p.2 b
    refine ⟨a, ?_, ?_, ?_⟩
    · rw [List.getElem?_eq_getElem b] at hk
      exact (List.getElem?_eq_some_iff.mp hk).1
    · show p.1 + wdt ss' (σ p.2) ≤ n
      rw [wdt_ren hk]
      exact c
    · show Fw ss' n (p.1 + wdt ss' (σ p.2)) (renW σ v)
      rw [wdt_ren hk]
      exact fw_ren h d
theorem fw_num {ss : List Sh} {n : Nat} : ∀ {v : List (Nat × Nat)} {e : Nat}, Fw ss n e v → ∀ p ∈ v, p.2 < ss.length
  | [], _, _, p, h => nomatch h
  | q :: v, e, ⟨a, b, c, d⟩, p, h => by
    rcases List.mem_cons.mp h with rfl | h
    · exact b
    · exact fw_num d p h
theorem pix_ren {ss ss' : List Sh} {σ : Nat → Nat} (h : ∀ k, k < ss.length → ss'[σ k]? = ss[k]?) {r c : Nat} {v : List (Nat × Nat)} (hv : ∀ p ∈ v, p.2 < ss.length) : pix ss' (renW σ v) r c = pix ss v r c := by
  unfold pix renW
  rw [List.foldl_map]
  have key : ∀ (v : List (Nat × Nat)) (acc : Nat), (∀ p ∈ v, p.2 < ss.length) → v.foldl (fun x y => pixS ss' r c x (y.1, σ y.2)) acc = v.foldl (pixS ss r c) acc := by
    intro v
    induction v with
    | nil => intro acc _; rfl
    | cons p v ih =>
      intro acc hv
      rw [List.foldl_cons, List.foldl_cons]
      have hk := h p.2 (hv p List.mem_cons_self)
      have e : pixS ss' r c acc (p.1, σ p.2) = pixS ss r c acc p := by
        unfold pixS
        show (if p.1 ≤ c ∧ c < p.1 + wdt ss' (σ p.2) then (rowAt ss' (σ p.2) r).getD (c - p.1) 0 else acc) = _
        rw [wdt_ren hk, rowAt_ren hk]
      rw [e]
      exact ih _ fun q hq => hv q (List.mem_cons_of_mem _ hq)
  exact key v 46 hv
theorem renW_inj {σ : Nat → Nat} {m : Nat} (inj : ∀ j k, j < m → k < m → σ j = σ k → j = k) : ∀ {v u : List (Nat × Nat)}, (∀ p ∈ v, p.2 < m) → (∀ p ∈ u, p.2 < m) → renW σ v = renW σ u → v = u
  | [], [], _, _, _ => rfl
  | [], _ :: _, _, _, e => nomatch e
  | _ :: _, [], _, _, e => nomatch e
  | p :: v, q :: u, hv, hu, e => by
    unfold renW at e
    rw [List.map_cons, List.map_cons] at e
    obtain ⟨e1, e2⟩ := List.cons.inj e
    obtain ⟨a, b⟩ := Prod.mk.inj e1
    rw [renW_inj inj (fun x hx => hv x (List.mem_cons_of_mem _ hx)) (fun x hx => hu x (List.mem_cons_of_mem _ hx)) e2]
    rw [Prod.ext a (inj _ _ (hv p List.mem_cons_self) (hu q List.mem_cons_self) b)]
theorem Emb.num {ss ss' : List Sh} {high : Nat} {σ : Nat → Nat} (h : ∀ k, k < ss.length → ss'[σ k]? = ss[k]?) (inj : ∀ j k, j < ss.length → k < ss.length → σ j = σ k → j = k) : Emb ss high ss' high 1 (fun _ v => renW σ v) := by
  refine ⟨fun n x hx => fw_ren h hx, fun n x y hx hy e => renW_inj inj (fw_num hx) (fw_num hy) e, fun n x y hx hy => ?_⟩
  rw [Nat.one_mul]
  unfold dsR
  congr 1
  refine List.map_congr_left fun c _ => ?_
  have e : ∀ v, (∀ p ∈ v, p.2 < ss.length) → colK ss' high (renW σ v) c = colK ss high v c := fun v hv => by
    unfold colK colP
    congr 1
    exact List.map_congr_left fun r _ => pix_ren h hv
  rw [e x (fw_num hx), e y (fw_num hy)]
theorem Emb.rev (ss : List Sh) (high : Nat) : Emb ss high ss.reverse high 1 (fun _ v => renW (fun k => ss.length - 1 - k) v) :=
  Emb.num (fun k hk => by rw [List.getElem?_reverse (by omega), show ss.length - 1 - (ss.length - 1 - k) = k by omega]) fun j k hj hk e => by omega
theorem Emb.back (ss : List Sh) (high : Nat) : Emb ss.reverse high ss high 1 (fun _ v => renW (fun k => ss.reverse.length - 1 - k) v) := by
  have := Emb.rev ss.reverse high
  rw [List.reverse_reverse] at this
  exact this
theorem Emb.cut {ss : List Sh} {a : Nat} (ha : a < ss.length) (high : Nat) : Emb (cutS ss a) high ss high 1 (fun _ v => renW (upK a) v) :=
  Emb.num (fun k _ => (cutS_at ha k).symm) fun j k _ _ e => by
    unfold upK at e
    split at e <;> split at e <;> omega
/-! ### columns otherwise -/
theorem dsR_cols {ss ss' : List Sh} {high high' n c : Nat} {x y x' y' : List (Nat × Nat)} (pr : ∀ s ∈ ss, PicR high s.w s.rs) (pr' : ∀ s ∈ ss', PicR high' s.w s.rs) (hx : Fw ss n 0 x) (hy : Fw ss n 0 y) (hx' : Fw ss' n 0 x') (hy' : Fw ss' n 0 y')
    (h : ∀ j, j < n → misZ (colP ss' high' x' j) (colP ss' high' y' j) = c * misZ (colP ss high x j) (colP ss high y j)) : dsR ss' high' n x' y' = c * dsR ss high n x y := by
  have mul : ∀ l : List Nat, (l.map fun j => c * misZ (colP ss high x j) (colP ss high y j)).sum = c * (l.map fun j => misZ (colP ss high x j) (colP ss high y j)).sum := fun l => by
    induction l with
    | nil => rfl
    | cons j l ih => rw [List.map_cons, List.map_cons, List.sum_cons, List.sum_cons, ih, Nat.mul_add]
  have len : ∀ (ss : List Sh) (high : Nat) (x y : List (Nat × Nat)) (j : Nat), (colP ss high x j).length = (colP ss high y j).length := fun ss high x y j => by
    unfold colP
    rw [List.length_map, List.length_map]
  unfold dsR colK
  have e1 : ((List.range n).map fun j => pc (numN (colP ss' high' x' j) ^^^ numN (colP ss' high' y' j))) = (List.range n).map fun j => c * misZ (colP ss high x j) (colP ss high y j) := by
    refine List.map_congr_left fun j hj => ?_
    rw [pc_xor _ _ (len _ _ _ _ _) (colP_sg pr' hx' j) (colP_sg pr' hy' j)]
    exact h j (List.mem_range.mp hj)
  have e2 : ((List.range n).map fun j => pc (numN (colP ss high x j) ^^^ numN (colP ss high y j))) = (List.range n).map fun j => misZ (colP ss high x j) (colP ss high y j) := by
    refine List.map_congr_left fun j hj => ?_
    rw [pc_xor _ _ (len _ _ _ _ _) (colP_sg pr hx j) (colP_sg pr hy j)]
  rw [e1, e2]
  exact mul _
theorem fw_map {f : Sh → Sh} (hf : ∀ s, (f s).w = s.w) {ss : List Sh} {n : Nat} : ∀ {v : List (Nat × Nat)} {e : Nat}, Fw ss n e v → Fw (ss.map f) n e v
  | [], _, _ => trivial
  | p :: v, e, ⟨a, b, c, d⟩ => by
    refine ⟨a, by rw [List.length_map]; exact b, by rw [wdt_map hf]; exact c, ?_⟩
    rw [wdt_map hf]
    exact fw_map hf d
/-- rows of all shapes told by rows of others -/
theorem pix_rows {f : Sh → Sh} (hf : ∀ s, (f s).w = s.w) {ss : List Sh} {r r' c : Nat} (h : ∀ s ∈ ss, (f s).rs.getD r' [] = s.rs.getD r []) {v : List (Nat × Nat)} (hv : ∀ p ∈ v, p.2 < ss.length) : pix (ss.map f) v r' c = pix ss v r c := by
  unfold pix
  have key : ∀ (v : List (Nat × Nat)) (acc : Nat), (∀ p ∈ v, p.2 < ss.length) → v.foldl (pixS (ss.map f) r' c) acc = v.foldl (pixS ss r c) acc := by
    intro v
    induction v with
    | nil => intro acc _; rfl
    | cons p v ih =>
      intro acc hv
      rw [List.foldl_cons, List.foldl_cons]
      have hp := hv p List.mem_cons_self
      have es : ss[p.2]? = some ss[p.2] := List.getElem?_eq_getElem hp
      have hs := h _ (List.getElem_mem hp)
      generalize ss[p.2] = s at es hs
      have es' : (ss.map f)[p.2]? = some (f s) := by rw [List.getElem?_map, es]; rfl
      have e : pixS (ss.map f) r' c acc p = pixS ss r c acc p := by
        unfold pixS
        rw [wdt_map hf, rowAt_at es, rowAt_at es', hs]
      rw [e]
      exact ih _ fun q hq => hv q (List.mem_cons_of_mem _ hq)
  exact key v 46 hv
theorem colP_flip {ss : List Sh} {high n j : Nat} {v : List (Nat × Nat)} (pr : ∀ s ∈ ss, PicR high s.w s.rs) (hv : ∀ p ∈ v, p.2 < ss.length) : colP (ss.map flipS) high v j = (colP ss high v j).reverse := by
  unfold colP
  apply List.ext_getElem?
  intro i
  by_cases hi : i < high
  · rw [List.getElem?_map, List.getElem?_range hi, List.getElem?_reverse (by rw [List.length_map, List.length_range]; exact hi), List.length_map, List.length_range, List.getElem?_map, List.getElem?_range (by omega)]
    show some (pix (ss.map flipS) v i j) = some (pix ss v (high - 1 - i) j)
    congr 1
    refine pix_rows (f := flipS) (fun _ => rfl) (fun s hs => ?_) hv
    have hl := (pr s hs).len
    show s.rs.reverse.getD i [] = _
    rw [List.getD_eq_getElem?_getD, List.getElem?_reverse (by omega), hl, List.getD_eq_getElem?_getD]
  · rw [List.getElem?_eq_none (by rw [List.length_map, List.length_range]; omega), List.getElem?_eq_none (by rw [List.length_reverse, List.length_map, List.length_range]; omega)]
theorem Emb.flip {ss : List Sh} {high : Nat} (pr : ∀ s ∈ ss, PicR high s.w s.rs) (pr' : ∀ s ∈ ss.map flipS, PicR high s.w s.rs) : Emb ss high (ss.map flipS) high 1 (fun _ v => v) := by
  refine ⟨fun n x hx => fw_map (f := flipS) (fun _ => rfl) hx, fun n x y _ _ e => e, fun n x y hx hy => dsR_cols pr pr' hx hy (fw_map (f := flipS) (fun _ => rfl) hx) (fw_map (f := flipS) (fun _ => rfl) hy) fun j hj => ?_⟩
  rw [colP_flip (n := n) pr (fw_num hx), colP_flip (n := n) pr (fw_num hy), Nat.one_mul]
  exact misZ_rev (by unfold colP; rw [List.length_map, List.length_map])
theorem flip_flip (ss : List Sh) : (ss.map flipS).map flipS = ss := by
  rw [List.map_map]
  have : (flipS ∘ flipS) = id := funext fun s => by
    show (⟨s.sg, s.w, s.rs.reverse.reverse⟩ : Sh) = s
    rw [List.reverse_reverse]
  rw [this, List.map_id]
theorem Emb.unflip {ss : List Sh} {high : Nat} (pr : ∀ s ∈ ss, PicR high s.w s.rs) (pr' : ∀ s ∈ ss.map flipS, PicR high s.w s.rs) : Emb (ss.map flipS) high ss high 1 (fun _ v => v) := by
  have := Emb.flip (high := high) pr' (by rw [flip_flip]; exact pr)
  rw [flip_flip] at this
  exact this
end Dt
namespace L2X
open PySem PySem.Spec PyProof.Rows L2
section
variable {X : Cx}
/-- nested tuples, the first the less -/
def rLtD (K : PySem.W.Frag) : R2 := fun x y H Q => ∃ d e, Dp K H x d ∧ Dp K H y e ∧ PySem.W.alike d e = true ∧ d ≠ .none ∧ d.depth ≤ 60 ∧ Q (.bl (PySem.W.dataLt d e)) H
theorem op_ltD (hu : X.A.units + 64 < cLine) : OpR X (compareOp .Lt) (rLtD X.K) := by
  intro pins s σ H x y v u Q I rx ry h
  obtain ⟨d, e, hd, he, al, dn, dd, q⟩ := h
  obtain ⟨as, r1⟩ := Dp.reads I d x v hd rx
  obtain ⟨bs, r2⟩ := Dp.reads I e y u he ry
  exact PySem.W.lt_data r1 r2 al dn (by omega) ⟨.bl _, H, I, rfl, q⟩
end
theorem for_zipGt {K : PySem.W.Frag} {A B : Src} {xs ys : List V} {g : TG} {tb : TS} {D : Ends} {σ : L2.St} {H : Hp} (hn : ys.length ≤ xs.length) (Pv : Nat → L2.St → Hp → Prop) (h0 : Pv 0 σ H) (hl : ∀ i σ H, i ≤ ys.length → Pv i σ H → A.has K H xs ∧ B.has K H ys)
    (hs : ∀ i x y σ H T, xs[i]? = some x → ys[i]? = some y → Pv i σ H → H T = none → g (.ref T) σ (upd H T (.tup [x, y])) fun σ2 H2 => tb { D with nx := Pv (i + 1), ct := Pv (i + 1), bk := D.nx } σ2 H2) (hd : ∀ σ H, Pv ys.length σ H → D.nx σ H) :
    ∃ W : Nat → Nat → L2.St → Hp → Prop, (∃ m, W 0 m σ H) ∧ ∀ i m σ H, W i m σ H →
      ((ItzG K A B).stop i H ∧ D.nx σ H) ∨ ((ItzG K A B).go i H ∧ ∃ N : L2.St → Hp → Prop, (∀ σ' H', N σ' H' → ∃ m', m' < m ∧ W (i + 1) m' σ' H') ∧ ∀ x H', (ItzG K A B).yld i H x H' → g x σ H' fun σ2 H2 => tb { D with nx := N, ct := N, bk := D.nx } σ2 H2) := by
  refine ⟨fun i m σ H => m = ys.length - i ∧ i ≤ ys.length ∧ Pv i σ H, ⟨ys.length, by simp, Nat.zero_le _, h0⟩, ?_⟩
  rintro i m σ H ⟨rfl, hi, p⟩
  obtain ⟨qx, qy⟩ := hl i σ H hi p
  by_cases hlt2 : i < ys.length
  · have hlt : i < xs.length := by omega
    have ex : xs[i]? = some xs[i] := List.getElem?_eq_getElem hlt
    have ey : ys[i]? = some ys[i] := List.getElem?_eq_getElem hlt2
    refine .inr ⟨⟨xs, ys, _, _, qx, qy, ex, ey⟩, Pv (i + 1), fun σ' H' p' => ⟨ys.length - (i + 1), by omega, rfl, hlt2, p'⟩, fun x H' y => ?_⟩
    obtain ⟨T, u, v, rfl, nT, rfl, z1, z2⟩ := y
    exact hs i u v σ H T (z1 xs qx) (z2 ys qy) p nT
  · have e : i = ys.length := by omega
    subst e
    exact .inl ⟨⟨xs, ys, qx, qy, .inr ⟨rfl, by omega⟩⟩, hd σ H p⟩
end L2X
namespace Dt
open PySem PySem.Spec PyProof.Rows L2 L2X
open SX (S)
/-! ### a parting as data -/
theorem eqv_shaped {d : PyData} (h : SeqAt.shaped d = true) : PyData.eqv d d = true := SeqAt.eqv_refl d (SeqAt.canLay_of_shaped h)
theorem lay_pd0 : ∀ w : List (Nat × Nat), PyData.canLayAll0 (w.map pD) = true ∧ PyData.depthAll (w.map pD) ≤ 3
  | [] => ⟨by simp [PyData.canLayAll0], by simp [PyData.depthAll]⟩
  | p :: r => by
    obtain ⟨a, b⟩ := lay_pd0 r
    refine ⟨?_, ?_⟩
    · rw [List.map_cons]
      simp [PyData.canLayAll0, PyData.canLay0, pD, a]
    · rw [List.map_cons]
      simp only [PyData.depthAll, PyData.depth, pD]
      omega
theorem neD_same {d : PyData} (h : SeqAt.shaped d = true) : (!PyData.eqv d d) = false := by
  rw [eqv_shaped h]
  rfl
def rdD (w : List (Nat × Nat)) : PyData := .tuple (w.map pD)
theorem rdD_shaped (w : List (Nat × Nat)) : SeqAt.shaped (rdD w) = true := by
  obtain ⟨a, b⟩ := lay_pd0 w
  unfold SeqAt.shaped rdD
  rw [Bool.and_eq_true, decide_eq_true_iff]
  refine ⟨by simp [PyData.canLay0, a], ?_⟩
  simp only [PyData.depth]
  omega
theorem rdD_dp {K : PySem.W.Frag} {H : Hp} {p : Addr} {z : List V} {w : List (Nat × Nat)} (a : SqT K H p z) (b : Plc K H z w) : Dp K H (.ref p) (rdD w) := .tup a (dp_places b)
/-- number, width and two readings -/
def ptD (num wd : Nat) (v u : List (Nat × Nat)) : PyData := .tuple [.int num, .int wd, rdD v, rdD u]
theorem ptD_shaped (num wd : Nat) (v u : List (Nat × Nat)) : SeqAt.shaped (ptD num wd v u) = true := by
  obtain ⟨a, b⟩ := lay_pd0 v
  obtain ⟨c, d⟩ := lay_pd0 u
  unfold SeqAt.shaped ptD rdD
  rw [Bool.and_eq_true, decide_eq_true_iff]
  refine ⟨by simp [PyData.canLay0, PyData.canLayAll0, a, c], ?_⟩
  simp only [PyData.depth, PyData.depthAll]
  omega
theorem PtA.dp {K : PySem.W.Frag} {H : Hp} {t num wd : Nat} {v u : List (Nat × Nat)} (h : PtA K H t num wd v u) : Dp K H (.ref t) (ptD num wd v u) := by
  obtain ⟨p1, z1, p2, z2, a, b, c, d, e⟩ := h
  exact .tup (SqT.of a) (.cons (.int _) (.cons (.int _) (.cons (rdD_dp b c) (.cons (rdD_dp d e) .nil))))
theorem PtA.tk {K : PySem.W.Frag} {H H' : Hp} {t num wd : Nat} {v u : List (Nat × Nat)} (h : PtA K H t num wd v u) (k : Tk H H') : PtA K H' t num wd v u := by
  obtain ⟨p1, z1, p2, z2, a, b, c, d, e⟩ := h
  exact ⟨p1, z1, p2, z2, (k _ _).1 a, k.sq b, k.plc c, k.sq d, k.plc e⟩
theorem rdD_lt (v u : List (Nat × Nat)) : PySem.W.dataLt (rdD v) (rdD u) = psLt v u := by
  unfold rdD
  rw [PySem.W.dataLt_tuple, dlt_pDs]
theorem rdD_alike (v u : List (Nat × Nat)) : PySem.W.alike (rdD v) (rdD u) = true := by
  unfold rdD
  simp only [PySem.W.alike]
  exact alike_pDs _ _
theorem rdD_depth (v : List (Nat × Nat)) : (rdD v).depth ≤ 60 := by
  obtain ⟨a, b⟩ := lay_pd0 v
  unfold rdD
  simp only [PyData.depth]
  omega
/-- a parting that is told, or none -/
def Res (K : PySem.W.Frag) (H : Hp) (x : V) (ss : List Sh) (high m : Nat) : Prop := (x = .non ∧ Alone ss m) ∨ ∃ t num wd v u, x = .ref t ∧ PtA K H t num wd v u ∧ Part ss high m num wd v u
theorem Res.tk {K : PySem.W.Frag} {H H' : Hp} {x : V} {ss : List Sh} {high m : Nat} (h : Res K H x ss high m) (k : Tk H H') : Res K H' x ss high m := by
  rcases h with ⟨e, a⟩ | ⟨t, num, wd, v, u, e, a, b⟩
  · exact .inl ⟨e, a⟩
  · exact .inr ⟨t, num, wd, v, u, e, a.tk k, b⟩
theorem Res.same {K : PySem.W.Frag} {H H' : Hp} {x : V} {ss : List Sh} {high m : Nat} (h : Res K H x ss high m) (k : Same H H') : Res K H' x ss high m := h.tk (.same k)
/-! ### whether a told pair shows the number -/
abbrev sSh : Stmt := topS 81
abbrev nSh : List Str := ["tall", "told", "most", "number", "wide", "one", "other"]
theorem scSh : FnScope nSh ["tall", "told", "most"] (defScope sSh) := ⟨rfl, rfl, rfl, by decide +kernel, rfl, by decide +kernel, by decide +kernel⟩
def spSh (K : PySem.W.Frag) (CA : Addr) : Sp := fun vs H Q _ => ∃ (o t num wd m high : Nat) (ss : List Sh) (v u : List (Nat × Nat)), vs = [.ref o, .ref t, .int m] ∧ AlpG CA H o high ss ∧ m ≤ 60 ∧ PtA K H t num wd v u ∧ Part ss high m num wd v u ∧ ∀ H', Same H H' → Q (.bl true) H'
section
variable {P : Program} {w : World} {K : PySem.W.Frag} {mg : Str → Option Value} {base : Heap} {CA CP : Addr}
theorem ok_sh {f : Addr} {fd : FuncData} {k : Nat} (F : Fun K "_law_shown" "_law_shown" sSh f fd) (GD : Pm P w K mg base CX0 (k + 1) "drawn" ["alphabet", "wide", "reading"] (spDrr K CA)) (GU : Pm P w K mg base (L2.CX P w) (k + 1) "unlike" ["one", "other"] (spUnlP CP)) :
    FnOk P w K mg base CX0 (k + 2) f fd ["tall", "told", "most"] (spSh K CA) := by
  obtain ⟨fD, fdD, GD, mD, kD, bD⟩ := GD.ex
  obtain ⟨fU, fdU, GU, mU, kU, bU⟩ := GU.ex
  refine F.ok scSh (fun vs H Q E h => ?_) (fun cdv A outer s H vs Q E hr h => ?_)
  · obtain ⟨_, _, _, _, _, _, _, _, _, rfl, _⟩ := h
    rfl
  · obtain ⟨o, t, num, wd, m, high, ss, v, u, rfl, al, m60, pt, pp, q⟩ := h
    have nd := scSh.nd
    have hu : (A.deeper (envOfC "_law_shown" (defScope sSh) s.heap.objs.size f cdv)).units + 64 < cLine := by
      have := hr.un
      omega
    refine ⟨_, pss_cons (ps_asg (pv 1) (pg_tup rfl (pgs_cons (pg_name (i := 3) nd rfl (Or.inl rfl)) (pgs_cons (pg_name (i := 4) nd rfl (Or.inl rfl)) (pgs_cons (pg_name (i := 5) nd rfl (Or.inl rfl)) (pgs_cons (pg_name (i := 6) nd rfl (Or.inl rfl)) pgs_nil))))))
      (pss_cons (ps_if (PW.pt (pw_or (pt_not (pt_chain op_le op_le pe_int (pv 4) (pv 2))) (pw_or1 (pt_not (pt_cmpR (op_ltD hu) (pv 5) (pv 6) (nomark _)))))) (pss_one (ps_ret pe_bl)) pss_nil)
      (pss_one (ps_ret (pe_cmpR op_eq (pe_call GU hr (by rfl) mU kU bU .nil passX0 (pa_cons (pe_call GD hr (by rfl) mD kD bD .nil pass0 (pa_cons (pv 0) (pa_cons (pv 4) (pa_cons (pv 5) pa_nil)))) (pa_cons (pe_call GD hr (by rfl) mD kD bD .nil pass0 (pa_cons (pv 0) (pa_cons (pv 4) (pa_cons (pv 6) pa_nil)))) pa_nil))) (pv 3) (nomark _))))), ?_⟩
    obtain ⟨p1, z1, p2, z2, ht, h1, P1, h2, P2⟩ := id pt
    have w1 := pp.nr.w1
    have w2 := pp.nr.w2
    refine ⟨.ref t, rfl, t, _, rfl, SqT.of ht, rfl, _, _, rfl, _, _, rfl, _, _, rfl, _, _, rfl, rfl, ?_⟩
    have d1 : decide ((1 : Int) ≤ (wd : Int)) = true := decide_eq_true (by omega)
    have d2 : decide ((wd : Int) ≤ (m : Int)) = true := decide_eq_true (by omega)
    refine ⟨.int wd, rfl, 1, wd, rfl, rfl, _, rfl, ?_⟩
    rw [d1]
    refine iteT ⟨.int m, rfl, wd, m, rfl, rfl, _, rfl, ?_⟩
    rw [d2]
    refine iteF ⟨.ref p1, rfl, .ref p2, rfl, rdD v, rdD u, rdD_dp h1 P1, rdD_dp h2 P2, rdD_alike v u, (fun z => by cases z), rdD_depth v, _, rfl, ?_⟩
    rw [rdD_lt, pp.lt]
    refine iteF ?_
    have hi : 1 ≤ high ∧ high ≤ 60 := by
      have := al.pr _ (List.getElem_mem al.l1)
      exact ⟨this.h0, this.h1⟩
    refine ⟨.ref o, rfl, .int wd, rfl, .ref p1, rfl, o, p1, high, wd, ss, v, rfl, al, w1, by omega, ⟨⟨z1, h1, P1⟩, pp.nr.fw.way⟩, fun a H1 s1 na ha => ?_⟩
    refine ⟨.ref o, rfl, .int wd, rfl, .ref p2, rfl, o, p2, high, wd, ss, u, rfl, al.same s1, w1, by omega, ⟨⟨z2, sameT s1 h2, P2.same s1⟩, pp.fw.way⟩, fun b H2 s2 nb hb => ?_⟩
    refine ⟨a, b, high, wd, high, wd, _, _, rfl, s2 _ _ ha, hb, draw_pic al.pr pp.nr.fw.way hi.1 hi.2 w1 (by omega), draw_pic al.pr pp.fw.way hi.1 hi.2 w1 (by omega), fun _ H3 s3 => ?_, fun e => absurd ⟨rfl, rfl⟩ e⟩
    have e : misP (drawR ss high wd v) (drawR ss high wd u) = (num : Int) := by
      rw [dsR_mis al.pr hi.1 hi.2 w1 (by omega) pp.nr.fw pp.fw, pp.ds]
    refine ⟨.int num, rfl, ?_⟩
    rw [e]
    have fin : ∀ b : Bool, b = true → Q (.bl b) H3 := fun b z => by
      rw [z]
      exact q H3 ((s1.trans s2).trans s3)
    exact ⟨rfl, fin _ (decide_eq_true rfl)⟩
end
end Dt
/-! t[::-1] -/
namespace L2X
open PySem PySem.Spec PyProof.Rows L2
theorem fm_congr {α β : Type} {f g : α → Option β} : ∀ {l : List α}, (∀ x ∈ l, f x = g x) → l.filterMap f = l.filterMap g
  | [], _ => rfl
  | x :: l, h => by
    rw [List.filterMap_cons, List.filterMap_cons, h x List.mem_cons_self, fm_congr fun y hy => h y (List.mem_cons_of_mem _ hy)]
theorem pick_back (xs : Array Value) : ((List.range xs.size).filterMap fun (k : Nat) => xs[(((xs.size : Int) - 1) + (k : Int) * (-1)).toNat]?).toArray = xs.toList.reverse.toArray := by
  have e : ((List.range xs.size).filterMap fun (k : Nat) => xs[(((xs.size : Int) - 1) + (k : Int) * (-1)).toNat]?) = ((List.range xs.size).map fun k => xs.size - 1 - k).filterMap (xs[·]?) := by
    rw [List.filterMap_map]
    apply fm_congr
    intro k hk
    have := List.mem_range.mp hk
    have e2 : (((xs.size : Int) - 1) + (k : Int) * (-1)).toNat = xs.size - 1 - k := by omega
    rw [e2]
    rfl
  rw [e, PySem.W.krv_range, List.filterMap_reverse, PySem.W.krv_all]
section
variable {prog : Program} {w : World} {A : Around} {E : Value → Shared → Prop} {s : Shared}
theorem sliceApplied_back {sl : Addr} {vs : Value} {n : Nat} {Q : Int × Int × Nat → Shared → Prop} (hs : s.heap.IsSliceOf sl .none .none vs) (ps : IsPart vs (some (-1)))
    (h : Q ((n : Int) - 1, -1, n) s) : wpAny (model prog w) A (Builtin.Slice.sliceApplied (.ref sl) (pure (n : Int))) Q E s := by
  obtain ⟨os, hos, hcs, hds⟩ := id hs
  unfold Builtin.Slice.sliceApplied Builtin.Slice.sliceFields
  refine wpAny_bind (wpAny_bind (wpAny_field hos hds (x := .none) rfl (wpAny_bind (wpAny_field hos hds (x := .none) rfl (wpAny_bind (wpAny_field hos hds (x := vs) rfl (wpAny_pure ?_)))))))
  refine wpAny_bind (HT.slicePart_ ps ?_)
  show wpAny _ _ (if ((-1 : Int) == 0) = true then _ else _) _ _ s
  rw [if_neg (by decide)]
  refine wpAny_bind (slicePart_none (wpAny_bind (slicePart_none (wpAny_bind (wpAny_pure ?_)))))
  show wpAny _ _ (pure ((n : Int) - 1, (-1 : Int), Builtin.Slice.slicePlaces ((n : Int) - 1) (-1) (-1))) _ _ s
  have e : Builtin.Slice.slicePlaces ((n : Int) - 1) (-1) (-1) = n := by
    unfold Builtin.Slice.slicePlaces
    rw [if_neg (by decide)]
    by_cases q : (n : Int) - 1 > -1
    · rw [if_pos q]
      have : ((n : Int) - 1 - -1 - 1) / (- -1) = (n : Int) - 1 := by
        rw [show (- -1 : Int) = 1 by decide, Int.ediv_one]
        omega
      rw [this]
      omega
    · rw [if_neg q]
      omega
  rw [e]
  exact wpAny_pure h
theorem getItem_tuple_back {t sl : Addr} {items : Array Value} {vs : Value} {Q : Value → Shared → Prop} (ht : IsTup s.heap t items) (hs : s.heap.IsSliceOf sl .none .none vs) (ps : IsPart vs (some (-1)))
    (h : Q (.ref s.heap.objs.size) { s with heap := s.heap.push { cls := .type "tuple", data := .seq items.toList.reverse.toArray } }) (hsz : items.size ≤ sizeLine) : wpAny (model prog w) A (getItem (.ref t) (.ref sl)) Q E s := by
  have htake : sizeOk (.seq items.toList.reverse.toArray) := by
    show items.toList.reverse.toArray.size ≤ sizeLine
    rw [List.size_toArray, List.length_reverse, Array.length_toList]
    exact hsz
  obtain ⟨os, hos, hcs, hds⟩ := id hs
  have hTs : s.TypeIs (.ref sl) "slice" := ⟨os, hos, hcs⟩
  unfold getItem
  try with_reducible refine wpAny_holding ?_
  first | refine wpAny_bind (wpAny_pure ?_) | skip
  refine wpAny_bind (wpAny_sequenceKey ht.typeIs (by decide) ?_)
  refine wpAny_bind (wpAny_callSpecial?_slot (name := Str.ofString "__getitem__") ht.typeIs PyProof.Rows.slot_tuple_getitem
    (wpAny_call_entry PyProof.Rows.slot_tuple_getitem ht.typeIs entry_tuple_getitem ?_ (args_tuple_getitem _ _)))
  show wpAny _ _ (Builtin.Tuple.tupleItemsOf (.ref t) >>= _) _ _ s
  refine wpAny_bind (tupleItemsOf_ ht ?_)
  refine wpAny_bind (wpAny_typeOf hTs ?_)
  rw [if_pos (by decide)]
  refine wpAny_bind (sliceApplied_back hs ps ?_)
  have hno : ¬ ((((items.size : Int) - 1) == 0 && (-1 : Int) == 1 && items.size == items.size) = true) := by
    intro q
    rw [Bool.and_eq_true, Bool.and_eq_true] at q
    exact absurd q.1.2 (by decide)
  show wpAny _ _ (if (((items.size : Int) - 1) == 0 && (-1 : Int) == 1 && items.size == items.size) = true then _ else _) _ _ s
  rw [if_neg hno, pick_back]
  first
    | exact wpAny_bind (m := Builtin.Tuple.tupleExact _) (wpAny_newObj_type (wpAny_pure ⟨_, rfl, wpAny_pure h⟩) htake)
    | exact wpAny_bind (m := Builtin.Tuple.tupleExact _) (wpAny_newObj_type (wpAny_bind (wpAny_pure (wpAny_pure ⟨_, rfl, wpAny_pure h⟩))) htake)
    | exact wpAny_bind (wpAny_bind (m := Builtin.Tuple.tupleExact _) (wpAny_newObj_type (wpAny_pure (wpAny_pure ⟨_, rfl, wpAny_pure h⟩)) htake))
    | exact wpAny_bind (wpAny_bind (m := Builtin.Tuple.tupleExact _) (wpAny_newObj_type (wpAny_pure ⟨_, rfl, wpAny_pure h⟩) htake))
end
section
variable {X : Cx}
def tRevT (K : PySem.W.Frag) (te : TE) : TE := fun σ H Q => te σ H fun x H1 => ∃ a xs, x = .ref a ∧ SqT K H1 a xs ∧ ∀ p, H1 p = none → Q (.ref p) (upd H1 p (.tup xs.reverse))
theorem pe_revT {e : Expr} {te : TE} {k : Nat} {p1 p2 p3 pos : Pos} (he : PE X e te) : PE X (.Subscript e (.Slice none none (some (.UnaryOp .USub (.Constant (.int 1) k p1) p2)) p3) pos) (tRevT X.K te) := by
  refine ⟨fun pins s σ H Q I h => ?_⟩
  refine Subscript_ (thn (he.run pins s σ H _ I h) fun v s1 ⟨x, H1, I1, r1, q1⟩ => ?_)
  obtain ⟨a, xs, ex, hx, q⟩ := q1
  subst ex
  cases r1
  have hst : PO X (some (.UnaryOp .USub (.Constant (.int 1) k p1) p2)) (tPart (tUn (rU fun i => .int (-i)) (tC (.int 1)))) := po_some (pe_un un_neg pe_int)
  have hn : ∀ {o : Value}, IsPart o none → o = .none := fun p => by cases p; rfl
  refine wpAny_Slice (thn (po_none.run pins s1 σ H1 (fun o H2 => o = none ∧ H2 = H1) I1 ⟨rfl, rfl⟩) fun vl s2 ⟨l, H2, I2, pl, el, e2⟩ => ?_)
  subst el e2
  refine thn (po_none.run pins s2 σ H2 (fun o H3 => o = none ∧ H3 = H2) I2 ⟨rfl, rfl⟩) fun vu s3 ⟨u, H3, I3, pu, eu, e3⟩ => ?_
  subst eu e3
  have evl := hn pl
  have evu := hn pu
  subst evl evu
  refine thn (hst.run pins s3 σ H3 (fun o H4 => o = some (-1) ∧ H4 = H3) I3 ⟨1, rfl, -1, rfl, rfl, rfl⟩) fun vs s4 ⟨o, H4, I4, ps, eo, e4⟩ => ?_
  subst eo e4
  have I5 : Inv X pins σ H4 { s4 with heap := s4.heap.push { cls := .type "slice", data := .fields #[.none, .none, vs] } } := I4.kept (t' := s4.toks) fun b ob q => Heap.get?_push_of_some _ q
  obtain ⟨its, r, ht, hz⟩ := I5.tuple hx
  have hlen := r.length
  show wpAny (model X.prog X.w) X.A (subscriptTail e (.Slice none none (some (.UnaryOp .USub (.Constant (.int 1) k p1) p2)) p3) (.ref a) (.ref s4.heap.objs.size)) (EP X pins σ Q) X.xe { s4 with heap := s4.heap.push { cls := .type "slice", data := .fields #[.none, .none, vs] } }
  refine tail_any (ops := [.ref a, .ref s4.heap.objs.size]) ht.typeIs (PyProof.Rows.slot_tuple_getitem.lookup) ?_ (by with_unfolding_all rfl)
  refine getItem_tuple_back ht (Heap.IsSliceOf.new _ .none .none vs) ps ?_ (by rw [List.size_toArray]; omega)
  have e : its.toArray.toList.reverse.toArray = its.reverse.toArray := by simp
  rw [e]
  refine ⟨.ref _, _, I5.laid (t' := s4.toks) (o := .tup xs.reverse) (fun b ob q => Heap.get?_push_of_some _ q) (Nat.le_refl _) ?_, rfl, q _ (I5.hok.fresh (Nat.le_refl _))⟩
  exact ⟨by rw [List.length_reverse]; exact hz, its.reverse, r.reverse, IsTup.new _ _⟩
end
end L2X
namespace L2X
open PySem PySem.Spec PyProof.Rows L2
theorem pe_revTK {X : Cx} {K : PySem.W.Frag} (hK : X.K = K) {e : Expr} {te : TE} {k : Nat} {p1 p2 p3 pos : Pos} (he : PE X e te) : PE X (.Subscript e (.Slice none none (some (.UnaryOp .USub (.Constant (.int 1) k p1) p2)) p3) pos) (tRevT K te) := hK ▸ pe_revT he
end L2X
namespace Dt
open PySem PySem.Spec PyProof.Rows L2 L2X LamX
open SX (S)
theorem cutV_to (xs : List V) (n : Nat) : cutV xs none (some (n : Int)) = xs.take n := by
  unfold cutV
  rw [HT.sIx_nat]
  show (xs.drop 0).take (min n xs.length - 0) = _
  rw [List.drop_zero, Nat.sub_zero]
  by_cases h : n ≤ xs.length
  · rw [Nat.min_eq_left h]
  · rw [Nat.min_eq_right (by omega), List.take_length, List.take_of_length_le (by omega)]
theorem cutV_from (xs : List V) (n : Nat) : cutV xs (some (n : Int)) none = xs.drop n := by
  unfold cutV
  rw [HT.sIx_nat]
  show (xs.drop (min n xs.length)).take (xs.length - min n xs.length) = _
  by_cases h : n ≤ xs.length
  · rw [Nat.min_eq_left h]
    exact List.take_of_length_le (by rw [List.length_drop]; omega)
  · rw [Nat.min_eq_right (by omega), List.drop_length, List.drop_of_length_le (by omega), List.take_nil]
theorem atI_m1 {α : Type} {xs : List α} {n : Nat} {v : α} (h : xs.length = n + 1) (e : xs[n]? = some v) : atI xs (-1) = some v := by
  have e2 : xs = xs.take n ++ [v] := by
    rw [← take_snoc e, List.take_of_length_le (by omega)]
  rw [e2]
  exact atI_last _ _
/-- number and width alone -/
def Due (H : Hp) (y : V) (ss : List Sh) (high m : Nat) : Prop := (y = .non ∧ Alone ss m) ∨ ∃ z num wd v, y = .ref z ∧ H z = some (.tup [.int (num : Nat), .int (wd : Nat)]) ∧ Near ss high m num wd v
theorem Due.tk {H H' : Hp} {y : V} {ss : List Sh} {high m : Nat} (h : Due H y ss high m) (k : Tk H H') : Due H' y ss high m := by
  rcases h with ⟨e, a⟩ | ⟨z, num, wd, v, e, a, b⟩
  · exact .inl ⟨e, a⟩
  · exact .inr ⟨z, num, wd, v, e, (k _ _).1 a, b⟩
theorem due_sh (num wd : Nat) : SeqAt.shaped (.tuple [.int (num : Int), .int (wd : Int)]) = true := by
  simp [SeqAt.shaped, PyData.canLay0, PyData.canLayAll0, PyData.depth, PyData.depthAll]
/-- what is found of an alphabet and what is due are alike, where one is read as the other -/
theorem due_same {H : Hp} {K : PySem.W.Frag} {x y : V} {ss ss' : List Sh} {high high' m : Nat} {φ ψ} (E : Emb ss high ss' high' 1 φ) (F : Emb ss' high' ss high 1 ψ) (a : Due H y ss high m) (b : Due H x ss' high' m) : ∃ d, Dp K H x d ∧ Dp K H y d ∧ SeqAt.shaped d = true := by
  rcases a with ⟨rfl, a⟩ | ⟨z, num, wd, v, rfl, h, n⟩
  · rcases b with ⟨rfl, b⟩ | ⟨z', num', wd', v', rfl, h', n'⟩
    · exact ⟨.none, .non, .non, by decide +kernel⟩
    · exact (n'.alone (F.alone a)).elim
  · rcases b with ⟨rfl, b⟩ | ⟨z', num', wd', v', rfl, h', n'⟩
    · exact (n.alone (E.alone b)).elim
    · obtain ⟨e1, e2⟩ := E.both F n n'
      subst e1 e2
      exact ⟨_, .tup (SqT.of h') (.cons (.int _) (.cons (.int _) .nil)), .tup (SqT.of h) (.cons (.int _) (.cons (.int _) .nil)), due_sh num' wd'⟩
theorem Ds.tk {H H' : Hp} {d q : Addr} (D : Ds H d q) (s : Dq d q H H') : Tk H H' := fun b zs => by
  obtain ⟨_, _, _, h1, h2, _⟩ := D
  refine ⟨fun e => s _ _ e (fun z => ?_) (fun z => ?_), fun od e => s _ _ e (fun z => ?_) (fun z => ?_)⟩
  all_goals
    rw [z] at e
    first
      | (rw [h1] at e; cases e)
      | (rw [h2] at e; cases e)
theorem goods8 {high w : Nat} {ss : List Sh} (G : Goods high w ss) (h : w ≤ 8) : Goods high 8 ss := ⟨fun s hs => by
  have g := G.all s hs
  exact ⟨g.pic, Nat.le_trans g.w8 h, g.s0, g.s1, g.dot⟩, G.nd⟩
theorem shs_rev {H : Hp} {ys : List V} {ss : List Sh} (h : Shs H ys ss) : Shs H ys.reverse ss.reverse := by
  have hl := h.len
  refine ⟨by rw [List.length_reverse, List.length_reverse, hl], fun i x s hx hs => ?_⟩
  have hi : i < ys.length := by
    have := (List.getElem?_eq_some_iff.mp hx).1
    rw [List.length_reverse] at this
    exact this
  rw [List.getElem?_reverse hi] at hx
  rw [List.getElem?_reverse (by omega), ← hl] at hs
  exact h.at_ _ x s hx hs
theorem PicR.rev {high wide : Nat} {rs : List (List Nat)} (p : PicR high wide rs) : PicR high wide rs.reverse :=
  ⟨by rw [List.length_reverse, p.len], fun l hl => p.row l (List.mem_reverse.mp hl), p.h0, p.h1, p.w0, p.w1⟩
theorem Good.flip {high wide : Nat} {s : Sh} (g : Good high wide s) : Good high wide (flipS s) :=
  ⟨g.pic.rev, g.w8, g.s0, g.s1, let ⟨l, hl, h⟩ := g.dot; ⟨l, List.mem_reverse.mpr hl, h⟩⟩
theorem goods_ndF {f : Sh → Sh} (inj : ∀ s t : Sh, (f s).rs = (f t).rs → s.rs = t.rs) {ss : List Sh} (h : (ss.map (·.rs)).Nodup) : ((ss.map f).map (·.rs)).Nodup := by
  unfold List.Nodup at *
  rw [List.pairwise_map] at h
  rw [List.map_map, List.pairwise_map]
  exact h.imp fun {s t} n e => n (inj s t e)
theorem Goods.flip {high wide : Nat} {ss : List Sh} (g : Goods high wide ss) : Goods high wide (ss.map flipS) := by
  refine ⟨fun s hs => ?_, goods_ndF (fun s t e => ?_) g.nd⟩
  · obtain ⟨t, ht, rfl⟩ := List.mem_map.mp hs
    exact (g.all t ht).flip
  · exact List.reverse_inj.mp e
theorem Goods.perm {high wide : Nat} {ss ss' : List Sh} (g : Goods high wide ss) (p : ss'.Perm ss) : Goods high wide ss' := ⟨fun s hs => g.all s (p.mem_iff.mp hs), (p.map _).nodup_iff.mpr g.nd⟩
theorem cutS_sub (ss : List Sh) (a : Nat) : (cutS ss a).Sublist ss := by
  unfold cutS
  have : (ss.take a ++ ss.drop (a + 1)).Sublist (ss.take a ++ ss.drop a) := by
    refine List.Sublist.append (List.Sublist.refl _) ?_
    rw [← List.drop_drop]
    exact List.drop_sublist _ _
  rw [List.take_append_drop] at this
  exact this
theorem Goods.cut {high wide : Nat} {ss : List Sh} (g : Goods high wide ss) (a : Nat) : Goods high wide (cutS ss a) := ⟨fun s hs => g.all s ((cutS_sub ss a).subset hs), List.Sublist.nodup ((cutS_sub ss a).map _) g.nd⟩
theorem Shs.snocF {H : Hp} {ys : List V} {ss : List Sh} {f : Sh → Sh} {i : Nat} {s : Sh} {x : V} (h : Shs H ys ((ss.map f).take i)) (e : ss[i]? = some s) (hx : ShAt H x (f s)) : Shs H (ys ++ [x]) ((ss.map f).take (i + 1)) := by
  have e' : (ss.map f)[i]? = some (f s) := by
    rw [List.getElem?_map, e]
    rfl
  rw [take_snoc e']
  exact h.add hx
theorem cutL_at {α : Type} {l : List α} {a : Nat} (ha : a < l.length) (k : Nat) : (l.take a ++ l.drop (a + 1))[k]? = l[upK a k]? := by
  unfold upK
  by_cases h : k < a
  · rw [if_pos h, List.getElem?_append_left (by rw [List.length_take]; omega), List.getElem?_take, if_pos h]
  · rw [if_neg h, List.getElem?_append_right (by rw [List.length_take]; omega), List.length_take, List.getElem?_drop]
    congr 1
    omega
theorem shs_cut {H : Hp} {xs : List V} {ss : List Sh} {a : Nat} (ha : a < ss.length) (h : Shs H xs ss) : Shs H (xs.take a ++ xs.drop (a + 1)) (cutS ss a) := by
  have hl := h.len
  refine ⟨?_, fun i x s hx hs => ?_⟩
  · unfold cutS
    rw [List.length_append, List.length_append, List.length_take, List.length_take, List.length_drop, List.length_drop, hl]
  · rw [cutL_at (by omega)] at hx
    rw [cutS_at ha] at hs
    exact h.at_ _ x s hx hs
theorem rev_rows (rs : List (List Nat)) : (rs.map rv).reverse = rs.reverse.map rv := List.map_reverse.symm
abbrev sLaw : Stmt := topS 82
abbrev nLaw : List Str := ["script", "s", "shapes", "pairs", "most", "tall", "rows", "one", "other", "told", "due", "flat", "some", "found", "at", "less", "wide", "sign", "picture"]
theorem scLaw : FnScope nLaw ["script"] (defScope sLaw) := ⟨rfl, rfl, rfl, by decide +kernel, rfl, by decide +kernel, by decide +kernel⟩
section
variable {P : Program} {w : World} {K : PySem.W.Frag} {mg : Str → Option Value} {base : Heap} {fa CA : Addr} {cdv : Value}
structure LawFs (P : Program) (w : World) (K : PySem.W.Frag) (mg : Str → Option Value) (base : Heap) (CA : Addr) : Prop where
  tx : Tx mg
  zp : mg "zip" = none
  B : Pm P w K mg base CX0 21 "_law_begun" ["script"] (spDb K)
  N : Pm P w K mg base CX0 21 "_law_draw" ["s", "top"] spDw
  Tn : Pm P w K mg base CX0 21 "_law_thin" ["s", "wide"] spTn
  Nm : Pm P w K mg base CX0 21 "_law_named" ["s", "shapes"] spNm
  Ta : Pm P w K mg base CX0 21 "_law_tall" ["pairs"] (spTa CA)
  Pt : Pm P w K mg base CX0 21 "parting" ["alphabet", "most"] (spPt K CA)
  Sh : Pm P w K mg base CX0 21 "_law_shown" ["tall", "told", "most"] (spSh K CA)
theorem law_run {dV kV doc pm ct oc : Value} {an od : Option Addr} {osl : Array (Option Value)} {s : Shared} {H : Hp} {a : Addr} {ns : List Int}
    (lk : K.lookup fa = some ⟨oc, od, .func (PySem.W.fnOf "law" "law" (defArgs sLaw) (defBody sLaw) (defScope sLaw) dV kV doc pm an cdv ct), osl⟩) (hcd : PySem.W.codeIn K cdv "law" = true)
    (hb : ∀ (s : Shared) (u : Value), BindsTo s (PySem.W.fnOf "law" "law" (defArgs sLaw) (defBody sLaw) (defScope sLaw) dV kV doc pm an cdv ct) ⟨[u], []⟩ [("script", u)])
    (L : LawFs P w K mg base CA) (hr22 : Room 22 callerA) (e0 : Env0 P w K mg base callerA [] s H) (hS : SqL K H a (ns.map V.int)) (hlen : ns.length ≤ 63) :
    codeAny (model P w) callerA (.call (.ref fa) ⟨[.ref a], []⟩) (CR CX0 [] P w H s (fun v _ => v = .bl true) L2.E0) s := by
  refine run_ofS (N := nLaw) (ps := ["script"]) (us := [.ref a]) (vs := [.ref a]) lk hcd scLaw hr22 e0 (hb s (.ref a)) (.cons rfl .nil) rfl fun hr => ?_
  have nd := scLaw.nd
  have hu64 : (callerA.deeper (envOfC "law" (defScope sLaw) s.heap.objs.size fa cdv)).units + 64 < cLine := by
    have := hr.un
    omega
  have T := L.tx
  obtain ⟨fB, fdB, GB, mB, kB, bB⟩ := L.B.ex
  obtain ⟨fN, fdN, GN, mN, kN, bN⟩ := L.N.ex
  obtain ⟨fT, fdT, GT, mT, kT, bT⟩ := L.Tn.ex
  obtain ⟨fM, fdM, GM, mM, kM, bM⟩ := L.Nm.ex
  obtain ⟨fA, fdA, GA, mA, kA, bA⟩ := L.Ta.ex
  obtain ⟨fP, fdP, GP, mP, kP, bP⟩ := L.Pt.ex
  obtain ⟨fS, fdS, GS, mS, kS, bS⟩ := L.Sh.ex
  refine ⟨_, PSs.nox (C8.pss_cut (ps_set (i := 1) nd rfl (.inl rfl) (pe_call GB hr (by rfl) mB kB bB .nil pass0 (pa_cons (pv 0) pa_nil)))
      (C8.pss_cut (ps_set (i := 2) nd rfl (.inl rfl) (pe_call GT hr (by rfl) mT kT bT .nil pass0 (pa_cons (pv 1) (pa_cons pe_int pa_nil))))
      (C8.pss_cut (ps_par (i := 3) (j := 4) (by rfl) nd rfl rfl (by decide) rfl rfl (pa_cons (pe_call GM hr (by rfl) mM kM bM .nil pass0 (pa_cons (pv 1) (pa_cons (pv 2) pa_nil))) (pa_cons (pe_op op_add pe_int (pe_call GN hr (by rfl) mN kN bN .nil pass0 (pa_cons (pv 1) (pa_cons pe_int pa_nil)))) pa_nil)) (by rfl))
      (C8.pss_cut (ps_set (i := 5) nd rfl (.inr rfl) (pe_call GA hr (by rfl) mA kA bA .nil pass0 (pa_cons (pv 3) pa_nil)))
      (C8.pss_cut (ps_setLc (i := 6) (own := [("wide", 16)]) (g := gName 16) (tt := tYes) (by rfl) nd rfl rfl (sw_true rfl rfl rfl (by decide +kernel)) (pi_range2 rfl T.range (pa_cons pe_int (pa_cons (pe_op op_add (pv 4) pe_int) pa_nil))) (blkOk_by (N := nLaw) (sc := defScope sLaw) (by decide +kernel)) (fun _ _ _ _ _ => pg_name (i := 16) nd rfl (Or.inl rfl)) (fun _ _ _ _ _ => pts_nil)
          (fun _ _ _ _ _ => pe_call GP hr (by rfl) mP kP bP .nil pass0 (pa_cons (pv 5) (pa_cons (pv 16) pa_nil))))
      (pss_cons (ps_for PassesOwn.never rfl (pi_zipG (by rfl) L.zp (pa_cons (pv 6) (pa_cons (pe_slice sl_list (pv 6) (po_some pe_int) po_none) pa_nil))) (pg_tup rfl (pgs_cons (pg_name (i := 7) nd rfl (Or.inl rfl)) (pgs_cons (pg_name (i := 8) nd rfl (Or.inl rfl)) pgs_nil)))
        (pss_cons (ps_if (PW.pt (pw_and (pt_cmp (pc_notN (pv 7))) (pw_and1 (PW.pt (pw_or (pt_cmp (pc_isN (pv 8))) (pw_or1 (pt_cmpR op_gt (pe_ix (r := rIxT K) ix_tup (pv 8) pe_int (fun _ _ => rfl)) (pe_ix (r := rIxT K) ix_tup (pv 7) pe_int (fun _ _ => rfl)) (nomark _)))))))) (pss_one (ps_ret pe_bl)) pss_nil)
        (pss_one (ps_if (PW.pt (pw_and (pt_cmp (pc_notN (pv 7))) (pw_and (pt_cmpR op_eq (pe_ix (r := rIxT K) ix_tup (pv 8) pe_int (fun _ _ => rfl)) (pe_ix (r := rIxT K) ix_tup (pv 7) pe_int (fun _ _ => rfl)) (nomark _)) (pw_and1 (pt_cmpR (op_neD hu64) (pv 8) (pv 7) (nomark _)))))) (pss_one (ps_ret pe_bl)) pss_nil))))
      (C8.pss_cut (ps_set (i := 9) nd rfl (.inl rfl) (pe_ix (r := rIxL K) ix_list (pv 6) (pe_un un_neg pe_int) (fun _ _ => rfl)))
      (C8.pss_cut (ps_if (PW.pt (pw_and (pt_cmp (pc_notN (pv 9))) (pw_and1 (pt_not (pt_val (pe_call GS hr (by rfl) mS kS bS .nil pass0 (pa_cons (pv 5) (pa_cons (pv 9) (pa_cons (pv 4) pa_nil))))))))) (pss_one (ps_ret pe_bl)) pss_nil)
      (C8.pss_cut (ps_set (i := 10) nd rfl (.inl rfl) (pe_ifExp (pt_cmp (pc_isN (pv 9))) pe_non (pe_slice sl_tupA (pv 9) po_none (po_some pe_int))))
      (C8.pss_cut (ps_setLc (i := 11) (own := [("sign", 17), ("picture", 18)]) (g := gTup K 2 (gCons (gName 17) (gCons (gName 18) gNil))) (tt := tYes) (by rfl) nd rfl rfl (sw_true rfl rfl rfl (by decide +kernel)) (pi_list (pv 3)) (blkOk_by (N := nLaw) (sc := defScope sLaw) (by decide +kernel)) (fun _ _ _ _ _ => pg_tup rfl (pgs_cons (pg_name (i := 17) nd rfl (Or.inl rfl)) (pgs_cons (pg_name (i := 18) nd rfl (Or.inl rfl)) pgs_nil))) (fun _ _ _ _ _ => pts_nil)
          (fun _ _ _ _ _ => pe_tup (pa_cons (pv 17) (pa_cons (pe_revTK (K := K) rfl (pv 18)) pa_nil))))
      (pss_cons (ps_for PassesOwn.never rfl (pi_tup (pe_tup (pa_cons (pe_revL (pv 3)) (pa_cons (pv 11) (pa_cons (pe_revL (pv 11)) pa_nil))))) (pg_name (i := 12) nd rfl (Or.inl rfl))
        (C8.pss_cut (ps_set (i := 13) nd rfl (.inl rfl) (pe_call GP hr (by rfl) mP kP bP .nil pass0 (pa_cons (pe_call GA hr (by rfl) mA kA bA .nil pass0 (pa_cons (pv 12) pa_nil)) (pa_cons (pv 4) pa_nil))))
        (pss_one (ps_if (pt_cmpR (op_neD hu64) (pe_ifExp (pt_cmp (pc_isN (pv 13))) pe_non (pe_slice sl_tupA (pv 13) po_none (po_some pe_int))) (pv 10) (nomark _)) (pss_one (ps_ret pe_bl)) pss_nil))))
      (pss_cons (ps_if (pt_cmpR op_gt (pe_callB call_len_seq (by rfl) T.len PySem.boot_len (pa_cons (pv 3) pa_nil)) pe_int (nomark _))
        (C8.pss_cut (ps_set (i := 14) nd rfl (.inl rfl) (pe_call GN hr (by rfl) mN kN bN .nil pass0 (pa_cons (pv 1) (pa_cons (pe_callB call_len_seq (by rfl) T.len PySem.boot_len (pa_cons (pv 3) pa_nil)) pa_nil))))
        (C8.pss_cut (ps_set (i := 15) nd rfl (.inl rfl) (pe_call GP hr (by rfl) mP kP bP .nil pass0 (pa_cons (pe_call GA hr (by rfl) mA kA bA .nil pass0 (pa_cons (pe_op op_cat (pe_slice sl_list (pv 3) po_none (po_some (pv 14))) (pe_slice sl_list (pv 3) (po_some (pe_op op_add (pv 14) pe_int)) po_none)) pa_nil)) (pa_cons (pv 4) pa_nil))))
        (pss_one (ps_ret (pe_or (pe_cmp (pc_isN (pv 15))) (pe_one (pe_and (pe_cmp (pc_notN (pv 9))) (pe_one (pe_cmpR op_ge (pe_ix (r := rIxT K) ix_tup (pv 15) pe_int (fun _ _ => rfl)) (pe_ix (r := rIxT K) ix_tup (pv 9) pe_int (fun _ _ => rfl)) (nomark _)))))))))) pss_nil)
      (pss_one (ps_ret pe_bl)))))))))))))), ?_⟩
  -- the draws
  refine ⟨fun σ' H' => ∃ d q, σ' = [some (.ref a), some (.ref d), none, none, none, none, none, none, none, none, none, none, none, none, none, none, none, none, none] ∧ Ds H' d q, ?_, ?_⟩
  · exact ⟨.ref a, rfl, a, ns, rfl, hS, hlen, fun d q H1 nd' s1 D1 => ⟨d, q, rfl, D1⟩⟩
  rintro _ H1 ⟨d, q, rfl, D1⟩
  -- the shapes
  refine ⟨fun σ' H' => ∃ l xs css high, σ' = [some (.ref a), some (.ref d), some (.ref l), none, none, none, none, none, none, none, none, none, none, none, none, none, none, none, none] ∧ 1 ≤ high ∧ high ≤ 3 ∧ H' l = some (.lst xs) ∧ l ≠ d ∧ l ≠ q ∧ CsAt H' d q l xs css ∧ (∀ cs ∈ css, GoodC high 4 cs) ∧ css.Nodup ∧ 1 ≤ css.length ∧ css.length ≤ 4 ∧ Ds H' d q, ?_, ?_⟩
  · exact ⟨.ref d, rfl, d, q, 4, rfl, D1, by decide, by decide, fun l xs css high H2 h1 h3 nl hl n1 n2 C G N c1 c4 sm D2 dq2 => ⟨l, xs, css, high, rfl, h1, h3, hl, n1, n2, C, G, N, c1, c4, D2⟩⟩
  rintro _ H2 ⟨l, xs, css, high, rfl, h1, h3, hl, n1, n2, C, G, N, c1, c4, D2⟩
  -- the pairs, and how wide
  refine ⟨fun σ' H' => ∃ l2 ys ss ii, σ' = [some (.ref a), some (.ref d), some (.ref l), some (.ref l2), some (.int ii), none, none, none, none, none, none, none, none, none, none, none, none, none, none] ∧ (∃ M : Nat, ii = (M : Int) ∧ 1 ≤ M ∧ M ≤ 9) ∧ H' l2 = some (.lst ys) ∧ l2 ≠ d ∧ l2 ≠ q ∧ Shs H' ys ss ∧ Goods high 8 ss ∧ 1 ≤ ss.length ∧ ss.length ≤ 4 ∧ Ds H' d q, ?_, ?_⟩
  · refine ⟨.ref d, rfl, .ref l, rfl, d, q, l, l, high, 4, xs, css, rfl, D2, n1, n2, hl, C, G, N, h1, by omega, by decide, by omega, fun l2 ys ss H3 nl2 hl2 a1 a2 S3 Gs NM D3 dq3 => ?_⟩
    have ls : ss.length = css.length := by
      have := congrArg List.length NM.rs
      rw [List.length_map, List.length_map] at this
      exact this
    refine ⟨.ref d, rfl, d, q, 9, rfl, D3, by decide, by decide, fun m H4 m0 m9 D4 dq4 => ?_⟩
    refine ⟨1, m, rfl, rfl, _, _, rfl, l2, ys, ss, _, rfl, ⟨(1 + m).toNat, by omega, by omega, by omega⟩, dq4 _ _ hl2 a1 a2, a1, a2, ?_, goods8 Gs (by decide), by omega, by omega, D4⟩
    exact ⟨S3.len, fun i x s a b => let ⟨t, p, e, z1, z2⟩ := S3.at_ i x s a b; ⟨t, p, e, (D3.tk dq4 _ _).1 z1, (D3.tk dq4 _ _).1 z2⟩⟩
  rintro _ H3 ⟨l2, ys, ss, _, rfl, ⟨M, rfl, M1, M9⟩, hl2, a1, a2, S3, Gs, s1, s4, D3⟩
  -- the alphabet
  refine ⟨fun σ' H' => ∃ o, σ' = [some (.ref a), some (.ref d), some (.ref l), some (.ref l2), some (.int M), some (.ref o), none, none, none, none, none, none, none, none, none, none, none, none, none] ∧ Same H3 H' ∧ AlpG CA H' o high ss, ?_, ?_⟩
  · exact ⟨.ref l2, rfl, l2, high, ys, ss, rfl, hl2, S3, Gs, h1, by omega, s1, by omega, fun o H4 no al s4 => ⟨o, rfl, s4, al⟩⟩
  rintro _ H4 ⟨o, rfl, s34, al⟩
  -- the partings of all widths
  refine ⟨fun σ' H' => ∃ g us, σ' = [some (.ref a), some (.ref d), some (.ref l), some (.ref l2), some (.int M), some (.ref o), some (.ref g), none, none, none, none, none, none, none, none, none, none, none, none] ∧ Same H4 H' ∧ H' g = some (.lst us) ∧ us.length = M ∧ ∀ j x, us[j]? = some x → Res K H' x ss high (j + 1), ?_, ?_⟩
  · refine ⟨.int M, rfl, _, 1, rfl, rfl, 1, (M : Int) + 1, rfl, ⟨by omega, by omega, by omega, by omega⟩, fun D hD => ?_⟩
    have rng : ((M : Int) + 1 - 1).toNat = M := by omega
    rw [rng]
    refine lc_range (lo := 1) (n := M) (fun i H5 => Same H4 H5 ∧ ∃ us, H5 D = some (.lst us) ∧ us.length = i ∧ ∀ j x, us[j]? = some x → Res K H5 x ss high (j + 1)) ⟨same_upd hD, [], upd_same, rfl, fun j x h => nomatch h⟩ ?_ ?_
    · rintro i H5 hi ⟨sm, us, hus, ul, R⟩
      have ei : (1 + (i : Nat) : Int) = ((i + 1 : Nat) : Int) := by omega
      have fin : ∀ x H6, Same H5 H6 → Res K H6 x ss high (i + 1) → ∃ acc, H6 D = some (.lst acc) ∧ acc.length < sizeLine ∧ Same H4 (upd H6 D (.lst (acc ++ [x]))) ∧ ∃ us, upd H6 D (.lst (acc ++ [x])) D = some (.lst us) ∧ us.length = i + 1 ∧ ∀ j y, us[j]? = some y → Res K (upd H6 D (.lst (acc ++ [x]))) y ss high (j + 1) := fun x H6 s6 r => by
        have tk : Tk H6 (upd H6 D (.lst (us ++ [x]))) := Tk.upd (s6 _ _ hus) (fun _ z => by cases z) (fun _ _ z => by cases z)
        refine ⟨us, s6 _ _ hus, smallT (by omega), same_over (sm.trans s6) hD, us ++ [x], upd_same, by rw [List.length_append, ul]; rfl, fun j y hy => ?_⟩
        by_cases c : j < us.length
        · rw [List.getElem?_append_left c] at hy
          exact ((R j y hy).same s6).tk tk
        · rw [List.getElem?_append_right (by omega)] at hy
          have c1 : j - us.length < 1 := (List.getElem?_eq_some_iff.mp hy).1
          rw [show j - us.length = 0 by omega] at hy
          cases hy
          rw [show j = i by omega]
          exact r.tk tk
      exact ⟨rfl, .ref o, rfl, .int (1 + (i : Nat)), rfl, o, i + 1, high, ss, by rw [ei]; rfl, al.same sm, by omega, by omega, by omega, fun H6 s6 z => fin _ _ s6 (.inl ⟨rfl, z⟩), fun t num wd v u H6 s6 nt pa pp => fin _ _ s6 (.inr ⟨t, num, wd, v, u, rfl, pa, pp⟩)⟩
    · rintro H5 ⟨sm, us, hus, ul, R⟩
      exact ⟨D, us, rfl, sm, hus, ul, R⟩
  rintro _ H5 ⟨g, us, rfl, s45, hg, ul, R⟩
  -- side by side
  refine ⟨.ref g, rfl, .ref g, rfl, _, rfl, g, us, rfl, SqL.of hg, fun g2 hg2 => ?_⟩
  have hgd : upd H5 g2 (.lst (cutV us (some 1) none)) g2 = some (.lst (us.drop 1)) := by rw [upd_same, cut_one]
  have s56 := same_upd (o := .lst (cutV us (some 1) none)) hg2
  have hg6 := s56 _ _ hg
  refine ⟨.lst g, .lst g2, us, us.drop 1, rfl, SqL.of hg6, SqL.of hgd, ?_⟩
  generalize upd H5 g2 (.lst (cutV us (some 1) none)) = H6 at s56 hg6 hgd
  refine for_zipGt (K := K) (A := .lst g) (B := .lst g2) (xs := us) (ys := us.drop 1) (by rw [List.length_drop]; omega) (fun i σ H7 => ∃ y7 y8, σ = [some (.ref a), some (.ref d), some (.ref l), some (.ref l2), some (.int M), some (.ref o), some (.ref g), y7, y8, none, none, none, none, none, none, none, none, none, none] ∧ Same H6 H7) ⟨none, none, rfl, Same.refl _⟩ (fun i σ H7 _ z => ?_) ?_ ?_
  · obtain ⟨_, _, _, sm⟩ := z
    exact ⟨SqL.of (sm _ _ hg6), SqL.of (sm _ _ hgd)⟩
  · rintro i x y σ H7 T hx hy ⟨y7, y8, rfl, sm⟩ nT
    have hy' : us[i + 1]? = some y := by
      rw [List.getElem?_drop, Nat.add_comm 1 i] at hy
      exact hy
    have s7 := (s56.trans sm).trans (same_upd (o := .tup [x, y]) nT)
    have r1 := (R i x hx).same s7
    have r2 := (R (i + 1) y hy').same s7
    have s67 := sm.trans (same_upd (o := .tup [x, y]) nT)
    refine ⟨T, _, rfl, SqT.of upd_same, rfl, _, _, rfl, _, _, rfl, rfl, ?_⟩
    generalize upd H7 T (.tup [x, y]) = H8 at r1 r2 s67
    rcases r1 with ⟨rfl, al1⟩ | ⟨t, num, wd, v, u, rfl, pa, pp⟩
    · exact ⟨.non, rfl, _, rfl, iteF (iteF ⟨.non, rfl, _, rfl, iteF (iteF ⟨_, _, rfl, s67⟩)⟩)⟩
    · rcases r2 with ⟨rfl, al2⟩ | ⟨t', num', wd', v', u', rfl, pa', pp'⟩
      · exact (pp.nr.alone (al2.le (by omega))).elim
      · obtain ⟨m1, m2⟩ := pp.nr.mono pp'.nr (by omega)
        obtain ⟨q1, z1, q2, z2, ht, h1', P1, h2', P2⟩ := id pa
        obtain ⟨q3, z3, q4, z4, ht', h3', P3, h4', P4⟩ := id pa'
        refine ⟨.ref t, rfl, _, rfl, iteT ⟨.ref t', rfl, _, rfl, iteF ⟨.ref t', rfl, t', _, 0, .int num', rfl, rfl, SqT.of ht', atI_nat (j := 0) rfl, .ref t, rfl, t, _, 0, .int num, rfl, rfl, SqT.of ht, atI_nat (j := 0) rfl, _, _, rfl, rfl, _, rfl, ?_⟩⟩⟩
        rw [decide_eq_false (by omega : ¬ (num : Int) < (num' : Int))]
        refine iteF ?_
        refine ⟨.ref t, rfl, _, rfl, iteT ⟨.ref t', rfl, t', _, 0, .int num', rfl, rfl, SqT.of ht', atI_nat (j := 0) rfl, .ref t, rfl, t, _, 0, .int num, rfl, rfl, SqT.of ht, atI_nat (j := 0) rfl, rfl, _, rfl, ?_⟩⟩
        by_cases e : num' = num
        · subst e
          obtain ⟨rfl, rfl, rfl⟩ := pp.same pp' (by omega)
          have yes : ∀ b : Bool, b = true → ∀ {A B : Prop}, A → if b = true then A else B := fun b z {A B} q => by
            rw [z]
            exact q
          refine yes _ (decide_eq_true rfl) ⟨.ref t', rfl, .ref t, rfl, _, _, pa'.dp, pa.dp, ptD_shaped _ _ _ _, ptD_shaped _ _ _ _, _, rfl, ?_⟩
          rw [neD_same (ptD_shaped _ _ _ _)]
          exact iteF ⟨_, _, rfl, s67⟩
        · have no : ∀ b : Bool, b = false → ∀ {A B : Prop}, B → if b = true then A else B := fun b z {A B} q => by
            rw [z]
            exact q
          refine no _ (decide_eq_false fun z => e ?_) (iteF ⟨_, _, rfl, s67⟩)
          have := V.int.inj z
          omega
  rintro σ H7 ⟨y7, y8, rfl, s67⟩
  -- the widest
  have eL : us[M - 1]? = some (us[M - 1]'(by omega)) := List.getElem?_eq_getElem _
  have rL := (R (M - 1) _ eL).same (s56.trans s67)
  rw [show M - 1 + 1 = M by omega] at rL
  have aL := atI_m1 (n := M - 1) (by omega) eL
  generalize us[M - 1]'(by omega) = x9 at rL aL
  have hg7 := s67 _ _ hg6
  have s47 := s45.trans (s56.trans s67)
  have s37 := s34.trans s47
  refine ⟨fun σ' H' => σ' = [some (.ref a), some (.ref d), some (.ref l), some (.ref l2), some (.int M), some (.ref o), some (.ref g), y7, y8, some x9, none, none, none, none, none, none, none, none, none] ∧ H7 = H', ?_, ?_⟩
  · exact ⟨.ref g, rfl, 1, rfl, g, us, -1, x9, rfl, rfl, SqL.of hg7, aL, rfl, rfl⟩
  rintro _ _ ⟨rfl, rfl⟩
  have alH := al.same s47
  -- shown
  refine ⟨fun σ' H' => σ' = [some (.ref a), some (.ref d), some (.ref l), some (.ref l2), some (.int M), some (.ref o), some (.ref g), y7, y8, some x9, none, none, none, none, none, none, none, none, none] ∧ Same H7 H', ?_, ?_⟩
  · rcases id rL with ⟨rfl, z⟩ | ⟨t, num, wd, v, u, rfl, pa, pp⟩
    · exact ⟨.non, rfl, _, rfl, iteF (iteF ⟨rfl, Same.refl _⟩)⟩
    · exact ⟨.ref t, rfl, _, rfl, iteT ⟨.ref o, rfl, .ref t, rfl, .int M, rfl, o, t, num, wd, M, high, ss, v, u, rfl, alH, by omega, pa, pp, fun H8 s8 => ⟨_, rfl, iteF ⟨rfl, s8⟩⟩⟩⟩
  rintro _ H8 ⟨rfl, s78⟩
  have rL8 := rL.same s78
  -- what is due
  refine ⟨fun σ' H' => ∃ x10, σ' = [some (.ref a), some (.ref d), some (.ref l), some (.ref l2), some (.int M), some (.ref o), some (.ref g), y7, y8, some x9, some x10, none, none, none, none, none, none, none, none] ∧ Same H8 H' ∧ Due H' x10 ss high M, ?_, ?_⟩
  · rcases id rL8 with ⟨rfl, z⟩ | ⟨t, num, wd, v, u, rfl, pa, pp⟩
    · exact ⟨.non, rfl, _, rfl, iteT ⟨.non, rfl, Same.refl _, .inl ⟨rfl, z⟩⟩⟩
    · obtain ⟨q1, z1, q2, z2, ht, h1', P1, h2', P2⟩ := id pa
      exact ⟨.ref t, rfl, _, rfl, iteF ⟨.ref t, rfl, 2, rfl, sl_any ht fun z H9 s9 hz => ⟨.ref z, rfl, s9, .inr ⟨z, num, wd, v, rfl, hz, pp.nr⟩⟩⟩⟩
  rintro _ H9 ⟨x10, rfl, s89, due⟩
  have s39 := (s37.trans s78).trans s89
  have hl9 := s39 _ _ hl2
  have S9' := S3.same s39
  have ly := S3.len
  have Gf : Goods high 8 (ss.map flipS) := Gs.flip
  -- upside down
  refine ⟨fun σ' H' => ∃ fl fs, σ' = [some (.ref a), some (.ref d), some (.ref l), some (.ref l2), some (.int M), some (.ref o), some (.ref g), y7, y8, some x9, some x10, some (.ref fl), none, none, none, none, none, none, none] ∧ Same H9 H' ∧ H' fl = some (.lst fs) ∧ Shs H' fs (ss.map flipS), ?_, ?_⟩
  · refine ⟨.ref l2, rfl, l2, rfl, ⟨_, SqL.of hl9⟩, fun D hD => lc_list (K := K) (a := l2) (xs := ys) (fun i H10 => Same H9 H10 ∧ ∃ zs, H10 D = some (.lst zs) ∧ Shs H10 zs ((ss.map flipS).take i)) ⟨same_upd hD, [], upd_same, Shs.nil⟩ (fun i H10 _ z => SqL.of (z.1 _ _ hl9)) ?_ ?_⟩
    · rintro i x H10 hi ⟨sm, zs, hz, Z10⟩
      have il : i < ss.length := by
        rw [← ly]
        exact (List.getElem?_eq_some_iff.mp hi).1
      have es : ss[i]? = some ss[i] := List.getElem?_eq_getElem il
      generalize ss[i] = sh at es
      obtain ⟨t2, p2, rfl, ht2, hp2⟩ := (S9'.same sm).at_ i x sh hi es
      refine ⟨t2, _, rfl, SqT.of ht2, rfl, _, _, rfl, _, _, rfl, rfl, rfl, ch sh.sg, rfl, .ref p2, rfl, p2, _, rfl, SqT.of hp2, fun p3 hp3 => ?_⟩
      have s3 := same_upd (o := .tup (sh.rs.map rv).reverse) hp3
      refine ⟨by show 2 ≤ sizeLine; decide, fun T3 hT3 => ?_⟩
      have s4 := same_upd (o := .tup [ch sh.sg, V.ref p3]) hT3
      have s34 := s3.trans s4
      have hz4 := s34 _ _ hz
      refine ⟨zs, hz4, ?_, same_over (sm.trans s34) hD, _, upd_same, (((Z10.same s34).updl hz4).snocF es ?_)⟩
      · rw [Z10.len, List.length_take, List.length_map]
        exact smallT (by omega)
      · have sh3 : ShAt (upd (upd H10 p3 (.tup (sh.rs.map rv).reverse)) T3 (.tup [ch sh.sg, V.ref p3])) (.ref T3) (flipS sh) := ⟨T3, p3, rfl, upd_same, s4 _ _ (by rw [upd_same, rev_rows]; rfl)⟩
        exact sh3.updl hz4
    · rintro H10 ⟨sm, zs, hz, Z10⟩
      rw [List.take_of_length_le (by rw [List.length_map, ly]; exact Nat.le_refl _)] at Z10
      exact ⟨D, zs, rfl, sm, hz, Z10⟩
  rintro _ H10 ⟨fl, fs, rfl, s910, hf10, F10⟩
  have hl10 := s910 _ _ hl9
  have S10' := S9'.same s910
  have lf := F10.len
  rw [List.length_map] at lf
  have prS : ∀ s ∈ ss, PicR high s.w s.rs := al.pr
  have prF : ∀ s ∈ ss.map flipS, PicR high s.w s.rs := fun s hs => (Gf.all s hs).pic
  have E1 := Emb.rev ss high
  have E1' := Emb.back ss high
  have E2 := Emb.flip prS prF
  have E2' := Emb.unflip prS prF
  have E3 := E2.trans (Emb.rev (ss.map flipS) high)
  have E3' := (Emb.back (ss.map flipS) high).trans E2'
  -- in another order, upside down, both
  refine ⟨.ref l2, rfl, l2, ys, rfl, SqL.of hl10, fun p hp => ⟨.ref fl, rfl, .ref fl, rfl, fl, fs, rfl, SqL.of (same_upd hp _ _ hf10), fun p2 hp2 => ⟨by show 3 ≤ sizeLine; decide, fun tt htt => ?_⟩⟩⟩
  have sA := same_upd (o := .lst ys.reverse) hp
  have sB := same_upd (o := .lst fs.reverse) hp2
  have sC := same_upd (o := .tup [V.ref p, V.ref fl, V.ref p2]) htt
  have sX := (sA.trans sB).trans sC
  have hpX := sC _ _ (sB _ _ (upd_same (H := H10) (a := p) (o := .lst ys.reverse)))
  have hp2X := sC _ _ (upd_same (H := upd H10 p (.lst ys.reverse)) (a := p2) (o := .lst fs.reverse))
  have hflX := sX _ _ hf10
  have htX : (upd (upd (upd H10 p (.lst ys.reverse)) p2 (.lst fs.reverse)) tt (.tup [V.ref p, V.ref fl, V.ref p2])) tt = some (.tup [V.ref p, V.ref fl, V.ref p2]) := upd_same
  generalize upd (upd (upd H10 p (.lst ys.reverse)) p2 (.lst fs.reverse)) tt (.tup [V.ref p, V.ref fl, V.ref p2]) = H11 at sX hpX hp2X hflX htX
  have S11' := S10'.same sX
  have F11 := F10.same sX
  have three : ∀ (i : Nat) (x : V), [V.ref p, V.ref fl, V.ref p2][i]? = some x → ∃ so zs ss', x = .ref so ∧ H11 so = some (.lst zs) ∧ Shs H11 zs ss' ∧ Goods high 8 ss' ∧ ss'.length = ss.length ∧ ∃ φ ψ, Emb ss high ss' high 1 φ ∧ Emb ss' high ss high 1 ψ := fun i x hx => by
    match i, hx with
    | 0, hx =>
      cases hx
      exact ⟨p, _, ss.reverse, rfl, hpX, shs_rev S11', Gs.perm (List.reverse_perm _), List.length_reverse, _, _, E1, E1'⟩
    | 1, hx =>
      cases hx
      exact ⟨fl, _, ss.map flipS, rfl, hflX, F11, Gf, List.length_map _, _, _, E2, E2'⟩
    | 2, hx =>
      cases hx
      exact ⟨p2, _, (ss.map flipS).reverse, rfl, hp2X, shs_rev F11, Gf.perm (List.reverse_perm _), by rw [List.length_reverse, List.length_map], _, _, E3, E3'⟩
    | i + 3, hx => cases hx
  refine ⟨tt, rfl, ⟨_, SqT.of htX⟩, for_tup (K := K) (a := tt) (xs := [V.ref p, V.ref fl, V.ref p2]) (fun i σ H12 => ∃ y12 y13, σ = [some (.ref a), some (.ref d), some (.ref l), some (.ref l2), some (.int M), some (.ref o), some (.ref g), y7, y8, some x9, some x10, some (.ref fl), y12, y13, none, none, none, none, none] ∧ Same H11 H12) ⟨none, none, rfl, Same.refl _⟩ (fun i σ H12 _ z => ?_) ?_ ?_⟩
  · obtain ⟨_, _, _, sm⟩ := z
    exact SqT.of (sm _ _ htX)
  · rintro i x σ H12 hx ⟨y12, y13, rfl, sm⟩
    obtain ⟨so, zs, ss', rfl, hz, Sz, Gz, lz, φ, ψ, Ea, Eb⟩ := three i x hx
    refine ⟨fun σ' H' => ∃ x13, σ' = [some (.ref a), some (.ref d), some (.ref l), some (.ref l2), some (.int M), some (.ref o), some (.ref g), y7, y8, some x9, some x10, some (.ref fl), some (.ref so), some x13, none, none, none, none, none] ∧ Same H12 H' ∧ Res K H' x13 ss' high M, ?_, ?_⟩
    · exact ⟨.ref so, rfl, so, high, zs, ss', rfl, sm _ _ hz, Sz.same sm, Gz, h1, by omega, by omega, by omega, fun o2 H13 no2 al2 s13 => ⟨.int M, rfl, o2, M, high, ss', rfl, al2, by omega, M1, by omega, fun H14 s14 z => ⟨.non, rfl, s13.trans s14, .inl ⟨rfl, z⟩⟩, fun t num wd v u H14 s14 nt pa pp => ⟨.ref t, rfl, s13.trans s14, .inr ⟨t, num, wd, v, u, rfl, pa, pp⟩⟩⟩⟩
    rintro _ H13 ⟨x13, rfl, s13, r13⟩
    have sD : Same H9 H13 := ((s910.trans sX).trans sm).trans s13
    have due13 := due.tk (.same sD)
    rcases id r13 with ⟨rfl, z⟩ | ⟨t, num, wd, v, u, rfl, pa, pp⟩
    · obtain ⟨d', da, db, sh⟩ := due_same (K := K) Ea Eb due13 (.inl ⟨rfl, z⟩)
      refine ⟨.non, rfl, _, rfl, iteT ⟨x10, rfl, d', d', da, db, sh, sh, _, rfl, ?_⟩⟩
      rw [neD_same sh]
      exact iteF ⟨_, _, rfl, sm.trans s13⟩
    · obtain ⟨q1, z1, q2, z2, ht, h1', P1, h2', P2⟩ := id pa
      refine ⟨.ref t, rfl, _, rfl, iteF ⟨.ref t, rfl, 2, rfl, sl_any ht fun z H14 s14 hz => ?_⟩⟩
      obtain ⟨d', da, db, sh⟩ := due_same (K := K) Ea Eb (due13.tk (.same s14)) (.inr ⟨z, num, wd, v, rfl, hz, pp.nr⟩)
      refine ⟨x10, rfl, d', d', da, db, sh, sh, _, rfl, ?_⟩
      rw [neD_same sh]
      exact iteF ⟨_, _, rfl, (sm.trans s13).trans s14⟩
  rintro σ H12 ⟨y12, y13, rfl, sm12⟩
  have s312 : Same H3 H12 := ((s39.trans s910).trans sX).trans sm12
  have hl12 := s312 _ _ hl2
  have D12 := D3.same s312
  have rL12 := rL8.same (((s89.trans s910).trans sX).trans sm12)
  -- one less
  refine ⟨.ref l2, rfl, l2, ys, rfl, .inl (SqL.of hl12), _, 1, rfl, rfl, _, rfl, ite2 (fun e => ?_) (fun _ => rfl)⟩
  have two : 2 ≤ ys.length := by
    have := of_decide_eq_true e
    omega
  refine ⟨fun σ' H' => ∃ j : Nat, σ' = [some (.ref a), some (.ref d), some (.ref l), some (.ref l2), some (.int M), some (.ref o), some (.ref g), y7, y8, some x9, some x10, some (.ref fl), y12, y13, some (.int j), none, none, none, none] ∧ j < ss.length ∧ Dq d q H12 H', ?_, ?_⟩
  · refine ⟨.ref d, rfl, .ref l2, rfl, l2, ys, rfl, .inl (SqL.of hl12), d, q, (ys.length : Int), rfl, D12, by omega, by omega, fun m H13 m0 m9 D13 dq => ?_⟩
    obtain ⟨j, rfl⟩ : ∃ j : Nat, m = (j : Int) := ⟨m.toNat, (Int.toNat_of_nonneg m0).symm⟩
    exact ⟨j, rfl, by omega, dq⟩
  rintro _ H13 ⟨j, rfl, jl, dq⟩
  have tk13 := D12.tk dq
  have rL13 := rL12.tk tk13
  have hl13 := dq _ _ hl12 a1 a2
  have S13' : Shs H13 ys ss := by
    have := S3.same s312
    exact ⟨this.len, fun i x s a b => let ⟨t, p, e, z1, z2⟩ := this.at_ i x s a b; ⟨t, p, e, (tk13 _ _).1 z1, (tk13 _ _).1 z2⟩⟩
  have Gc : Goods high 8 (cutS ss j) := Gs.cut j
  have lc := cutS_len jl
  refine ⟨fun σ' H' => ∃ x15, σ' = [some (.ref a), some (.ref d), some (.ref l), some (.ref l2), some (.int M), some (.ref o), some (.ref g), y7, y8, some x9, some x10, some (.ref fl), y12, y13, some (.int j), some x15, none, none, none] ∧ Same H13 H' ∧ Res K H' x15 (cutS ss j) high M, ?_, ?_⟩
  · refine ⟨.ref l2, rfl, .int j, rfl, j, rfl, l2, ys, rfl, SqL.of hl13, fun m1 hm1 => ⟨.ref l2, rfl, .int j, rfl, _, 1, rfl, rfl, _, rfl, l2, ys, rfl, SqL.of (same_upd hm1 _ _ hl13), fun m2 hm2 => ?_⟩⟩
    have sA1 := same_upd (o := .lst (cutV ys none (some (j : Int)))) hm1
    have sA2 := same_upd (o := .lst (cutV ys (some ((j : Int) + 1)) none)) hm2
    have hA : (upd (upd H13 m1 (.lst (cutV ys none (some (j : Int))))) m2 (.lst (cutV ys (some ((j : Int) + 1)) none))) m1 = some (.lst (ys.take j)) := sA2 _ _ (by rw [upd_same, cutV_to])
    have hB : (upd (upd H13 m1 (.lst (cutV ys none (some (j : Int))))) m2 (.lst (cutV ys (some ((j : Int) + 1)) none))) m2 = some (.lst (ys.drop (j + 1))) := by
      rw [upd_same, show ((j : Int) + 1) = ((j + 1 : Nat) : Int) by omega, cutV_from]
    have sAB := sA1.trans sA2
    generalize upd (upd H13 m1 (.lst (cutV ys none (some (j : Int))))) m2 (.lst (cutV ys (some ((j : Int) + 1)) none)) = H14 at sAB hA hB
    refine ⟨m1, m2, _, _, rfl, rfl, hA, hB, ?_, fun z hz => ?_⟩
    · rw [List.length_take, List.length_drop]
      show _ ≤ 16777216
      omega
    have sZ := same_upd (o := .lst (ys.take j ++ ys.drop (j + 1))) hz
    have sc := shs_cut jl (S13'.same (sAB.trans sZ))
    exact ⟨z, high, _, cutS ss j, rfl, upd_same, sc, Gc, h1, by omega, by omega, by omega, fun o2 H15 no2 al2 s15 => ⟨.int M, rfl, o2, M, high, cutS ss j, rfl, al2, by omega, M1, by omega, fun H16 s16 z => ⟨.non, rfl, ((sAB.trans sZ).trans s15).trans s16, .inl ⟨rfl, z⟩⟩, fun t num wd v u H16 s16 nt pa pp => ⟨.ref t, rfl, ((sAB.trans sZ).trans s15).trans s16, .inr ⟨t, num, wd, v, u, rfl, pa, pp⟩⟩⟩⟩
  rintro _ H14 ⟨x15, rfl, s14, r15⟩
  have rL14 := rL13.same s14
  have Ec := Emb.cut jl high
  rcases r15 with ⟨rfl, z⟩ | ⟨t, num, wd, v, u, rfl, pa, pp⟩
  · exact ⟨.non, rfl, _, rfl, iteT rfl⟩
  · obtain ⟨q1, z1, q2, z2, ht, h1', P1, h2', P2⟩ := id pa
    rcases rL14 with ⟨rfl, zz⟩ | ⟨t', num', wd', v', u', rfl, pa', pp'⟩
    · exact (pp.nr.alone (Ec.alone zz)).elim
    · obtain ⟨q3, z3, q4, z4, ht', h3', P3, h4', P4⟩ := id pa'
      have le := (Ec.le pp.nr pp'.nr pp.nr.w2).1
      refine ⟨.ref t, rfl, _, rfl, iteF ⟨.ref t', rfl, _, rfl, iteT ⟨.ref t, rfl, t, _, 0, .int num, rfl, rfl, SqT.of ht, atI_nat (j := 0) rfl, .ref t', rfl, t', _, 0, .int num', rfl, rfl, SqT.of ht', atI_nat (j := 0) rfl, _, _, rfl, rfl, ?_⟩⟩⟩
      show V.bl (decide ((num' : Int) ≤ (num : Int))) = V.bl true
      rw [decide_eq_true (by omega)]
end
end Dt
namespace L2X
open PySem PySem.Spec PyProof.Rows L2 LamX
abbrev tabO : Obj := { cls := .none, data := .fields #[] }
abbrev lstO (vs : List Value) : Obj := { cls := .type "list", data := .seq vs.toArray }
/-- what is under watch when the law begins: the tables; the script, if the written part has it not -/
def beginH (K : PySem.W.Frag) (cs : List (Addr × Addr)) (a : Addr) (vs : List Value) (ns : List Int) : Hp := fun b =>
  if b ∈ cs.map (·.2) then some (.tbl #[]) else if b = a ∧ K.lookup a = none then some (.frz (lstO vs) (.lst (ns.map V.int))) else none
section
variable {P : Program} {w : World} {K : PySem.W.Frag} {mg mb : Str → Option Value} {fa a : Addr} {cs : List (Addr × Addr)} {s : Shared} {vs : List Value} {ns : List Int}
theorem begin_tab {p : Addr × Addr} (hp : p ∈ cs) : beginH K cs a vs ns p.2 = some (.tbl #[]) := by
  unfold beginH
  exact if_pos (List.mem_map.mpr ⟨p, hp, rfl⟩)
theorem begin_some {b : Addr} {u : HO} (e : beginH K cs a vs ns b = some u) : (b ∈ cs.map (·.2) ∧ u = .tbl #[]) ∨ (b = a ∧ K.lookup a = none ∧ u = .frz (lstO vs) (.lst (ns.map V.int))) := by
  unfold beginH at e
  split at e
  · rename_i h
    exact .inl ⟨h, (Option.some.inj e).symm⟩
  · split at e
    · rename_i h
      exact .inr ⟨h.1, h.2, (Option.some.inj e).symm⟩
    · cases e
theorem begin_none (hT : ∀ p ∈ cs, s.heap.get? p.2 = some tabO) (ha : s.heap.get? a = some (lstO vs)) {b : Addr} {o : Obj} (e : s.heap.get? b = some o) (n1 : o ≠ tabO) (n2 : o ≠ lstO vs) : beginH K cs a vs ns b = none := by
  cases q : beginH K cs a vs ns b with
  | none => rfl
  | some u =>
    exfalso
    rcases begin_some q with ⟨hm, _⟩ | ⟨rfl, _, _⟩
    · obtain ⟨p, hp, rfl⟩ := List.mem_map.mp hm
      rw [hT p hp] at e
      exact n1 (Option.some.inj e).symm
    · rw [ha] at e
      exact n2 (Option.some.inj e).symm
theorem law_callG (KX : K.In s.heap) (hns : s.heap.Ns mainGlobals mg) (hb : s.heap.Ns builtinsNs mb) (hbb : ∀ x : Str, x ≠ "__name__" → mb x = bootBuiltins x) (hlim : s.heap.NoLimit) (hg : s.gens = #[])
    (hT : ∀ p ∈ cs, s.heap.get? p.2 = some tabO) (nT : ∀ p ∈ cs, K.lookup p.2 = none) (C : ∀ p ∈ cs, PySem.W.CodeHd s.heap p.1 p.2)
    (hbm : ∃ (bm : Addr) (ob : Obj), mg "__builtins__" = some (.ref bm) ∧ bm ≠ builtinsNs ∧ s.heap.get? bm = some ob ∧ ob.cls = .type "module" ∧ ob.dict = some builtinsNs ∧ ob.data = .plain)
    (ha : s.heap.get? a = some (lstO vs)) (hi : IntsAre vs ns) (hl : ns.length ≤ sizeLine)
    (run : ∀ (base : Heap) (H : Hp), K.In base → base.Ns mainGlobals mg → (∀ p ∈ cs, TabB base mg p.1 p.2) → (∀ p ∈ cs, H p.2 = some (.tbl #[])) → SqL K H a (ns.map V.int) → Env0 P w K mg base callerA [] s H →
      codeAny (model P w) callerA (.call (.ref fa) ⟨[.ref a], []⟩) (CR L2.CX0 [] P w H s (fun v _ => v = .bl true) L2.E0) s) :
    codeAny (model P w) callerA (.call (.ref fa) ⟨[.ref a], []⟩) (fun r s' => r = .ok (.ret (.bool true)) ∧ OldK s.heap s'.heap ∧ s'.os = s.os ∧ AllBare s'.gens) s := by
  have rv := vals_ints hi
  have lv := hi.length
  generalize eH : beginH K cs a vs ns = H
  have tabs : ∀ p ∈ cs, H p.2 = some (.tbl #[]) := fun p hp => by rw [← eH]; exact begin_tab hp
  have off : ∀ {b : Addr} {o : Obj}, s.heap.get? b = some o → o ≠ tabO → o ≠ lstO vs → H b = none := fun e n1 n2 => by rw [← eH]; exact begin_none hT ha e n1 n2
  have isT : ∀ {b : Addr}, b ∈ cs.map (·.2) → s.heap.get? b = some tabO := by
    intro b hm
    obtain ⟨p, hp, rfl⟩ := List.mem_map.mp hm
    exact hT p hp
  have aT : a ∉ cs.map (·.2) := by
    intro hm
    have z := isT hm
    rw [ha] at z
    cases z
  -- the ground
  have nsK : ∀ {b : Addr} {m : Str → Option Value}, s.heap.Ns b m → (hidT s.heap H).Ns b m := by
    rintro b m ⟨o, es, ep, e, d, r⟩
    refine ⟨o, es, ep, hidT_get e (off e ?_ ?_), d, r⟩ <;> (rintro rfl; cases d)
  have inK : K.In (hidT s.heap H) := by
    intro b o e
    refine hidT_get (KX b o e) ?_
    cases q : H b with
    | none => rfl
    | some u =>
      exfalso
      rw [← eH] at q
      rcases begin_some q with ⟨hm, _⟩ | ⟨rfl, hk, _⟩
      · obtain ⟨p, hp, rfl⟩ := List.mem_map.mp hm
        rw [nT p hp] at e
        cases e
      · rw [hk] at e
        cases e
  have mod : L2.Mod K mg (hidT s.heap H) := by
    obtain ⟨mc, h1, h2⟩ := hlim
    exact ⟨inK, nsK hns, ⟨mb, nsK hb, hbb⟩, ⟨mc, nsK h1, h2⟩⟩
  have tabB : ∀ p ∈ cs, TabB (hidT s.heap H) mg p.1 p.2 := by
    intro p hp
    have tp := hT p hp
    obtain ⟨og, es, ep, gg, gd, _⟩ := id hns
    constructor
    · obtain ⟨o, us, file, tf, flags, tg, inF, text, tt, e1, r1, r2, r3, r4, r5, r6, r7, r8, hne⟩ := C p hp
      refine ⟨o, us, file, tf, flags, tg, inF, text, tt, hidT_get e1 (off e1 ?_ ?_), r1, r2, r3, r4, r5, r6, r7, r8, hne⟩
      · rintro rfl
        cases r2
        simp at r3
      · rintro rfl
        cases r2
    · obtain ⟨bm, ob, b1, b2, b3, b4, b5, b6⟩ := hbm
      refine ⟨bm, ob, b1, b2, ?_, ?_, hidT_get b3 (off b3 ?_ ?_), b4, b5, b6⟩
      · rintro rfl
        rw [gg] at b3
        cases b3
        rw [gd] at b6
        cases b6
      · rintro rfl
        rw [tp] at b3
        cases b3
        cases b6
      · rintro rfl
        cases b6
      · rintro rfl
        cases b6
    · intro z
      rw [z, tp] at gg
      cases gg
      cases gd
  have hokH : HOk P w H s.heap := by
    intro b u e
    rw [← eH] at e
    rcases begin_some e with ⟨hm, rfl⟩ | ⟨rfl, _, rfl⟩
    · exact isT hm
    · exact ⟨ha, by rw [List.length_map]; exact hl, vs, _, rv, ha⟩
  have sq : SqL K H a (ns.map V.int) := by
    cases hk : K.lookup a with
    | some o =>
      have z := KX a o hk
      rw [ha] at z
      cases z
      exact .inr ⟨_, vs.toArray, _, hk, rfl, rfl, rfl, by rw [List.size_toArray, lv]; exact hl, by simpa using rv⟩
    | none =>
      refine .inl (.inr ⟨lstO vs, ?_⟩)
      rw [← eH]
      unfold beginH
      rw [if_neg aT, if_pos ⟨rfl, hk⟩]
  have e0 : Env0 P w K mg (hidT s.heap H) callerA [] s H :=
    by
    constructor
    · rfl
    · exact mod
    · exact fun b o e => of_hidT e
    · exact Nat.le_of_eq (hidT_size _ _)
    · trivial
    · exact fun b hb => nomatch (show b ∈ ([] : List Addr) from hb)
    · exact hokH
    · exact .of_eq hg
  refine codeAny_mono (run _ H inK (nsK hns) tabB tabs sq e0) ?_
  rintro r s' h
  cases r with
  | error e => exact (show False from h).elim
  | ok fl =>
    cases fl with
    | next => exact False.elim h
    | brk => exact False.elim h
    | cont => exact False.elim h
    | ret u =>
      obtain ⟨v, H', os, bare, un, hok', rr, rfl⟩ := h
      obtain rfl : u = Value.bool true := rr
      have stay : ∀ b o, b ∉ cs.map (·.2) → s.heap.get? b = some o → s'.heap.get? b = some o := by
        intro b o nb e
        cases q : H b with
        | none => exact un.keep b o e q (fun z => nomatch z) (fun z => nomatch z)
        | some u =>
          have q2 := q
          rw [← eH] at q2
          rcases begin_some q2 with ⟨hm, _⟩ | ⟨rfl, _, rfl⟩
          · exact absurd hm nb
          · obtain ⟨z, _⟩ := hok' _ _ (un.frzs _ _ _ q)
            rw [ha] at e
            cases e
            exact z
      have grow : ∀ p ∈ cs, ∃ more : Array Value, s'.heap.get? p.2 = some { cls := .none, data := .fields more } := by
        intro p hp
        obtain ⟨more, z⟩ := un.tbls p.2 #[] (tabs p hp)
        exact ⟨_, hok' p.2 _ z⟩
      refine ⟨rfl, ⟨fun b o e => ?_, fun b o e => ?_⟩, os, bare⟩
      · by_cases hb : b ∈ cs.map (·.2)
        · obtain ⟨p, hp, rfl⟩ := List.mem_map.mp hb
          obtain ⟨more, hm⟩ := grow p hp
          rw [hT p hp] at e
          cases e
          exact .inr (.inl ⟨((C p hp).tab (hT p hp)).isCodeTable, rfl, #[], more, rfl, by rw [Array.empty_append]; exact hm⟩)
        · exact .inl (stay b o hb e)
      · by_cases hb : b ∈ cs.map (·.2)
        · obtain ⟨p, hp, rfl⟩ := List.mem_map.mp hb
          obtain ⟨more, hm⟩ := grow p hp
          exact ⟨_, hm⟩
        · exact ⟨o, stay b o hb e⟩
end
end L2X
namespace Dt
open PySem PySem.Spec PyProof.Rows L2 L2X LamX
abbrev BndT (nm : Str) (st : Stmt) (ps : List Str) : Prop := ∀ (kV doc pm : Value) (an : Option Addr) (cdv ct : Value) (us : List Value), us.length = ps.length → bindArgs (PySem.W.fnOf nm nm (defArgs st) (defBody st) (defScope st) .none kV doc pm an cdv ct) ⟨us, []⟩ = pure (ps.zip us)
abbrev BndM (nm qn : Str) (st : Stmt) (ps : List Str) : Prop := ∀ (kV doc pm : Value) (an : Option Addr) (cdv ct : Value) (us : List Value), us.length = ps.length → bindArgs (PySem.W.fnOf nm qn (defArgs st) (defBody st) (defScope st) .none kV doc pm an cdv ct) ⟨us, []⟩ = pure (ps.zip us)
theorem df_mk {K : PySem.W.Frag} {h : Heap} {mg : Str → Option Value} {nm : Str} {st : Stmt} {ps : List Str} {f : Addr} {oc : Value} {od an : Option Addr} {osl : Array (Option Value)} {kV doc pm cdv ct : Value} (X : K.In h) (G : h.Ns mainGlobals mg)
    (a : PySem.W.nsIn K mainGlobals nm = some (some (.ref f))) (l : K.lookup f = some ⟨oc, od, .func (PySem.W.fnOf nm nm (defArgs st) (defBody st) (defScope st) .none kV doc pm an cdv ct), osl⟩) (c : PySem.W.codeIn K cdv nm = true) (k : PySem.W.keepIn K (.ref f) = true) (hb : BndT nm st ps) : Df K mg nm st ps :=
  have F := fun_mk (st := st) l c k
  ⟨f, _, F, PySem.W.mg_of X G a, F.binds (ps := ps) hb⟩
/-- a method as it stands behind the top -/
structure Dm (K : PySem.W.Frag) (C : Addr) (nm qn : Str) (st : Stmt) (ps : List Str) : Prop where
  ex : ∃ f fd, Fun K nm qn st f fd ∧ Meth K C nm f ∧ Binds K fd ps []
theorem dm_mk {K : PySem.W.Frag} {C : Addr} {nm qn : Str} {st : Stmt} {ps : List Str} {f : Addr} {oc : Value} {od an : Option Addr} {osl : Array (Option Value)} {kV doc pm cdv ct : Value}
    (a : PySem.W.findIn K (.ref C) nm = some (some (.ref f))) (i : PySem.W.isFn K (.ref f) = true) (l : K.lookup f = some ⟨oc, od, .func (PySem.W.fnOf nm qn (defArgs st) (defBody st) (defScope st) .none kV doc pm an cdv ct), osl⟩) (c : PySem.W.codeIn K cdv qn = true) (k : PySem.W.keepIn K (.ref f) = true) (hb : BndM nm qn st ps) : Dm K C nm qn st ps :=
  have F := fun_mk (st := st) l c k
  ⟨f, _, F, ⟨a, i, k⟩, F.binds (ps := ps) hb⟩
theorem Mm.of {P : Program} {w : World} {K : PySem.W.Frag} {mg : Str → Option Value} {base : Heap} {k : Nat} {C : Addr} {nm qn : Str} {st : Stmt} {ps : List Str} {sp : Sp} (d : Dm K C nm qn st ps) (h : ∀ f fd, Fun K nm qn st f fd → FnOk P w K mg base CX0 k f fd ps sp) : Mm P w K mg base k C nm ps sp := by
  obtain ⟨f, fd, F, m, b⟩ := d.ex
  exact ⟨f, fd, h f fd F, m, b⟩
theorem gli_mk {K : PySem.W.Frag} {h : Heap} {mg : Str → Option Value} {nm : Str} {i : Int} {t : Tok} (X : K.In h) (G : h.Ns mainGlobals mg) (a : PySem.W.nsIn K mainGlobals nm = some (some (.int i t))) : ∃ t, mg nm = some (.int i t) := ⟨t, PySem.W.mg_of X G a⟩
theorem exN_mk {K : PySem.W.Frag} {h : Heap} {mg : Str → Option Value} {nm : Str} {C : Addr} (X : K.In h) (G : h.Ns mainGlobals mg) (a : PySem.W.nsIn K mainGlobals nm = some (some (.ref C))) (x : PySem.W.excIn K C [.type "ValueError", .type "Exception", .type "BaseException", .type "object"] "ValueError.__new__" = true) (k : PySem.W.keepIn K (.ref C) = true) (b : PySem.W.subIn K (.ref C) (.type "BaseException") = some true) (t : PySem.W.typeIn K (.ref C) = some (.type "type")) : ExN K mg nm C :=
  ⟨PySem.W.mg_of X G a, x, k, b, t⟩
theorem noa {K : PySem.W.Frag} {C : Addr} {f : Str} (h : PySem.W.findIn K (.ref C) f = some none) : NoAttr K C f := h
theorem bnd0 : BndT "_law_begun" sDb ["script"] := fun _ _ _ _ _ _ us hl => match us, hl with | [_], _ => rfl
theorem bnd1 : BndT "_law_draw" sDw ["s", "top"] := fun _ _ _ _ _ _ us hl => match us, hl with | [_, _], _ => rfl
theorem bnd2 : BndT "_law_pick" sDp ["s", "some"] := fun _ _ _ _ _ _ us hl => match us, hl with | [_, _], _ => rfl
theorem bnd3 : BndT "_law_signs" sSg2 ["s", "many"] := fun _ _ _ _ _ _ us hl => match us, hl with | [_, _], _ => rfl
theorem bnd4 : BndT "_law_columns" sCl ["s", "high", "wide"] := fun _ _ _ _ _ _ us hl => match us, hl with | [_, _, _], _ => rfl
theorem bnd5 : BndT "_law_rows" sLr ["columns"] := fun _ _ _ _ _ _ us hl => match us, hl with | [_], _ => rfl
theorem bnd6 : BndT "_law_turned" sLt ["columns", "at", "k"] := fun _ _ _ _ _ _ us hl => match us, hl with | [_, _, _], _ => rfl
theorem bnd7 : BndT "_law_shapes" sLs ["s", "high", "many", "wide"] := fun _ _ _ _ _ _ us hl => match us, hl with | [_, _, _, _], _ => rfl
theorem bnd8 : BndT "_law_named" sNm ["s", "shapes"] := fun _ _ _ _ _ _ us hl => match us, hl with | [_, _], _ => rfl
theorem bnd9 : BndT "_law_tall" sTa ["pairs"] := fun _ _ _ _ _ _ us hl => match us, hl with | [_], _ => rfl
theorem bnd10 : BndT "_law_thin" sTn ["s", "wide"] := fun _ _ _ _ _ _ us hl => match us, hl with | [_, _], _ => rfl
theorem bnd11 : BndT "law" sLaw ["script"] := fun _ _ _ _ _ _ us hl => match us, hl with | [_], _ => rfl
theorem bnd12 : BndT "is_text" sIsText ["thing"] := fun _ _ _ _ _ _ us hl => match us, hl with | [_], _ => rfl
theorem bnd13 : BndT "_is_row" sIsRow ["thing"] := fun _ _ _ _ _ _ us hl => match us, hl with | [_], _ => rfl
theorem bnd14 : BndT "is_picture" sIsPic ["thing"] := fun _ _ _ _ _ _ us hl => match us, hl with | [_], _ => rfl
theorem bnd15 : BndT "want_picture" sWant ["thing"] := fun _ _ _ _ _ _ us hl => match us, hl with | [_], _ => rfl
theorem bnd16 : BndT "size" sSize ["picture"] := fun _ _ _ _ _ _ us hl => match us, hl with | [_], _ => rfl
theorem bnd17 : BndT "is_number" sIsNum ["thing"] := fun _ _ _ _ _ _ us hl => match us, hl with | [_], _ => rfl
theorem bnd18 : BndT "is_between" sBetw ["thing", "least", "most"] := fun _ _ _ _ _ _ us hl => match us, hl with | [_, _, _], _ => rfl
theorem bnd19 : BndT "is_list" sIsList ["thing"] := fun _ _ _ _ _ _ us hl => match us, hl with | [_], _ => rfl
theorem bnd20 : BndT "is_tuple" sIsTup ["thing", "many"] := fun _ _ _ _ _ _ us hl => match us, hl with | [_, _], _ => rfl
theorem bnd21 : BndT "dots" sDots ["picture"] := fun _ _ _ _ _ _ us hl => match us, hl with | [_], _ => rfl
theorem bnd22 : BndT "is_sign" sSg ["thing"] := fun _ _ _ _ _ _ us hl => match us, hl with | [_], _ => rfl
theorem bnd23 : BndT "_is_shape" sIS ["thing", "high"] := fun _ _ _ _ _ _ us hl => match us, hl with | [_, _], _ => rfl
theorem bnd24 : BndT "_is_picture_of" sIPO ["picture", "shapes"] := fun _ _ _ _ _ _ us hl => match us, hl with | [_, _], _ => rfl
theorem bnd25 : BndT "want_line" sWL ["alphabet", "thing"] := fun _ _ _ _ _ _ us hl => match us, hl with | [_, _], _ => rfl
theorem bnd26 : BndT "columns_of" sCO ["rows"] := fun _ _ _ _ _ _ us hl => match us, hl with | [_], _ => rfl
theorem bnd27 : BndT "_number_of" sNO ["column"] := fun _ _ _ _ _ _ us hl => match us, hl with | [_], _ => rfl
theorem bnd28 : BndT "column_numbers" sCN ["picture"] := fun _ _ _ _ _ _ us hl => match us, hl with | [_], _ => rfl
theorem bnd29 : BndT "dot_counts" sDC ["high"] := fun _ _ _ _ _ _ us hl => match us, hl with | [_], _ => rfl
theorem bnd30 : BndT "white_cost" sWC ["line"] := fun _ _ _ _ _ _ us hl => match us, hl with | [_], _ => rfl
theorem bnd31 : BndT "_windows_at" sWT ["column", "drawn", "shapes", "counts"] := fun _ _ _ _ _ _ us hl => match us, hl with | [_, _, _, _], _ => rfl
theorem bnd32 : BndT "window_costs" sWW ["alphabet", "line"] := fun _ _ _ _ _ _ us hl => match us, hl with | [_, _], _ => rfl
theorem bnd33 : BndT "_state" sSt ["at", "white", "blank"] := fun _ _ _ _ _ _ us hl => match us, hl with | [_, _, _], _ => rfl
theorem bnd34 : BndT "_known_from" sKf ["beginning", "begun", "alphabet", "prices", "blank"] := fun _ _ _ _ _ _ us hl => match us, hl with | [_, _, _, _, _], _ => rfl
theorem bnd35 : BndT "set_ahead" sSA ["window", "more", "way"] := fun _ _ _ _ _ _ us hl => match us, hl with | [_, _, _], _ => rfl
theorem bnd36 : BndT "_known_windows" sKw ["known", "here"] := fun _ _ _ _ _ _ us hl => match us, hl with | [_, _], _ => rfl
theorem bnd37 : BndT "_ways" sWys ["alphabet", "line"] := fun _ _ _ _ _ _ us hl => match us, hl with | [_, _], _ => rfl
theorem bnd38 : BndT "want_next" sWnx ["thing"] := fun _ _ _ _ _ _ us hl => match us, hl with | [_], _ => rfl
theorem bnd39 : BndT "want_reading" sWR ["alphabet", "columns", "thing"] := fun _ _ _ _ _ _ us hl => match us, hl with | [_, _, _], _ => rfl
theorem bnd40 : BndT "_is_window" sIW ["alphabet", "thing", "edge", "columns"] := fun _ _ _ _ _ _ us hl => match us, hl with | [_, _, _, _], _ => rfl
theorem bnd41 : BndT "_row_drawn" sRD ["pictures", "wide", "reading", "row"] := fun _ _ _ _ _ _ us hl => match us, hl with | [_, _, _, _], _ => rfl
theorem bnd42 : BndT "drawn" sDr ["alphabet", "wide", "reading"] := fun _ _ _ _ _ _ us hl => match us, hl with | [_, _, _], _ => rfl
theorem bnd43 : BndT "next_ones" sNo1 ["alphabet", "line", "k"] := fun _ _ _ _ _ _ us hl => match us, hl with | [_, _, _], _ => rfl
theorem bnd44 : BndT "_steps" sSps ["alphabet"] := fun _ _ _ _ _ _ us hl => match us, hl with | [_], _ => rfl
theorem bnd45 : BndT "_nearest" sNe ["alphabet", "most"] := fun _ _ _ _ _ _ us hl => match us, hl with | [_, _], _ => rfl
theorem bnd46 : BndT "parting" sPt ["alphabet", "most"] := fun _ _ _ _ _ _ us hl => match us, hl with | [_, _], _ => rfl
theorem bnd47 : BndT "_law_shown" sSh ["tall", "told", "most"] := fun _ _ _ _ _ _ us hl => match us, hl with | [_, _, _], _ => rfl
theorem bnd48 : BndT "_unlike_signs" sUS ["row", "other"] := fun _ _ _ _ _ _ us hl => match us, hl with | [_, _], _ => rfl
theorem bnd49 : BndT "unlike" sUnlP ["one", "other"] := fun _ _ _ _ _ _ us hl => match us, hl with | [_, _], _ => rfl
theorem bnm0 : BndM "__init__" "Alphabet.__init__" sAI ["self", "high", "shapes"] := fun _ _ _ _ _ _ us hl => match us, hl with | [_, _, _], _ => rfl
theorem bnm1 : BndM "high" "Alphabet.high" sAH ["self"] := fun _ _ _ _ _ _ us hl => match us, hl with | [_], _ => rfl
theorem bnm2 : BndM "shapes" "Alphabet.shapes" sAS ["self"] := fun _ _ _ _ _ _ us hl => match us, hl with | [_], _ => rfl
theorem bnm3 : BndM "wide" "Alphabet.wide" sAW ["self", "number"] := fun _ _ _ _ _ _ us hl => match us, hl with | [_, _], _ => rfl
theorem bnm4 : BndM "_want_number" "Alphabet._want_number" sAN ["self", "number"] := fun _ _ _ _ _ _ us hl => match us, hl with | [_, _], _ => rfl
theorem bnm5 : BndM "__len__" "Alphabet.__len__" sALn ["self"] := fun _ _ _ _ _ _ us hl => match us, hl with | [_], _ => rfl
theorem bnm6 : BndM "__init__" "Spelling.__init__" sSI ["self", "alphabet", "words", "strange", "blank"] := fun _ _ _ _ _ _ us hl => match us, hl with | [_, _, _, _, _], _ => rfl
theorem bnm7 : BndM "__init__" "Ways.__init__" sWI ["self", "alphabet", "line", "spelling"] := fun _ _ _ _ _ _ us hl => match us, hl with | [_, _, _, _], _ => rfl
theorem bnm8 : BndM "_weighed" "Ways._weighed" sWg ["self"] := fun _ _ _ _ _ _ us hl => match us, hl with | [_], _ => rfl
theorem bnm9 : BndM "_first_windows" "Ways._first_windows" sFW ["self", "column", "rest"] := fun _ _ _ _ _ _ us hl => match us, hl with | [_, _, _], _ => rfl
theorem bnm10 : BndM "step" "Spelling.step" sStp ["self", "beginning", "number"] := fun _ _ _ _ _ _ us hl => match us, hl with | [_, _, _], _ => rfl
theorem bnm11 : BndM "first_ones" "Ways.first_ones" sFo ["self", "many"] := fun _ _ _ _ _ _ us hl => match us, hl with | [_, _], _ => rfl
theorem bnm12 : BndM "_branches" "Ways._branches" sBs ["self", "column", "state", "paid", "begun"] := fun _ _ _ _ _ _ us hl => match us, hl with | [_, _, _, _, _], _ => rfl
theorem bnm13 : BndM "_branch" "Ways._branch" sBr ["self", "column", "state", "paid", "begun"] := fun _ _ _ _ _ _ us hl => match us, hl with | [_, _, _, _, _], _ => rfl
theorem bnm14 : BndM "told" "Ways.told" sTo ["self", "way"] := fun _ _ _ _ _ _ us hl => match us, hl with | [_, _], _ => rfl
theorem bnm15 : BndM "__init__" "Pairs.__init__" sPI ["self", "alphabet"] := fun _ _ _ _ _ _ us hl => match us, hl with | [_, _], _ => rfl
theorem bnm16 : BndM "first_unlike" "Pairs.first_unlike" sPF ["self"] := fun _ _ _ _ _ _ us hl => match us, hl with | [_], _ => rfl
theorem bnm17 : BndM "widen" "Pairs.widen" sPW ["self"] := fun _ _ _ _ _ _ us hl => match us, hl with | [_], _ => rfl
theorem bnm18 : BndM "_joined" "Pairs._joined" sPJ ["self", "one", "other"] := fun _ _ _ _ _ _ us hl => match us, hl with | [_, _, _], _ => rfl
structure AllD (K : PySem.W.Frag) (mg : Str → Option Value) (CA CS CW CR : Addr) : Prop where
  d0 : Df K mg "_law_begun" sDb ["script"]
  d1 : Df K mg "_law_draw" sDw ["s", "top"]
  d2 : Df K mg "_law_pick" sDp ["s", "some"]
  d3 : Df K mg "_law_signs" sSg2 ["s", "many"]
  d4 : Df K mg "_law_columns" sCl ["s", "high", "wide"]
  d5 : Df K mg "_law_rows" sLr ["columns"]
  d6 : Df K mg "_law_turned" sLt ["columns", "at", "k"]
  d7 : Df K mg "_law_shapes" sLs ["s", "high", "many", "wide"]
  d8 : Df K mg "_law_named" sNm ["s", "shapes"]
  d9 : Df K mg "_law_tall" sTa ["pairs"]
  d10 : Df K mg "_law_thin" sTn ["s", "wide"]
  d11 : Df K mg "law" sLaw ["script"]
  d12 : Df K mg "is_text" sIsText ["thing"]
  d13 : Df K mg "_is_row" sIsRow ["thing"]
  d14 : Df K mg "is_picture" sIsPic ["thing"]
  d15 : Df K mg "want_picture" sWant ["thing"]
  d16 : Df K mg "size" sSize ["picture"]
  d17 : Df K mg "is_number" sIsNum ["thing"]
  d18 : Df K mg "is_between" sBetw ["thing", "least", "most"]
  d19 : Df K mg "is_list" sIsList ["thing"]
  d20 : Df K mg "is_tuple" sIsTup ["thing", "many"]
  d21 : Df K mg "dots" sDots ["picture"]
  d22 : Df K mg "is_sign" sSg ["thing"]
  d23 : Df K mg "_is_shape" sIS ["thing", "high"]
  d24 : Df K mg "_is_picture_of" sIPO ["picture", "shapes"]
  d25 : Df K mg "want_line" sWL ["alphabet", "thing"]
  d26 : Df K mg "columns_of" sCO ["rows"]
  d27 : Df K mg "_number_of" sNO ["column"]
  d28 : Df K mg "column_numbers" sCN ["picture"]
  d29 : Df K mg "dot_counts" sDC ["high"]
  d30 : Df K mg "white_cost" sWC ["line"]
  d31 : Df K mg "_windows_at" sWT ["column", "drawn", "shapes", "counts"]
  d32 : Df K mg "window_costs" sWW ["alphabet", "line"]
  d33 : Df K mg "_state" sSt ["at", "white", "blank"]
  d34 : Df K mg "_known_from" sKf ["beginning", "begun", "alphabet", "prices", "blank"]
  d35 : Df K mg "set_ahead" sSA ["window", "more", "way"]
  d36 : Df K mg "_known_windows" sKw ["known", "here"]
  d37 : Df K mg "_ways" sWys ["alphabet", "line"]
  d38 : Df K mg "want_next" sWnx ["thing"]
  d39 : Df K mg "want_reading" sWR ["alphabet", "columns", "thing"]
  d40 : Df K mg "_is_window" sIW ["alphabet", "thing", "edge", "columns"]
  d41 : Df K mg "_row_drawn" sRD ["pictures", "wide", "reading", "row"]
  d42 : Df K mg "drawn" sDr ["alphabet", "wide", "reading"]
  d43 : Df K mg "next_ones" sNo1 ["alphabet", "line", "k"]
  d44 : Df K mg "_steps" sSps ["alphabet"]
  d45 : Df K mg "_nearest" sNe ["alphabet", "most"]
  d46 : Df K mg "parting" sPt ["alphabet", "most"]
  d47 : Df K mg "_law_shown" sSh ["tall", "told", "most"]
  d48 : Df K mg "_unlike_signs" sUS ["row", "other"]
  d49 : Df K mg "unlike" sUnlP ["one", "other"]
  m0 : Dm K CA "__init__" "Alphabet.__init__" sAI ["self", "high", "shapes"]
  m1 : Dm K CA "high" "Alphabet.high" sAH ["self"]
  m2 : Dm K CA "shapes" "Alphabet.shapes" sAS ["self"]
  m3 : Dm K CA "wide" "Alphabet.wide" sAW ["self", "number"]
  m4 : Dm K CA "_want_number" "Alphabet._want_number" sAN ["self", "number"]
  m5 : Dm K CA "__len__" "Alphabet.__len__" sALn ["self"]
  m6 : Dm K CS "__init__" "Spelling.__init__" sSI ["self", "alphabet", "words", "strange", "blank"]
  m7 : Dm K CW "__init__" "Ways.__init__" sWI ["self", "alphabet", "line", "spelling"]
  m8 : Dm K CW "_weighed" "Ways._weighed" sWg ["self"]
  m9 : Dm K CW "_first_windows" "Ways._first_windows" sFW ["self", "column", "rest"]
  m10 : Dm K CS "step" "Spelling.step" sStp ["self", "beginning", "number"]
  m11 : Dm K CW "first_ones" "Ways.first_ones" sFo ["self", "many"]
  m12 : Dm K CW "_branches" "Ways._branches" sBs ["self", "column", "state", "paid", "begun"]
  m13 : Dm K CW "_branch" "Ways._branch" sBr ["self", "column", "state", "paid", "begun"]
  m14 : Dm K CW "told" "Ways.told" sTo ["self", "way"]
  m15 : Dm K CR "__init__" "Pairs.__init__" sPI ["self", "alphabet"]
  m16 : Dm K CR "first_unlike" "Pairs.first_unlike" sPF ["self"]
  m17 : Dm K CR "widen" "Pairs.widen" sPW ["self"]
  m18 : Dm K CR "_joined" "Pairs._joined" sPJ ["self", "one", "other"]
structure AllN (K : PySem.W.Frag) (mg : Str → Option Value) (C CP CA CS CW CR : Addr) : Prop where
  z0 : mg "len" = none
  z1 : mg "range" = none
  z2 : mg "tuple" = none
  z3 : mg "list" = none
  z4 : mg "int" = none
  z5 : mg "type" = none
  z6 : mg "str" = none
  z7 : mg "all" = none
  z8 : mg "any" = none
  z9 : mg "sum" = none
  z10 : mg "zip" = none
  z11 : mg "enumerate" = none
  z12 : mg "max" = none
  z13 : mg "min" = none
  z14 : mg "sorted" = none
  z15 : mg "reversed" = none
  z16 : mg "isinstance" = none
  z17 : mg "ValueError" = none
  z18 : mg "bool" = none
  i0 : ∃ t, mg "MOST_ROWS" = some (.int 60 t)
  i1 : ∃ t, mg "MOST_COLUMNS" = some (.int 120 t)
  i2 : ∃ t, mg "MOST_LINE_COLUMNS" = some (.int 60 t)
  i3 : ∃ t, mg "MOST_HIGH" = some (.int 9 t)
  i4 : ∃ t, mg "MOST_WIDE" = some (.int 8 t)
  i5 : ∃ t, mg "MOST_SHAPES" = some (.int 16 t)
  i6 : ∃ t, mg "MOST_NEXT" = some (.int 20 t)
  i7 : ∃ t, mg "FAR_parting" = some (.int 1000000 t)
  hpo : mg "heappop" = some (.builtin "_heapq.heappop")
  hpu : mg "heappush" = some (.builtin "_heapq.heappush")
  np : ExN K mg "NoPlace" CP
  n : Tn K mg C
  ta : Tal K mg CA
  sp : Tsp K mg CS
  tw : Twy K mg CW
  tp : Tpr K mg CR
  nw : NWy K mg
  ka : PySem.W.makesIn K CA = true
  la : PySem.W.keepIn K (.ref CA) = true
  ks : PySem.W.makesIn K CS = true
  ls : PySem.W.keepIn K (.ref CS) = true
  kw : PySem.W.makesIn K CW = true
  lw : PySem.W.keepIn K (.ref CW) = true
  kr : PySem.W.makesIn K CR = true
  lr : PySem.W.keepIn K (.ref CR) = true
/-- a tuple of the top: a number and the empty tuple -/
theorem nw_mk {K : PySem.W.Frag} {h : Heap} {mg : Str → Option Value} {t e : Addr} {tk : Tok} {n n2 : Nat} {od od2 : Option Addr} {i1 i2 : Array Value} {sl sl2 : Array (Option Value)} (X : K.In h) (G : h.Ns mainGlobals mg) (a : PySem.W.nsIn K mainGlobals "NO_WAY" = some (some (.ref t)))
    (l : K.lookup t = some ⟨.type "tuple", od, .seq i1 n, sl⟩) (e1 : i1.toList = [.int 1000000 tk, .ref e]) (l2 : K.lookup e = some ⟨.type "tuple", od2, .seq i2 n2, sl2⟩) (e2 : i2.toList = []) : NWy K mg := by
  have z1 : i1.size = 2 := by rw [← Array.length_toList, e1]; rfl
  have z2 : i2.size = 0 := by rw [← Array.length_toList, e2]; rfl
  refine ⟨t, PySem.W.mg_of X G a, fun H => ⟨t, e, [], rfl, .inr ⟨_, i1, n, l, rfl, rfl, by rw [z1]; decide, ?_⟩, .inr ⟨_, i2, n2, l2, rfl, rfl, by rw [z2]; decide, ?_⟩, rfl, fun i x p q => nomatch q⟩⟩
  · rw [e1]
    exact .cons ⟨tk, rfl⟩ (.cons rfl .nil)
  · rw [e2]
    exact .nil
section
variable {P : Program} {w : World} {K : PySem.W.Frag} {mg : Str → Option Value} {base : Heap} {C CP CA CS CW CR : Addr}
theorem facts (D : AllD K mg CA CS CW CR) (N : AllN K mg C CP CA CS CW CR) : LawFs P w K mg base CA := by
  have X : Tx mg := ⟨N.z0, N.z1, N.z2, N.z3, N.z4⟩
  have T : Tp mg := ⟨N.z5, N.z6, N.z7, N.i0, N.i1⟩
  have isT : ∀ k, Pm P w K mg base CX0 (k + 1) "is_text" ["thing"] (spIsText K) := fun k => .of D.d12 fun f fd F => ok_isText F T
  have isR : ∀ k, Pm P w K mg base CX0 (k + 2) "_is_row" ["thing"] (spIsRow K) := fun k => .of D.d13 fun f fd F => by
    obtain ⟨_, _, G, m, kp, b⟩ := (isT k).ex
    exact ok_isRow F T X G m kp b
  have isP : ∀ k, Pm P w K mg base CX0 (k + 3) "is_picture" ["thing"] (spIsPic K) := fun k => .of D.d14 fun f fd F => by
    obtain ⟨_, _, G, m, kp, b⟩ := (isR k).ex
    exact ok_isPic (k := k + 1) F T X G m kp b
  have wnt : ∀ k, GW P w K mg base C (k + 4) := fun k => by
    obtain ⟨fW, fdW, FW, mW, bW⟩ := (D.d15).ex
    obtain ⟨_, _, G, m, kp, b⟩ := (isP k).ex
    exact ⟨fW, fdW, ok_want (k := k + 2) FW N.n G m kp b, mW, FW.kp, bW⟩
  have siz : ∀ k, GS P w K mg base C (k + 5) := fun k => by
    obtain ⟨f, fd, F, m, b⟩ := (D.d16).ex
    exact ⟨f, fd, ok_size (k := k + 3) F X (wnt k), m, F.kp, b⟩
  have isN : ∀ k, Pm P w K mg base CX0 (k + 1) "is_number" ["thing"] (spIsNum K) := fun k => .of D.d17 fun f fd F => ok_isNum F T X
  have btw : ∀ k, Pm P w K mg base CX0 (k + 2) "is_between" ["thing", "least", "most"] (spBetw K) := fun k => .of D.d18 fun f fd F => by
    obtain ⟨_, _, G, m, kp, b⟩ := (isN k).ex
    exact ok_betw F G m kp b
  have isL : ∀ k, Pm P w K mg base CX0 (k + 1) "is_list" ["thing"] (spIsList K) := fun k => .of D.d19 fun f fd F => ok_isList F T X
  have isU : ∀ k, Pm P w K mg base CX0 (k + 1) "is_tuple" ["thing", "many"] (spIsTup K) := fun k => .of D.d20 fun f fd F => ok_isTup F T X
  have dts : ∀ k, Pm P w K mg base (L2.CX P w) (k + 5) "dots" ["picture"] (spDots K) := fun k => .of D.d21 fun f fd F => ok_dots (k := k + 3) F N.z11 (wnt k)
  have sgn : ∀ k, Pm P w K mg base CX0 (k + 2) "is_sign" ["thing"] spSg := fun k => .of D.d22 fun f fd F => ok_sg F X (isT k)
  have ish : ∀ k, Pm P w K mg base CX0 (k + 6) "_is_shape" ["thing", "high"] spIS := fun k => .of D.d23 fun f fd F => ok_is (k := k + 4) F X N.i4 (isU (k + 4)) (sgn (k + 3)) (isP (k + 2)) (siz k) (dts k)
  have ipo : ∀ k, Pm P w K mg base CX0 (k + 1) "_is_picture_of" ["picture", "shapes"] spIPO := fun k => .of D.d24 fun f fd F => ok_ipo F N.z8
  have ahi : ∀ k, Mm P w K mg base (k + 1) CA "high" ["self"] (spAH CA) := fun k => .of D.m1 fun f fd F => ok_ah F N.ta
  have ash : ∀ k, Mm P w K mg base (k + 1) CA "shapes" ["self"] (spAS CA) := fun k => .of D.m2 fun f fd F => ok_as F X N.ta
  have anu : ∀ k, Mm P w K mg base (k + 3) CA "_want_number" ["self", "number"] (spAN CA) := fun k => .of D.m4 fun f fd F => ok_an (k := k + 1) F X N.ta (btw k)
  have awi : ∀ k, Mm P w K mg base (k + 6) CA "wide" ["self", "number"] (spAW CA) := fun k => .of D.m3 fun f fd F => ok_aw (k := k + 4) F N.ta (siz k) (anu (k + 2))
  have wli : ∀ k, Pm P w K mg base CX0 (k + 6) "want_line" ["alphabet", "thing"] (spWL CA) := fun k => .of D.d25 fun f fd F => ok_wl (k := k + 4) F N.ta N.i2 (isP (k + 2)) (siz k) (ahi (k + 4))
  have Z : Tz mg := ⟨N.z9, N.z10⟩
  have uns : ∀ k, Pm P w K mg base CX0 (k + 1) "_unlike_signs" ["row", "other"] spUS := fun k => .of D.d48 fun f fd F => ok_US F Z
  have unl : ∀ k, Pm P w K mg base (L2.CX P w) (k + 6) "unlike" ["one", "other"] (spUnlP CP) := fun k => .of D.d49 fun f fd F => by
    obtain ⟨_, _, G, m, kp, b⟩ := (uns (k + 4)).ex
    exact ok_unlP (fW := f) (fS := f) (fdW := fd) (fdS := fd) (k := k + 4) F Z N.np (wnt (k + 1)) (siz k) G m kp b
  have aln : ∀ k, Mm P w K mg base (k + 1) CA "__len__" ["self"] (spALn CA) := fun k => .of D.m5 fun f fd F => ok_aln F X N.ta
  have iwi : ∀ k, Pm P w K mg base CX0 (k + 7) "_is_window" ["alphabet", "thing", "edge", "columns"] (spIWr K CA) := fun k => .of D.d40 fun f fd F => ok_iwr (k := k + 4) F X N.ta (isU (k + 5)) (btw (k + 4)) (aln (k + 4)) (awi k)
  have wrr : ∀ k, Pm P w K mg base CX0 (k + 8) "want_reading" ["alphabet", "columns", "thing"] (spWRr K CA) := fun k => .of D.d39 fun f fd F => ok_wrr (k := k + 6) F X T N.ta (iwi k) (awi (k + 1))
  have rdw : ∀ k, Pm P w K mg base CX0 (k + 1) "_row_drawn" ["pictures", "wide", "reading", "row"] (spRD K) := fun k => .of D.d41 fun f fd F => ok_rd F
  have drw : ∀ k, Pm P w K mg base CX0 (k + 9) "drawn" ["alphabet", "wide", "reading"] (spDrr K CA) := fun k => .of D.d42 fun f fd F => ok_drr (k := k + 7) F X N.ta N.i2 (wrr k) (btw (k + 6)) (ash (k + 7)) (ahi (k + 7)) (rdw (k + 7))
  have cls : ∀ k, Pm P w K mg base CX0 (k + 1) "columns_of" ["rows"] spCO := fun k => .of D.d26 fun f fd F => ok_CO F X N.z10
  have nof : ∀ k, Pm P w K mg base CX0 (k + 1) "_number_of" ["column"] spNO := fun k => .of D.d27 fun f fd F => ok_no F
  have cnu : ∀ k, Pm P w K mg base CX0 (k + 2) "column_numbers" ["picture"] spCN := fun k => .of D.d28 fun f fd F => ok_cn F (cls k) (nof k)
  have dco : ∀ k, Pm P w K mg base CX0 (k + 1) "dot_counts" ["high"] spDC := fun k => .of D.d29 fun f fd F => ok_dc F X
  have wco : ∀ k, Pm P w K mg base CX0 (k + 1) "white_cost" ["line"] spWC := fun k => .of D.d30 fun f fd F => ok_wc F N.z9
  have wat : ∀ k, Pm P w K mg base CX0 (k + 1) "_windows_at" ["column", "drawn", "shapes", "counts"] spWT := fun k => .of D.d31 fun f fd F => ok_wt F X N.z11 N.z9 N.z10
  have wcs : ∀ k, Pm P w K mg base CX0 (k + 3) "window_costs" ["alphabet", "line"] (spWW CA) := fun k => .of D.d32 fun f fd F => ok_ww (k := k + 1) F X N.ta (ash (k + 1)) (ahi (k + 1)) (dco (k + 1)) (cnu k) (wat (k + 1))
  have sta : ∀ k, Pm P w K mg base CX0 (k + 1) "_state" ["at", "white", "blank"] spSt := fun k => .of D.d33 fun f fd F => ok_st F
  have knf : ∀ k, Pm P w K mg base CX0 (k + 2) "_known_from" ["beginning", "begun", "alphabet", "prices", "blank"] (spKf CA) := fun k => .of D.d34 fun f fd F => ok_kf F N.ta N.z11 (ash k) (sta k)
  have sah : ∀ k, Pm P w K mg base CX0 (k + 1) "set_ahead" ["window", "more", "way"] (spSA K) := fun k => .of D.d35 fun f fd F => ok_sa F
  have knw : ∀ k, Pm P w K mg base CX0 (k + 1) "_known_windows" ["known", "here"] spKw := fun k => .of D.d36 fun f fd F => ok_kw F
  have fwi : ∀ k, Mm P w K mg base (k + 2) CW "_first_windows" ["self", "column", "rest"] (spFW K CW CS) := fun k => .of D.m9 fun f fd F => ok_fw F N.tw N.sp N.nw N.z13 N.z10 (sah k) (knw k)
  have wei : ∀ k, Mm P w K mg base (k + 3) CW "_weighed" ["self"] (spWg K CW CS) := fun k => .of D.m8 fun f fd F => ok_wg (k := k + 1) F X N.tw N.sp N.z13 N.z10 N.z15 (fwi k)
  have tol : ∀ k, Mm P w K mg base (k + 1) CW "told" ["self", "way"] (spTo K CW CS) := fun k => .of D.m14 fun f fd F => ok_to F N.tw
  have stp : ∀ k, Mm P w K mg base (k + 1) CS "step" ["self", "beginning", "number"] (spStp CS) := fun k => .of D.m10 fun f fd F => ok_stp F N.sp
  have brn : ∀ k, Mm P w K mg base (k + 1) CW "_branch" ["self", "column", "state", "paid", "begun"] (spBr K CW CS) := fun k => .of D.m13 fun f fd F => ok_br F N.tw
  have brs : ∀ k, Mm P w K mg base (k + 2) CW "_branches" ["self", "column", "state", "paid", "begun"] (spBs K CW CS) := fun k => .of D.m12 fun f fd F => ok_bs F N.tw N.sp (brn k) (stp k)
  have fon : ∀ k, Mm P w K mg base (k + 3) CW "first_ones" ["self", "many"] (spFo K CW CS) := fun k => .of D.m11 fun f fd F => ok_fo (k := k + 1) F X N.tw N.hpo N.hpu (brn (k + 1)) (brs k) (tol (k + 1))
  obtain ⟨fI, fdI, FI, mI, bI⟩ := (D.m0).ex
  obtain ⟨fS, fdS, FS, mS, bS⟩ := (D.m6).ex
  obtain ⟨fW, fdW, FW, mW, bW⟩ := (D.m7).ex
  have GS : ∀ k, FnOk P w K mg base CX0 (k + 3) fS fdS ["self", "alphabet", "words", "strange", "blank"] (spSI CS CA) := fun k => ok_si (k := k + 1) FS X N.sp N.z14 (sta (k + 1)) (knf k)
  have GW : ∀ k, FnOk P w K mg base CX0 (k + 4) fW fdW ["self", "alphabet", "line", "spelling"] (spWI K CW CA CS) := fun k => ok_wi2 (k := k + 2) FW N.tw (wco (k + 2)) (wcs k) (wei k)
  have wys : ∀ k, Pm P w K mg base CX0 (k + 6) "_ways" ["alphabet", "line"] (spWys K CW CA CS) := fun k => .of D.d37 fun f fd F => ok_wys (k := k + 3) F N.tw N.sp ⟨N.kw, mW.at_, mW.fn, N.lw⟩ ⟨N.ks, mS.at_, mS.fn, N.ls⟩ (GW k) (GS (k + 1)) bW bS
  have wnx : ∀ k, Pm P w K mg base CX0 (k + 3) "want_next" ["thing"] spWnx := fun k => .of D.d38 fun f fd F => ok_wnx (k := k + 1) F N.i6 (btw k)
  have noo : ∀ k, Pm P w K mg base CX0 (k + 7) "next_ones" ["alphabet", "line", "k"] (spNo1 K CA) := fun k => .of D.d43 fun f fd F => ok_no1 (k := k + 5) F N.tw (wli k) (wnx (k + 3)) (wys k) (fon (k + 3))
  have GAI : ∀ k, FnOk P w K mg base CX0 (k + 9) fI fdI ["self", "high", "shapes"] (spAI CA) := fun k => ok_ai (k := k + 7) FI X N.ta N.z11 N.i3 N.i5 (btw (k + 6)) (isL (k + 7)) (ish (k + 2)) (ipo (k + 7))
  obtain ⟨fR, fdR, FR, mR, bR⟩ := (D.m15).ex
  have pjo : ∀ k, Mm P w K mg base (k + 1) CR "_joined" ["self", "one", "other"] (spPJ K CR) := fun k => .of D.m18 fun f fd F => ok_pj F N.tp
  have pfu : ∀ k, Mm P w K mg base (k + 2) CR "first_unlike" ["self"] (spPF K CR) := fun k => .of D.m16 fun f fd F => ok_pf F N.tp N.z13 (pjo k)
  have pwi : ∀ k, Mm P w K mg base (k + 2) CR "widen" ["self"] (spPW K CR) := fun k => .of D.m17 fun f fd F => ok_pw F N.tp N.z13 (pjo k)
  have sps : ∀ k, Pm P w K mg base CX0 (k + 3) "_steps" ["alphabet"] (spSps CA) := fun k => .of D.d44 fun f fd F => ok_sps (k := k + 1) F X N.ta N.z11 N.z10 (ash (k + 1)) (cnu k)
  have GRI : ∀ k, FnOk P w K mg base CX0 (k + 4) fR fdR ["self", "alphabet"] (spPI K CR CA) := fun k => ok_pi (k := k + 2) FR N.tp N.ta N.i7 (ahi (k + 2)) (dco (k + 2)) (sps k)
  have nea : Pm P w K mg base CX0 20 "_nearest" ["alphabet", "most"] (spNe K CA) := .of D.d45 fun f fd F => ok_ne (k := 16) F X N.tp N.i2 N.i7 ⟨N.kr, mR.at_, mR.fn, N.lr⟩ (btw 17) (GRI 14) bR (pfu 17) (pwi 17)
  have prt : Pm P w K mg base CX0 21 "parting" ["alphabet", "most"] (spPt K CA) := .of D.d46 fun f fd F => ok_pt (k := 19) F nea (drw 11) (noo 13)
  have ldw : ∀ k, Pm P w K mg base CX0 (k + 1) "_law_draw" ["s", "top"] spDw := fun k => .of D.d1 fun f fd F => ok_dw F N.z12
  have lpk : ∀ k, Pm P w K mg base CX0 (k + 2) "_law_pick" ["s", "some"] (spDp K) := fun k => .of D.d2 fun f fd F => ok_dp F X (ldw k)
  have lcl : ∀ k, Pm P w K mg base CX0 (k + 2) "_law_columns" ["s", "high", "wide"] spCl := fun k => .of D.d4 fun f fd F => ok_cl (k := k) F X (ldw k)
  have lrw : ∀ k, Pm P w K mg base CX0 (k + 1) "_law_rows" ["columns"] spLr := fun k => .of D.d5 fun f fd F => ok_lr (k := k) F X
  have ltn : Pm P w K mg base CX0 21 "_law_thin" ["s", "wide"] spTn := .of D.d10 fun f fd F => ok_tn (k := 19) F X N.z9 (ldw 19) (.of D.d7 fun f fd F => ok_ls (k := 18) F X (ldw 18) (lcl 17) (.of D.d6 fun f fd F => ok_lt (k := 18) F X))
  have lnm : Pm P w K mg base CX0 21 "_law_named" ["s", "shapes"] spNm := .of D.d8 fun f fd F => ok_nm (k := 19) F X N.z11 (ldw 19) (.of D.d3 fun f fd F => ok_sg2 (k := 17) F X (ldw 18) (lpk 17)) (lrw 19)
  have lta : Pm P w K mg base CX0 21 "_law_tall" ["pairs"] (spTa CA) := .of D.d9 fun f fd F => ok_ta (k := 18) F X N.ta ⟨N.ka, mI.at_, mI.fn, N.la⟩ (GAI 10) bI
  exact
    { tx := X
      zp := N.z10
      B := .of D.d0 fun f fd F => ok_db (k := 20) F X
      N := ldw 20
      Tn := ltn
      Nm := lnm
      Ta := lta
      Pt := prt
      Sh := .of D.d47 fun f fd F => ok_sh (k := 19) F (drw 11) (unl 14) }
end
theorem end_mkP {K : PySem.W.Frag} {mg : Str → Option Value} {C CP CA CS CW CR : Addr} (D : AllD K mg CA CS CW CR) (N : AllN K mg C CP CA CS CW CR) : ∃ (C CP CA CS CW CR : Addr), AllD K mg CA CS CW CR ∧ AllN K mg C CP CA CS CW CR := ⟨C, CP, CA, CS, CW, CR, D, N⟩
theorem walkP {l : PySem.W.OpenLaw} {q : Program} {loose : List Str} {XP : (Str → Option Value) → Heap → Prop} {YP : World → Heap → Prop} {d : DefRec} {K : Params → PySem.W.Frag}
    (hn : l.most = some 63) (hdf : d.params.defaults = []) (hY : ∀ (w : World) (h : Heap), YP w h → (K w.params).In h) (hname : d.name = "law")
    (F : ∀ (w : World) (mg : Str → Option Value) (h : Heap), (K w.params).In h → h.Ns mainGlobals mg → ∃ (C CP CA CS CW CR : Addr), AllD (K w.params) mg CA CS CW CR ∧ AllN (K w.params) mg C CP CA CS CW CR) :
    PySem.W.WalkO q loose XP YP l.row.toRowW d [] (fun f vs => PySem.call f vs) := by
  refine Att.attach_callB hn hdf fun w s₀ s₁ mg mb fa o pm cd doc a vs ns G Y ho hd hcd hmg hobj hints hlen hbits hg => ?_
  have KX := hY w _ Y
  obtain ⟨C, CP, CA, CS, CW, CR, D, N⟩ := F w mg _ KX G.T.g
  rw [hname] at hmg
  obtain ⟨fL, fdL, FL, mL, bL⟩ := D.d11.ex
  rw [hmg] at mL
  cases mL
  obtain ⟨oc, od, kV, dc, pm', an, cdv, ct, osl, rfl, lk, hc⟩ := FL.ex
  refine law_callG (cs := []) KX G.T.g G.T.b G.T.builtins G.T.nolimit hg (fun p hp => nomatch hp) (fun p hp => nomatch hp) (fun p hp => nomatch hp) G.T.bmain hobj hints (Nat.le_trans hlen (by decide)) ?_
  intro base H hKb hNs hTB hHT hS e0
  have LF := facts (P := l.prog) (w := w) (base := base) D N
  exact law_run lk hc (fun _ _ => .of_eq rfl) LF ⟨rfl, by decide, by decide⟩ e0 hS hlen
end Dt
noncomputable section
namespace Dt
open PySem PySem.W PySem.Calls PyProof.Rows HeadRun
/-- a law of a program with imports, its run told in two equations -/
theorem head_s {H : Hook} {r : OpenRow} {q : Program} {K : Params → Frag} {as : List Addr} {ek : ∀ P, as = (K P).map (·.1)} {M : Nat} {loose : List PySem.Str} {d : DefRec} {kwd : List (PySem.Str × PySem.Expr)} (eH : H = kHook K as ek)
    (run1 : ∀ w : World, (wholeF (fun p => stepQ (denQ tabQ) p w) fenceQ M r.prog).map (fun x => (looksF r.prog x.1.heap x.2.abs, seenQ q loose (importedModules r.prog.main.body) (fun s => xlAt q [] s && recOk r.toRowW.records s) x.2.abs)) = some (true, openGood q loose))
    (run2 : ∀ w : World, (wholeF (fun p => stepQ (denQ tabQ) p w) fenceQ M r.prog).map (fun x => as.map (getT x.2)) = some ((K w.params).map fun x => some x.2))
    (hdef : defOf q r.name = some (d, kwd)) (hp : r.prog.theDef r.name = some (d.params, d.body, d.scope)) (hk : kwWritten? d.params.kwonlyargs d.params.kw_defaults = some kwd)
    (hwr : (!r.writes || r.records.isEmpty) = true) (k1 : r.wellSaid = true) (ok : (chainsOk q && opensWell r.prog && (frees r.toRowW && r.within.isEmpty)) = true) (hb : r.prog.bare) (hw : r.toRowW.promised)
    (call : WalkO q loose (XL q []) H.says r.toRowW d kwd fun f vs => PySem.call f vs) : r.Holds := by
  subst eH
  refine head_imp (H := kHook K as ek) (ob := fun s => as.map (getT s)) (M := M) (fun s => List.map_congr_left fun a _ => getT_eq s a) (fun w => ?_) hdef hp hk hwr k1 ok hb hw call
  unfold RunEqI
  have e1 := run1 w
  have e2 := run2 w
  cases e : wholeF (fun p => stepQ (denQ tabQ) p w) fenceQ M r.prog with
  | none =>
    rw [e] at e1
    cases e1
  | some x =>
    rw [e] at e1 e2
    have a1 := Option.some.inj e1
    have a2 := Option.some.inj e2
    exact congrArg some (Prod.ext (congrArg (·.1) a1) (Prod.ext (congrArg (·.2) a1) a2))
end Dt
end
noncomputable section
namespace Dt
open PySem PySem.W PySem.Calls PyProof.Rows HeadRun
abbrev RT : OpenRow := OpenLaw.row PySem.Challenge.rw_dotread_k36_whole_partings_wider_and_of
abbrev qT : Program := view RT.prog [0, 82]
def loT0 : List PySem.Str := ["_wall", "DotError", "NoPicture", "NoPlace", "NoShape", "NoReading", "NoLine", "TooMany", "is_number", "is_between", "is_text", "is_list", "is_tuple", "MOST_ROWS", "MOST_COLUMNS", "is_picture", "_is_row", "want_picture", "size", "dots", "columns_of", "unlike", "_unlike_signs", "Spelling", "_state", "_known_from", "white_cost", "window_costs", "_windows_at", "column_numbers"]
def loT1 : List PySem.Str := ["_number_of", "dot_counts", "FAR_ways", "NO_WAY", "Ways", "_known_windows", "set_ahead", "MOST_LINE_COLUMNS", "MOST_NEXT", "next_ones", "drawn", "_row_drawn", "want_line", "want_next", "want_reading", "_is_window", "_ways", "FAR_parting", "parting", "_nearest", "Pairs", "_steps", "MOST_HIGH", "MOST_WIDE", "MOST_SHAPES", "Alphabet", "is_sign", "_is_shape", "_is_picture_of", "_law_begun"]
def loT2 : List PySem.Str := ["_law_draw", "_law_pick", "_law_signs", "_law_columns", "_law_rows", "_law_turned", "_law_shapes", "_law_named", "_law_tall", "_law_thin", "_law_shown"]
def looseT : List PySem.Str := loT0 ++ loT1 ++ loT2
set_option maxHeartbeats 0 in
theorem runT (w : World) : (wholeF (fun p => stepQ (denQ tabQ) p w) fenceQ 12000 RT.prog).map (fun x => (looksF RT.prog x.1.heap x.2.abs, seenQ qT looseT (importedModules RT.prog.main.body) (fun s => xlAt qT [] s && recOk RT.toRowW.records s) x.2.abs)) = some (true, openGood qT looseT) := by
  kernel_rfl
end Dt
end
open PySem PySem.W PyProof.Rows
local macro_rules
  | `(tactic| k_head) => `(tactic| k_headL)
local macro_rules
  | `(tactic| o_headL $H) => `(tactic| (refine Dt.head_s (H := $H) (r := Dt.RT) (q := Dt.qT) (loose := Dt.looseT) (M := 12000) (d := HandSHeadRun.topDef Dt.RT.prog 82) (kwd := []) rfl Dt.runT ?hr (by kernel_rfl) (by kernel_rfl) (by kernel_rfl) (by rfl) (by first | assumption | decide +kernel) (by decide +kernel) ⟨rfl, rfl, rfl, rfl, rfl, by decide +kernel⟩ ?hw ?hc; (case hr => intro w; kernel_rfl)))
set_option maxRecDepth 100000 in
set_option maxHeartbeats 0 in
open_top Dt.headT for PySem.Challenge.rw_dotread_k36_whole_partings_wider_and_of
set_option maxRecDepth 100000 in
set_option maxHeartbeats 0 in
theorem PySem.Challenge.cw_dotread_k36_whole_partings_wider_and_of_holds : PySem.Challenge.rw_dotread_k36_whole_partings_wider_and_of.Holds := by
  refine Dt.headT ?_
  k_fill
  refine Dt.walkP (l := PySem.Challenge.rw_dotread_k36_whole_partings_wider_and_of) rfl rfl (fun w h Y => PySem.W.kIn_of Y) rfl ?F
  case F =>
    intro w mg h KX G
    refine' Dt.end_mkP ⟨Dt.df_mk KX G ?a0 ?l0 ?c0 ?k0 Dt.bnd0, Dt.df_mk KX G ?a1 ?l1 ?c1 ?k1 Dt.bnd1, Dt.df_mk KX G ?a2 ?l2 ?c2 ?k2 Dt.bnd2, Dt.df_mk KX G ?a3 ?l3 ?c3 ?k3 Dt.bnd3, Dt.df_mk KX G ?a4 ?l4 ?c4 ?k4 Dt.bnd4, Dt.df_mk KX G ?a5 ?l5 ?c5 ?k5 Dt.bnd5, Dt.df_mk KX G ?a6 ?l6 ?c6 ?k6 Dt.bnd6, Dt.df_mk KX G ?a7 ?l7 ?c7 ?k7 Dt.bnd7, Dt.df_mk KX G ?a8 ?l8 ?c8 ?k8 Dt.bnd8, Dt.df_mk KX G ?a9 ?l9 ?c9 ?k9 Dt.bnd9, Dt.df_mk KX G ?a10 ?l10 ?c10 ?k10 Dt.bnd10, Dt.df_mk KX G ?a11 ?l11 ?c11 ?k11 Dt.bnd11, Dt.df_mk KX G ?a12 ?l12 ?c12 ?k12 Dt.bnd12, Dt.df_mk KX G ?a13 ?l13 ?c13 ?k13 Dt.bnd13, Dt.df_mk KX G ?a14 ?l14 ?c14 ?k14 Dt.bnd14, Dt.df_mk KX G ?a15 ?l15 ?c15 ?k15 Dt.bnd15, Dt.df_mk KX G ?a16 ?l16 ?c16 ?k16 Dt.bnd16, Dt.df_mk KX G ?a17 ?l17 ?c17 ?k17 Dt.bnd17, Dt.df_mk KX G ?a18 ?l18 ?c18 ?k18 Dt.bnd18, Dt.df_mk KX G ?a19 ?l19 ?c19 ?k19 Dt.bnd19, Dt.df_mk KX G ?a20 ?l20 ?c20 ?k20 Dt.bnd20, Dt.df_mk KX G ?a21 ?l21 ?c21 ?k21 Dt.bnd21, Dt.df_mk KX G ?a22 ?l22 ?c22 ?k22 Dt.bnd22, Dt.df_mk KX G ?a23 ?l23 ?c23 ?k23 Dt.bnd23, Dt.df_mk KX G ?a24 ?l24 ?c24 ?k24 Dt.bnd24, Dt.df_mk KX G ?a25 ?l25 ?c25 ?k25 Dt.bnd25, Dt.df_mk KX G ?a26 ?l26 ?c26 ?k26 Dt.bnd26, Dt.df_mk KX G ?a27 ?l27 ?c27 ?k27 Dt.bnd27, Dt.df_mk KX G ?a28 ?l28 ?c28 ?k28 Dt.bnd28, Dt.df_mk KX G ?a29 ?l29 ?c29 ?k29 Dt.bnd29, Dt.df_mk KX G ?a30 ?l30 ?c30 ?k30 Dt.bnd30, Dt.df_mk KX G ?a31 ?l31 ?c31 ?k31 Dt.bnd31, Dt.df_mk KX G ?a32 ?l32 ?c32 ?k32 Dt.bnd32, Dt.df_mk KX G ?a33 ?l33 ?c33 ?k33 Dt.bnd33, Dt.df_mk KX G ?a34 ?l34 ?c34 ?k34 Dt.bnd34, Dt.df_mk KX G ?a35 ?l35 ?c35 ?k35 Dt.bnd35, Dt.df_mk KX G ?a36 ?l36 ?c36 ?k36 Dt.bnd36, Dt.df_mk KX G ?a37 ?l37 ?c37 ?k37 Dt.bnd37, Dt.df_mk KX G ?a38 ?l38 ?c38 ?k38 Dt.bnd38, Dt.df_mk KX G ?a39 ?l39 ?c39 ?k39 Dt.bnd39, Dt.df_mk KX G ?a40 ?l40 ?c40 ?k40 Dt.bnd40, Dt.df_mk KX G ?a41 ?l41 ?c41 ?k41 Dt.bnd41, Dt.df_mk KX G ?a42 ?l42 ?c42 ?k42 Dt.bnd42, Dt.df_mk KX G ?a43 ?l43 ?c43 ?k43 Dt.bnd43, Dt.df_mk KX G ?a44 ?l44 ?c44 ?k44 Dt.bnd44, Dt.df_mk KX G ?a45 ?l45 ?c45 ?k45 Dt.bnd45, Dt.df_mk KX G ?a46 ?l46 ?c46 ?k46 Dt.bnd46, Dt.df_mk KX G ?a47 ?l47 ?c47 ?k47 Dt.bnd47, Dt.df_mk KX G ?a48 ?l48 ?c48 ?k48 Dt.bnd48, Dt.df_mk KX G ?a49 ?l49 ?c49 ?k49 Dt.bnd49, Dt.dm_mk ?ma0 ?mi0 ?ml0 ?mc0 ?mk0 Dt.bnm0, Dt.dm_mk ?ma1 ?mi1 ?ml1 ?mc1 ?mk1 Dt.bnm1, Dt.dm_mk ?ma2 ?mi2 ?ml2 ?mc2 ?mk2 Dt.bnm2, Dt.dm_mk ?ma3 ?mi3 ?ml3 ?mc3 ?mk3 Dt.bnm3, Dt.dm_mk ?ma4 ?mi4 ?ml4 ?mc4 ?mk4 Dt.bnm4, Dt.dm_mk ?ma5 ?mi5 ?ml5 ?mc5 ?mk5 Dt.bnm5, Dt.dm_mk ?ma6 ?mi6 ?ml6 ?mc6 ?mk6 Dt.bnm6, Dt.dm_mk ?ma7 ?mi7 ?ml7 ?mc7 ?mk7 Dt.bnm7, Dt.dm_mk ?ma8 ?mi8 ?ml8 ?mc8 ?mk8 Dt.bnm8, Dt.dm_mk ?ma9 ?mi9 ?ml9 ?mc9 ?mk9 Dt.bnm9, Dt.dm_mk ?ma10 ?mi10 ?ml10 ?mc10 ?mk10 Dt.bnm10, Dt.dm_mk ?ma11 ?mi11 ?ml11 ?mc11 ?mk11 Dt.bnm11, Dt.dm_mk ?ma12 ?mi12 ?ml12 ?mc12 ?mk12 Dt.bnm12, Dt.dm_mk ?ma13 ?mi13 ?ml13 ?mc13 ?mk13 Dt.bnm13, Dt.dm_mk ?ma14 ?mi14 ?ml14 ?mc14 ?mk14 Dt.bnm14, Dt.dm_mk ?ma15 ?mi15 ?ml15 ?mc15 ?mk15 Dt.bnm15, Dt.dm_mk ?ma16 ?mi16 ?ml16 ?mc16 ?mk16 Dt.bnm16, Dt.dm_mk ?ma17 ?mi17 ?ml17 ?mc17 ?mk17 Dt.bnm17, Dt.dm_mk ?ma18 ?mi18 ?ml18 ?mc18 ?mk18 Dt.bnm18⟩ ⟨mg_none_of KX G ?z0, mg_none_of KX G ?z1, mg_none_of KX G ?z2, mg_none_of KX G ?z3, mg_none_of KX G ?z4, mg_none_of KX G ?z5, mg_none_of KX G ?z6, mg_none_of KX G ?z7, mg_none_of KX G ?z8, mg_none_of KX G ?z9, mg_none_of KX G ?z10, mg_none_of KX G ?z11, mg_none_of KX G ?z12, mg_none_of KX G ?z13, mg_none_of KX G ?z14, mg_none_of KX G ?z15, mg_none_of KX G ?z16, mg_none_of KX G ?z17, mg_none_of KX G ?z18, Dt.gli_mk KX G ?i0, Dt.gli_mk KX G ?i1, Dt.gli_mk KX G ?i2, Dt.gli_mk KX G ?i3, Dt.gli_mk KX G ?i4, Dt.gli_mk KX G ?i5, Dt.gli_mk KX G ?i6, Dt.gli_mk KX G ?i7, mg_of KX G ?hpo, mg_of KX G ?hpu, Dt.exN_mk KX G ?nP2 ?px ?pk ?pb ?pt, ⟨mg_of KX G ?nC2, ?nx, ?nk, ?nb, ?nt⟩, ⟨⟨?tag, ?tah, ?tao, ?tas⟩, Dt.noa ?tan0, Dt.noa ?tan1, mg_of KX G ?nA⟩, ⟨⟨?tsg, ?tsh, ?tso, ?tss⟩, Dt.noa ?tsn0, Dt.noa ?tsn1, Dt.noa ?tsn2, Dt.noa ?tsn3, Dt.noa ?tsn4, Dt.noa ?tsn5, mg_of KX G ?nS2⟩, ⟨⟨?twg, ?twh, ?two, ?tws⟩, Dt.noa ?twn0, Dt.noa ?twn1, Dt.noa ?twn2, Dt.noa ?twn3, mg_of KX G ?nW2⟩, ⟨⟨?trg, ?trh, ?tro, ?trs⟩, Dt.noa ?trn0, Dt.noa ?trn1, Dt.noa ?trn2, Dt.noa ?trn3, mg_of KX G ?nR2⟩, Dt.nw_mk KX G ?va ?vl ?ve ?vm ?vf, ?qka, ?qla, ?qks, ?qls, ?qkw, ?qlw, ?qkr, ?qlr⟩
    (case nA => k_is)
    (case nS2 => k_is)
    (case nW2 => k_is)
    (case nR2 => k_is)
    (case nC2 => k_is)
    (case a0 => k_is)
    (case l0 => k_is)
    (case c0 => k_is)
    (case k0 => k_is)
    (case a1 => k_is)
    (case l1 => k_is)
    (case c1 => k_is)
    (case k1 => k_is)
    (case a2 => k_is)
    (case l2 => k_is)
    (case c2 => k_is)
    (case k2 => k_is)
    (case a3 => k_is)
    (case l3 => k_is)
    (case c3 => k_is)
    (case k3 => k_is)
    (case a4 => k_is)
    (case l4 => k_is)
    (case c4 => k_is)
    (case k4 => k_is)
    (case a5 => k_is)
    (case l5 => k_is)
    (case c5 => k_is)
    (case k5 => k_is)
    (case a6 => k_is)
    (case l6 => k_is)
    (case c6 => k_is)
    (case k6 => k_is)
    (case a7 => k_is)
    (case l7 => k_is)
    (case c7 => k_is)
    (case k7 => k_is)
    (case a8 => k_is)
    (case l8 => k_is)
    (case c8 => k_is)
    (case k8 => k_is)
    (case a9 => k_is)
    (case l9 => k_is)
    (case c9 => k_is)
    (case k9 => k_is)
    (case a10 => k_is)
    (case l10 => k_is)
    (case c10 => k_is)
    (case k10 => k_is)
    (case a11 => k_is)
    (case l11 => k_is)
    (case c11 => k_is)
    (case k11 => k_is)
    (case a12 => k_is)
    (case l12 => k_is)
    (case c12 => k_is)
    (case k12 => k_is)
    (case a13 => k_is)
    (case l13 => k_is)
    (case c13 => k_is)
    (case k13 => k_is)
    (case a14 => k_is)
    (case l14 => k_is)
    (case c14 => k_is)
    (case k14 => k_is)
    (case a15 => k_is)
    (case l15 => k_is)
    (case c15 => k_is)
    (case k15 => k_is)
    (case a16 => k_is)
    (case l16 => k_is)
    (case c16 => k_is)
    (case k16 => k_is)
    (case a17 => k_is)
    (case l17 => k_is)
    (case c17 => k_is)
    (case k17 => k_is)
    (case a18 => k_is)
    (case l18 => k_is)
    (case c18 => k_is)
    (case k18 => k_is)
    (case a19 => k_is)
    (case l19 => k_is)
    (case c19 => k_is)
    (case k19 => k_is)
    (case a20 => k_is)
    (case l20 => k_is)
    (case c20 => k_is)
    (case k20 => k_is)
    (case a21 => k_is)
    (case l21 => k_is)
    (case c21 => k_is)
    (case k21 => k_is)
    (case a22 => k_is)
    (case l22 => k_is)
    (case c22 => k_is)
    (case k22 => k_is)
    (case a23 => k_is)
    (case l23 => k_is)
    (case c23 => k_is)
    (case k23 => k_is)
    (case a24 => k_is)
    (case l24 => k_is)
    (case c24 => k_is)
    (case k24 => k_is)
    (case a25 => k_is)
    (case l25 => k_is)
    (case c25 => k_is)
    (case k25 => k_is)
    (case a26 => k_is)
    (case l26 => k_is)
    (case c26 => k_is)
    (case k26 => k_is)
    (case a27 => k_is)
    (case l27 => k_is)
    (case c27 => k_is)
    (case k27 => k_is)
    (case a28 => k_is)
    (case l28 => k_is)
    (case c28 => k_is)
    (case k28 => k_is)
    (case a29 => k_is)
    (case l29 => k_is)
    (case c29 => k_is)
    (case k29 => k_is)
    (case a30 => k_is)
    (case l30 => k_is)
    (case c30 => k_is)
    (case k30 => k_is)
    (case a31 => k_is)
    (case l31 => k_is)
    (case c31 => k_is)
    (case k31 => k_is)
    (case a32 => k_is)
    (case l32 => k_is)
    (case c32 => k_is)
    (case k32 => k_is)
    (case a33 => k_is)
    (case l33 => k_is)
    (case c33 => k_is)
    (case k33 => k_is)
    (case a34 => k_is)
    (case l34 => k_is)
    (case c34 => k_is)
    (case k34 => k_is)
    (case a35 => k_is)
    (case l35 => k_is)
    (case c35 => k_is)
    (case k35 => k_is)
    (case a36 => k_is)
    (case l36 => k_is)
    (case c36 => k_is)
    (case k36 => k_is)
    (case a37 => k_is)
    (case l37 => k_is)
    (case c37 => k_is)
    (case k37 => k_is)
    (case a38 => k_is)
    (case l38 => k_is)
    (case c38 => k_is)
    (case k38 => k_is)
    (case a39 => k_is)
    (case l39 => k_is)
    (case c39 => k_is)
    (case k39 => k_is)
    (case a40 => k_is)
    (case l40 => k_is)
    (case c40 => k_is)
    (case k40 => k_is)
    (case a41 => k_is)
    (case l41 => k_is)
    (case c41 => k_is)
    (case k41 => k_is)
    (case a42 => k_is)
    (case l42 => k_is)
    (case c42 => k_is)
    (case k42 => k_is)
    (case a43 => k_is)
    (case l43 => k_is)
    (case c43 => k_is)
    (case k43 => k_is)
    (case a44 => k_is)
    (case l44 => k_is)
    (case c44 => k_is)
    (case k44 => k_is)
    (case a45 => k_is)
    (case l45 => k_is)
    (case c45 => k_is)
    (case k45 => k_is)
    (case a46 => k_is)
    (case l46 => k_is)
    (case c46 => k_is)
    (case k46 => k_is)
    (case a47 => k_is)
    (case l47 => k_is)
    (case c47 => k_is)
    (case k47 => k_is)
    (case a48 => k_is)
    (case l48 => k_is)
    (case c48 => k_is)
    (case k48 => k_is)
    (case a49 => k_is)
    (case l49 => k_is)
    (case c49 => k_is)
    (case k49 => k_is)
    (case ma0 => k_is)
    (case mi0 => k_is)
    (case ml0 => k_is)
    (case mc0 => k_is)
    (case mk0 => k_is)
    (case ma1 => k_is)
    (case mi1 => k_is)
    (case ml1 => k_is)
    (case mc1 => k_is)
    (case mk1 => k_is)
    (case ma2 => k_is)
    (case mi2 => k_is)
    (case ml2 => k_is)
    (case mc2 => k_is)
    (case mk2 => k_is)
    (case ma3 => k_is)
    (case mi3 => k_is)
    (case ml3 => k_is)
    (case mc3 => k_is)
    (case mk3 => k_is)
    (case ma4 => k_is)
    (case mi4 => k_is)
    (case ml4 => k_is)
    (case mc4 => k_is)
    (case mk4 => k_is)
    (case ma5 => k_is)
    (case mi5 => k_is)
    (case ml5 => k_is)
    (case mc5 => k_is)
    (case mk5 => k_is)
    (case ma6 => k_is)
    (case mi6 => k_is)
    (case ml6 => k_is)
    (case mc6 => k_is)
    (case mk6 => k_is)
    (case ma7 => k_is)
    (case mi7 => k_is)
    (case ml7 => k_is)
    (case mc7 => k_is)
    (case mk7 => k_is)
    (case ma8 => k_is)
    (case mi8 => k_is)
    (case ml8 => k_is)
    (case mc8 => k_is)
    (case mk8 => k_is)
    (case ma9 => k_is)
    (case mi9 => k_is)
    (case ml9 => k_is)
    (case mc9 => k_is)
    (case mk9 => k_is)
    (case ma10 => k_is)
    (case mi10 => k_is)
    (case ml10 => k_is)
    (case mc10 => k_is)
    (case mk10 => k_is)
    (case ma11 => k_is)
    (case mi11 => k_is)
    (case ml11 => k_is)
    (case mc11 => k_is)
    (case mk11 => k_is)
    (case ma12 => k_is)
    (case mi12 => k_is)
    (case ml12 => k_is)
    (case mc12 => k_is)
    (case mk12 => k_is)
    (case ma13 => k_is)
    (case mi13 => k_is)
    (case ml13 => k_is)
    (case mc13 => k_is)
    (case mk13 => k_is)
    (case ma14 => k_is)
    (case mi14 => k_is)
    (case ml14 => k_is)
    (case mc14 => k_is)
    (case mk14 => k_is)
    (case ma15 => k_is)
    (case mi15 => k_is)
    (case ml15 => k_is)
    (case mc15 => k_is)
    (case mk15 => k_is)
    (case ma16 => k_is)
    (case mi16 => k_is)
    (case ml16 => k_is)
    (case mc16 => k_is)
    (case mk16 => k_is)
    (case ma17 => k_is)
    (case mi17 => k_is)
    (case ml17 => k_is)
    (case mc17 => k_is)
    (case mk17 => k_is)
    (case ma18 => k_is)
    (case mi18 => k_is)
    (case ml18 => k_is)
    (case mc18 => k_is)
    (case mk18 => k_is)
    (case z0 => k_is)
    (case z1 => k_is)
    (case z2 => k_is)
    (case z3 => k_is)
    (case z4 => k_is)
    (case z5 => k_is)
    (case z6 => k_is)
    (case z7 => k_is)
    (case z8 => k_is)
    (case z9 => k_is)
    (case z10 => k_is)
    (case z11 => k_is)
    (case z12 => k_is)
    (case z13 => k_is)
    (case z14 => k_is)
    (case z15 => k_is)
    (case z16 => k_is)
    (case z17 => k_is)
    (case z18 => k_is)
    (case i0 => k_is)
    (case i1 => k_is)
    (case i2 => k_is)
    (case i3 => k_is)
    (case i4 => k_is)
    (case i5 => k_is)
    (case i6 => k_is)
    (case i7 => k_is)
    (case hpo => k_is)
    (case hpu => k_is)
    (case nP2 => k_is)
    (case pk => k_is)
    (case pb => k_is)
    (case pt => k_is)
    (case px => first | kernel_rfl | decide +kernel | rfl)
    (case nk => k_is)
    (case nb => k_is)
    (case nt => k_is)
    (case nx => first | kernel_rfl | decide +kernel | rfl)
    (case tag => k_is)
    (case tah => k_is)
    (case tao => k_is)
    (case tas => k_is)
    (case tan0 => k_is)
    (case tan1 => k_is)
    (case tsg => k_is)
    (case tsh => k_is)
    (case tso => k_is)
    (case tss => k_is)
    (case tsn0 => k_is)
    (case tsn1 => k_is)
    (case tsn2 => k_is)
    (case tsn3 => k_is)
    (case tsn4 => k_is)
    (case tsn5 => k_is)
    (case twg => k_is)
    (case twh => k_is)
    (case two => k_is)
    (case tws => k_is)
    (case twn0 => k_is)
    (case twn1 => k_is)
    (case twn2 => k_is)
    (case twn3 => k_is)
    (case trg => k_is)
    (case trh => k_is)
    (case tro => k_is)
    (case trs => k_is)
    (case trn0 => k_is)
    (case trn1 => k_is)
    (case trn2 => k_is)
    (case trn3 => k_is)
    (case va => k_is)
    (case vl => k_is)
    (case ve => first | rfl | kernel_rfl)
    (case vm => k_is)
    (case vf => first | rfl | kernel_rfl)
    (case qka => k_is)
    (case qla => k_is)
    (case qks => k_is)
    (case qls => k_is)
    (case qkw => k_is)
    (case qlw => k_is)
    (case qkr => k_is)
    (case qlr => k_is)
