import PyProof.Rows.All
import Wide.All
import OpenK.AllK
import Wide.FinOn
import HandS.ForMost
import HandS.Wide
import HandS.Codes
import PySem.Challenge.RW_dotread_k38_whole_fields_alone
import PyProof.TypeEq
import PyProof.InstEq
import PyProof.StrBlock2
import HandS.TupMul
import HandS.TupAny
import HandS.More
import PyProof.ListStr
import HandS.ForExc
import HandS.Zip
import KE.GoesMore
import KE.GoesZip
import KE.GoesEnum
import HandS.Deep
import HandS.List
import HandS.Text
import HandS.WideBits
import KE.KDictZip
import HandS.Star
import HandS.StrMore
import PyProof.StrLawsLast
import HandS.Flow
import HandS.MakeKwOnly
import HandS.Defaults
import HandS.SetFor
import HandS.IsInst
set_option Elab.async false
set_option linter.all false
set_option maxRecDepth 100000
set_option maxHeartbeats 4000000
namespace Dt
open PySem PySem.Spec PyProof.Rows L2
def topS (i : Nat) : Stmt := PySem.Challenge.pw_dotread_k38_whole_fields_alone.main.body.getD i (.Pass ⟨0, 0, 0, 0⟩)
theorem inr_ne {a b : Str} (h : ¬ a = b) : ¬ (Sum.inr a : Key) = Sum.inr b := fun z => h (Sum.inr.inj z)
theorem same_upd {H : Hp} {p : Addr} {o : HO} (h : H p = none) : Same H (upd H p o) := fun b x e => by
  rw [upd_ne (ne_of_none e h)]
  exact e
theorem dpInts {K : PySem.W.Frag} {H : Hp} : ∀ ns : List Int, DpAll K H (ns.map V.int) (ns.map PyData.int)
  | [] => .nil
  | n :: r => .cons (.int n) (dpInts r)
end Dt
/-! rules of our own: types compared, a text times a number -/
namespace TyNe
open PySem PySem.TypeEq
open Sem (wp)
open Builtin
theorem slot_type_ne : Slot "type" (cmpInfo .NotEq).2.1 "object.__ne__" :=
  .of (owner := "object") (n := "__ne__") (by rw [typeLookup_type, builtinLookup_eq_fast]; kernel_rfl) (by decide +kernel) (by decide +kernel) (by decide +kernel)
    (by first | exact .inl (by decide +kernel) | exact .inr (by decide +kernel)) (by rw [isSubtype_type]; kernel_rfl)
theorem slot_type_ne2 : Slot "type" (cmpInfo .NotEq).2.2 "object.__ne__" :=
  .of (owner := "object") (n := "__ne__") (by rw [typeLookup_type, builtinLookup_eq_fast]; kernel_rfl) (by decide +kernel) (by decide +kernel) (by decide +kernel)
    (by first | exact .inl (by decide +kernel) | exact .inr (by decide +kernel)) (by rw [isSubtype_type]; kernel_rfl)
section
variable {prog : Program} {w : World} {A : Around} {E : Value → Shared → Prop} {s : Shared}
theorem call_ne_same {X : String} {Q : Value → Shared → Prop} (hX : ∀ s' : Shared, s'.TypeIs (.type X) "type") (h : Q (.bool false) s) : wpAny (model prog w) A (call (.builtin "object.__ne__") [.type X, .type X]) Q E s := by
  refine wpAny_call (codeAny_call_builtin slot_type_ne.plain F.cmpEntry_ne (slot_type_ne.check _ _ _ _ _ _ _ _ (hX s) (F.cmpArgs_ne _ _) ?_))
  unfold Builtin.«object.__ne__»
  repeat (first
    | with_reducible refine wpAny_cRoomFor_or (.inl rfl) ?_
    | (refine wpAny_bind (m := callSpecialIfBound? (.type X) (Str.ofString "__eq__") [.type X])
        (wpAny_callSpecialIfBound?_slot (hX _) slot_type_eq (call_gives slot_type_eq (hX _) F.entry_object_eq (F.args_object_eq_2 _ _) (object_eq_same rfl (by simp)) ?_)))
    | wp_step)
  show wpAny (model prog w) A.in1 (truthy (.bool true) >>= fun b => ret (.bool !b)) _ _ _
  exact wpAny_bind (wpAny_truthy_bool (wpAny_pure h))
theorem call_ne_other {X Y : String} {Q : Value → Shared → Prop} (hX : ∀ s' : Shared, s'.TypeIs (.type X) "type") (hne : (Value.type X == Value.type Y) = false) (h : Q .notImplemented s) : wpAny (model prog w) A (call (.builtin "object.__ne__") [.type X, .type Y]) Q E s := by
  refine wpAny_call (codeAny_call_builtin slot_type_ne.plain F.cmpEntry_ne (slot_type_ne.check _ _ _ _ _ _ _ _ (hX s) (F.cmpArgs_ne _ _) ?_))
  unfold Builtin.«object.__ne__»
  repeat (first
    | with_reducible refine wpAny_cRoomFor_or (.inl rfl) ?_
    | (refine wpAny_bind (m := callSpecialIfBound? (.type X) (Str.ofString "__eq__") [.type Y])
        (wpAny_callSpecialIfBound?_slot (hX _) slot_type_eq (call_gives slot_type_eq (hX _) F.entry_object_eq (F.args_object_eq_2 _ _) (object_eq_other rfl hne) ?_)))
    | wp_step)
  show wpAny (model prog w) A.in1 (ret .notImplemented) _ _ _
  exact wpAny_pure h
theorem ne_type_same {X : String} {Q : Value → Shared → Prop} (hX : ∀ s' : Shared, s'.TypeIs (.type X) "type") (h : Q (.bool false) s) : wpAny (model prog w) A (compareOp .NotEq (.type X) (.type X)) Q E s := by
  show wpAny _ A (richCompare .NotEq _ _) Q E s
  exact wpAny_richCompare_same (T := "type") (hX s) (hX s) slot_type_ne (call_ne_same hX ⟨(by intro e; cases e), h⟩)
theorem ne_type_other {X Y : String} {Q : Value → Shared → Prop} (hX : ∀ s' : Shared, s'.TypeIs (.type X) "type") (hY : ∀ s' : Shared, s'.TypeIs (.type Y) "type") (hne : (Value.type X == Value.type Y) = false) (h : Q (.bool true) s) :
    wpAny (model prog w) A (compareOp .NotEq (.type X) (.type Y)) Q E s := by
  have hne' : (Value.type Y == Value.type X) = false := by
    rw [Bool.eq_false_iff] at hne ⊢
    intro e
    exact hne (by rw [beq_iff_eq] at e ⊢; exact e.symm)
  show wpAny _ A (richCompare .NotEq _ _) Q E s
  have h1 := slot_type_ne
  have h2 := slot_type_ne2
  rcases hi : cmpInfo CmpOp.NotEq with ⟨sym, f, r⟩
  rw [hi] at h1 h2
  simp only [richCompare, hi, (hX s).oneThing_none]
  try with_reducible refine wpAny_holding ?_
  refine wpAny_bind (wpAny_cRoomFor_or (.inl rfl) ?_)
  refine wpAny_bind (wpAny_typeOf (hX s) (wpAny_bind (wpAny_typeOf (hY s) ?_)))
  simp only [bne_self_eq_false, Bool.false_eq_true, if_false, pure_bind, Bool.not_false, if_true]
  refine wpAny_bind (m := tryCompare _ _ _) (wpAny_tryCompare_declines (hX s) h1 (call_ne_other hX hne ⟨rfl, ?_⟩))
  refine wpAny_bind (m := tryCompare _ _ _) (wpAny_tryCompare_declines (hY _) h2 (call_ne_other hY hne' ⟨rfl, ?_⟩))
  refine wpAny_bind (wpAny_rule (wpAny_bind (wpAny_of_eq (a := false) (by rw [isSame_plain rfl, hne]) (wpAny_pure h))))
end
end TyNe
namespace L2X
open PySem PySem.Spec PyProof.Rows L2
/-- the built-in classes that are compared here -/
def tyOk (a : String) : Bool := a = "int" ∨ a = "str" ∨ a = "bool" ∨ a = "NoneType" ∨ a = "list" ∨ a = "tuple" ∨ a = "dict"
theorem tyOk_is {a : String} (h : tyOk a = true) : ∀ s' : Shared, s'.TypeIs (.type a) "type" := by
  unfold tyOk at h
  rcases of_decide_eq_true h with rfl | rfl | rfl | rfl | rfl | rfl | rfl
  · exact TypeEq.meta_int
  · exact TypeEq.meta_str
  · exact TypeEq.meta_bool
  · exact TypeEq.meta_NoneType
  · exact TypeEq.meta_list
  · exact TypeEq.meta_tuple
  · exact TypeEq.meta_dict
theorem ty_ne {a b : String} (h : a ≠ b) : (Value.type a == Value.type b) = false := beq_eq_false_iff_ne.mpr fun z => h (Value.type.inj z)
def rTyC (g : Bool → Bool) : R2 := fun x y H Q => ∃ a b, x = .ty a ∧ y = .ty b ∧ tyOk a = true ∧ tyOk b = true ∧ Q (.bl (g (decide (a = b)))) H
section
variable {X : Cx}
theorem op_eq_ty : OpR X (compareOp .Eq) (rTyC id) := by
  intro pins s σ H x y v u Q I rx ry h
  obtain ⟨a, b, rfl, rfl, ha, hb, q⟩ := h
  cases (show v = Value.type a from rx)
  cases (show u = Value.type b from ry)
  by_cases e : a = b
  · subst e
    refine TypeEq.eq_type_same (tyOk_is ha) ⟨.bl true, H, I, rfl, ?_⟩
    rw [decide_eq_true rfl] at q
    exact q
  · refine TypeEq.eq_type_other (tyOk_is ha) (tyOk_is hb) (ty_ne e) ⟨.bl false, H, I, rfl, ?_⟩
    rw [decide_eq_false e] at q
    exact q
theorem op_ne_ty : OpR X (compareOp .NotEq) (rTyC not) := by
  intro pins s σ H x y v u Q I rx ry h
  obtain ⟨a, b, rfl, rfl, ha, hb, q⟩ := h
  cases (show v = Value.type a from rx)
  cases (show u = Value.type b from ry)
  by_cases e : a = b
  · subst e
    refine TyNe.ne_type_same (tyOk_is ha) ⟨.bl false, H, I, rfl, ?_⟩
    rw [decide_eq_true rfl] at q
    exact q
  · refine TyNe.ne_type_other (tyOk_is ha) (tyOk_is hb) (ty_ne e) ⟨.bl true, H, I, rfl, ?_⟩
    rw [decide_eq_false e] at q
    exact q
/-- text * n -/
theorem op_mul_str : OpR X (binaryOp .Mult) (fun x y H Q => ∃ z n, x = .str z ∧ y = .int n ∧ MulOk z n ∧ Q (.str (Txt.mul z n)) H) := by
  intro pins s σ H x y v u Q I rx ry h
  obtain ⟨z, n, rfl, rfl, hk, q⟩ := h
  obtain ⟨t, rfl⟩ := rx
  obtain ⟨t', rfl⟩ := ry
  exact SB.mul hk fun t' k => ⟨.str _, H, I.tok _, ⟨_, rfl⟩, q⟩
end
end L2X
namespace Dt
open PySem PySem.Spec PyProof.Rows L2 L2X
open SX (S)
/-- the built-ins that are named in the text -/
structure Tx (mg : Str → Option Value) : Prop where
  len : mg "len" = none
  range : mg "range" = none
  tuple : mg "tuple" = none
  list : mg "list" = none
  int : mg "int" = none
/-! ### rows and pictures -/
def rv (l : List Nat) : V := .str (S l)
structure RowR (wide : Nat) (l : List Nat) : Prop where
  len : l.length = wide
  sg : ∀ c ∈ l, c = 35 ∨ c = 46
structure PicR (high wide : Nat) (rs : List (List Nat)) : Prop where
  len : rs.length = high
  row : ∀ l ∈ rs, RowR wide l
  h0 : 1 ≤ high
  h1 : high ≤ 60
  w0 : 1 ≤ wide
  w1 : wide ≤ 120
theorem s_dot : ("." : Str) = S [46] := by decide +kernel
theorem s_hash : ("#" : Str) = S [35] := by decide +kernel
theorem s_empty : ("" : Str) = S [] := by decide +kernel
/-! ### a sign many times; signs joined -/
theorem fold_rep (c : Nat) : ∀ (n : Nat) (acc : Array Nat), (List.replicate n #[c]).foldl (· ++ ·) acc = acc ++ (List.replicate n c).toArray
  | 0, acc => by simp
  | n + 1, acc => by
    rw [List.replicate_succ, List.foldl_cons, fold_rep c n (acc ++ #[c]), List.replicate_succ]
    apply Array.ext'
    simp
theorem mul_sign (c n : Nat) (h : 1 ≤ n) : Txt.mul (S [c]) (n : Int) = S (List.replicate n c) := by
  unfold Txt.mul
  rw [if_neg (by omega)]
  by_cases e : n = 1
  · subst e
    rfl
  · have e1 : (((n : Int) == 1) || (S [c]).length == 0) = false := by
      have a1 : ((n : Int) == 1) = false := by
        rw [beq_eq_false_iff_ne]
        omega
      rw [a1]
      rfl
    rw [e1, if_neg Bool.false_ne_true]
    have q := fold_rep c n #[]
    show (⟨(List.replicate (n : Int).toNat #[c]).foldl (· ++ ·) #[]⟩ : Str) = _
    rw [Int.toNat_natCast, q]
    simp [S]
theorem mul_ok (c n : Nat) (h : 1 ≤ n) (h2 : n ≤ 120) : MulOk (S [c]) (n : Int) := by
  refine ⟨?_, fun _ _ => ?_, fun _ _ => ?_⟩
  · rw [Bool.or_eq_false_iff, decide_eq_false_iff_not, decide_eq_false_iff_not]
    omega
  · show ¬ ((1 : Nat) : Int) > (2 ^ 63 - 1) / (n : Int)
    have : (1 : Int) ≤ (2 ^ 63 - 1) / (n : Int) := (Int.le_ediv_iff_mul_le (by omega)).mpr (by omega)
    omega
  · have e : (S [c]).length * (n : Int).toNat = n := by
      show 1 * (n : Int).toNat = n
      omega
    rw [e]
    unfold Builtin.Str.tooLong
    have z : n ≤ sizeLine := Nat.le_of_lt (small1000 (by omega))
    first
      | (rw [decide_eq_false_iff_not]; omega)
      | (simp; omega)
theorem joinL_ones : ∀ cs : List Nat, TL.joinL [] (cs.map fun c => [c]) = cs
  | [] => rfl
  | [c] => rfl
  | c :: d :: r => by
    show [c] ++ ([] ++ TL.joinL [] ((d :: r).map fun c => [c])) = _
    rw [joinL_ones (d :: r)]
    rfl
theorem join_ones (cs : List Nat) : Txt.join "" (cs.map fun c => S [c]) = S cs := by
  rw [s_empty]
  have e := SX.join_S [] (cs.map fun c => [c])
  rw [joinL_ones, List.map_map] at e
  exact e
theorem lens_ones : ∀ cs : List Nat, ((cs.map fun c => S [c]).map (·.length)).sum = cs.length
  | [] => rfl
  | c :: r => by
    show 1 + ((r.map fun c => S [c]).map (·.length)).sum = r.length + 1
    rw [lens_ones r, Nat.add_comm]
theorem row_rep (c wide : Nat) (h : c = 35 ∨ c = 46) : RowR wide (List.replicate wide c) := ⟨List.length_replicate, fun x hx => by rw [(List.mem_replicate.mp hx).2]; exact h⟩
end Dt
namespace Dt
open PySem PySem.Spec PyProof.Rows L2 L2X
open SX (S)
/-! ### what is a picture -/
def rowOk : V → Bool
  | .str x => decide (1 ≤ x.length) && decide (x.length ≤ 120) && decide (Txt.count x "#" + Txt.count x "." = (x.length : Int))
  | _ => false
theorem rowOk_str (x : Str) : rowOk (.str x) = (decide (1 ≤ x.length) && decide (x.length ≤ 120) && decide (Txt.count x "#" + Txt.count x "." = (x.length : Int))) := rfl
def lenV : V → Int
  | .str x => x.length
  | _ => 0
def picOk (xs : List V) : Bool := decide (1 ≤ xs.length) && decide (xs.length ≤ 60) && xs.all rowOk && xs.all fun y => decide (lenV y = lenV (xs.headD .non))
/-- a thing of a known kind -/
def Kn (K : PySem.W.Frag) (H : Hp) (x : V) : Prop := (∃ T, TyB K H x T ∧ tyOk T = true) ∧ ∀ z, x = .str z → z.length ≤ sizeLine
structure Tp (mg : Str → Option Value) : Prop where
  typ : mg "type" = none
  str : mg "str" = none
  all : mg "all" = none
  mr : ∃ t, mg "MOST_ROWS" = some (.int 60 t)
  mc : ∃ t, mg "MOST_COLUMNS" = some (.int 120 t)
abbrev sIsText : Stmt := topS 8
theorem scIsText : FnScope ["thing"] ["thing"] (defScope sIsText) := ⟨rfl, rfl, rfl, by decide +kernel, rfl, by decide +kernel, by decide +kernel⟩
def isStr : V → Bool
  | .str _ => true
  | _ => false
def spIsText (K : PySem.W.Frag) : Sp := fun vs H Q _ => ∃ x, vs = [x] ∧ Kn K H x ∧ Q (.bl (isStr x)) H
abbrev sIsRow : Stmt := topS 13
theorem scIsRow : FnScope ["thing"] ["thing"] (defScope sIsRow) := ⟨rfl, rfl, rfl, by decide +kernel, rfl, by decide +kernel, by decide +kernel⟩
def spIsRow (K : PySem.W.Frag) : Sp := fun vs H Q _ => ∃ x, vs = [x] ∧ Kn K H x ∧ Q (.bl (rowOk x)) H
theorem isStr_ty {K : PySem.W.Frag} {H : Hp} {x : V} {T : String} (t : TyB K H x T) : decide (T = "str") = isStr x := by
  cases t <;> rfl
section
variable {P : Program} {w : World} {K : PySem.W.Frag} {mg : Str → Option Value} {base : Heap}
theorem ok_isText {f : Addr} {fd : FuncData} {k : Nat} (F : Fun K "is_text" "is_text" sIsText f fd) (T : Tp mg) : FnOk P w K mg base CX0 (k + 1) f fd ["thing"] (spIsText K) := by
  refine F.ok scIsText (fun vs H Q E h => ?_) (fun cdv A outer s H vs Q E hr h => ?_)
  · obtain ⟨x, rfl, _⟩ := h
    rfl
  · obtain ⟨x, rfl, ⟨⟨Ty, ht, ok⟩, _⟩, q⟩ := h
    refine ⟨_, pss_one (ps_ret (pe_cmpR op_eq_ty (pe_callTy call_type1 (by rfl) T.typ (by decide +kernel) (pa_cons (pv 0) pa_nil)) (pe_bltn (v := .ty "str") (u := .type "str") (by rfl) T.str (by decide +kernel) rfl) (nomark _))), ?_⟩
    refine ⟨x, rfl, x, Ty, rfl, ht, Ty, "str", rfl, rfl, ok, rfl, ?_⟩
    have e : id (decide (Ty = "str")) = isStr x := isStr_ty ht
    rw [e]
    exact q
theorem ok_isRow {f fT : Addr} {fd fdT : FuncData} {k : Nat} (F : Fun K "_is_row" "_is_row" sIsRow f fd) (T : Tp mg) (X : Tx mg) (GT : FnOk P w K mg base CX0 (k + 1) fT fdT ["thing"] (spIsText K)) (mT : mg "is_text" = some (.ref fT)) (kT : PySem.W.keepIn K (.ref fT) = true) (bT : Binds K fdT ["thing"] []) : FnOk P w K mg base CX0 (k + 2) f fd ["thing"] (spIsRow K) := by
  refine F.ok scIsRow (fun vs H Q E h => ?_) (fun cdv A outer s H vs Q E hr h => ?_)
  · obtain ⟨x, rfl, _⟩ := h
    rfl
  · obtain ⟨x, rfl, kn, q⟩ := h
    obtain ⟨t, hmc⟩ := T.mc
    refine ⟨_, pss_cons (ps_if (PW.pt (pw_or (pt_not (pt_val (pe_call GT hr (by rfl) mT kT bT .nil pass0 (pa_cons (pv 0) pa_nil)))) (pw_or1 (pt_not (pt_chain op_le op_le pe_int (pe_callB call_len_str (by rfl) X.len PySem.boot_len (pa_cons (pv 0) pa_nil)) (pe_glob (v := .int 120) (by rfl) hmc ⟨_, rfl⟩))))))
        (pss_one (ps_ret pe_bl)) pss_nil)
      (pss_one (ps_ret (pe_cmpR op_eq (pe_op op_add (pe_m1 PySem.F.slot_str_count PySem.F.type_str_count mt_count (pv 0) pe_str) (pe_m1 PySem.F.slot_str_count PySem.F.type_str_count mt_count (pv 0) pe_str)) (pe_callB call_len_str (by rfl) X.len PySem.boot_len (pa_cons (pv 0) pa_nil)) (nomark _)))), ?_⟩
    refine ⟨x, rfl, x, rfl, kn, _, rfl, ?_⟩
    cases x with
    | str z =>
      have hz := kn.2 z rfl
      refine iteF ?_
      refine ⟨.str z, rfl, z, rfl, hz, 1, _, rfl, rfl, _, rfl, ?_⟩
      refine ite2 (fun e => ?_) (fun e => ?_)
      · refine ⟨_, 120, rfl, rfl, _, rfl, ite2 (fun e2 => ?_) (fun e2 => ?_)⟩
        · have e3 : ¬ z.length ≤ 120 := fun le => by
            have : decide ((z.length : Int) ≤ 120) = true := decide_eq_true (by omega)
            rw [this] at e2
            cases e2
          have e4 : rowOk (.str z) = false := by
            rw [rowOk_str, decide_eq_false e3, Bool.and_false, Bool.false_and]
          rw [e4] at q
          exact q
        · have e3 : z.length ≤ 120 := by
            have h1 : ¬ ((!decide ((z.length : Int) ≤ 120)) = true) := e2
            have h2 : decide ((z.length : Int) ≤ 120) = true := by
              cases hh : decide ((z.length : Int) ≤ 120) with
              | true => rfl
              | false =>
                rw [hh] at h1
                exact absurd rfl h1
            have := of_decide_eq_true h2
            omega
          have e1 : 1 ≤ z.length := by
            have := of_decide_eq_true e
            omega
          refine ⟨.str z, rfl, ⟨_, rfl⟩, z, "#", rfl, rfl, .str z, rfl, ⟨_, rfl⟩, z, ".", rfl, rfl, _, _, rfl, rfl, .str z, rfl, z, rfl, hz, rfl, ?_⟩
          have e4 : rowOk (.str z) = decide (V.int (Txt.count z "#" + Txt.count z ".") = V.int (z.length : Int)) := by
            rw [rowOk_str, decide_eq_true e1, decide_eq_true e3, Bool.true_and, Bool.true_and]
            exact Bool.eq_iff_iff.mpr ⟨fun h => decide_eq_true (congrArg V.int (of_decide_eq_true h)), fun h => decide_eq_true (V.int.inj (of_decide_eq_true h))⟩
          rw [e4] at q
          exact q
      · have e1 : ¬ 1 ≤ z.length := fun le => e (decide_eq_true (by omega))
        have e4 : rowOk (.str z) = false := by
          rw [rowOk_str, decide_eq_false e1, Bool.false_and, Bool.false_and]
        rw [e4] at q
        exact ⟨_, rfl, q⟩
    | _ => exact iteT (iteT q)
/-! ### is_picture -/
abbrev sIsPic : Stmt := topS 12
theorem scIsPic : FnScope ["thing", "row"] ["thing"] (defScope sIsPic) := ⟨rfl, rfl, rfl, by decide +kernel, rfl, by decide +kernel, by decide +kernel⟩
/-- a thing as is_picture may be asked: no tuple, or a tuple whose items are of known kinds -/
def Asked (K : PySem.W.Frag) (H : Hp) (x : V) (b : Bool) : Prop :=
  (∃ T, TyB K H x T ∧ tyOk T = true ∧ T ≠ "tuple" ∧ b = false) ∨ ∃ a xs, x = .ref a ∧ SqT K H a xs ∧ (xs.length ≤ 60 → ∀ y ∈ xs, Kn K H y) ∧ b = picOk xs
def spIsPic (K : PySem.W.Frag) : Sp := fun vs H Q _ => ∃ x b, vs = [x] ∧ Asked K H x b ∧ ∀ H', Same H H' → Q (.bl b) H'
theorem sameT {K : PySem.W.Frag} {H H' : Hp} {a : Addr} {xs : List V} (e : Same H H') (h : SqT K H a xs) : SqT K H' a xs := by
  rcases h with (h | ⟨o, h⟩) | h
  · exact .inl (.inl (e _ _ h))
  · exact .inl (.inr ⟨o, e _ _ h⟩)
  · exact .inr h
theorem Kn.same {H H' : Hp} {x : V} (h : Kn K H x) (s : Same H H') : Kn K H' x := by
  obtain ⟨⟨T, t, ok⟩, hz⟩ := h
  refine ⟨⟨T, ?_, ok⟩, hz⟩
  cases t with
  | non => exact .non
  | bl b => exact .bl b
  | int i => exact .int i
  | str x => exact .str x
  | byt b => exact .byt b
  | lst h => exact .lst (s.seq h)
  | tup h => exact .tup (sameT s h)
  | dK h => exact .dK (s _ _ h)
theorem iteE {c : Bool} {A B : Prop} (e : c = false) (h : B) : if c = true then A else B := by
  rw [e]
  exact iteF h
theorem iteY {c : Bool} {A B : Prop} (e : c = true) (h : A) : if c = true then A else B := by
  rw [e]
  exact iteT h
theorem take_snoc {α : Type} {xs : List α} {i : Nat} {x : α} (h : xs[i]? = some x) : xs.take (i + 1) = xs.take i ++ [x] := by
  rw [List.take_add_one, h]
  rfl
theorem all_map_id {α : Type} (f : α → Bool) : ∀ xs : List α, (xs.map f).all id = xs.all f
  | [] => rfl
  | x :: r => by
    show (id (f x) && (r.map f).all id) = (f x && r.all f)
    rw [all_map_id f r]
    rfl
theorem bls {α : Type} (f : α → Bool) (xs : List α) : xs.map (fun y => V.bl (f y)) = (xs.map f).map V.bl := by
  rw [List.map_map]
  rfl
theorem ok_isPic {f fR : Addr} {fd fdR : FuncData} {k : Nat} (F : Fun K "is_picture" "is_picture" sIsPic f fd) (T : Tp mg) (X : Tx mg) (GR : FnOk P w K mg base CX0 (k + 1) fR fdR ["thing"] (spIsRow K)) (mR : mg "_is_row" = some (.ref fR)) (kR : PySem.W.keepIn K (.ref fR) = true) (bR : Binds K fdR ["thing"] []) : FnOk P w K mg base CX0 (k + 2) f fd ["thing"] (spIsPic K) := by
  refine F.ok scIsPic (fun vs H Q E h => ?_) (fun cdv A outer s H vs Q E hr h => ?_)
  · obtain ⟨x, b, rfl, _⟩ := h
    rfl
  · obtain ⟨x, b, rfl, ask, q⟩ := h
    obtain ⟨t, hmr⟩ := T.mr
    have nd := scIsPic.nd
    refine ⟨_, pss_cons (ps_if (PW.pt (pw_or (pt_cmpR op_ne_ty (pe_callTy call_type1 (by rfl) T.typ (by decide +kernel) (pa_cons (pv 0) pa_nil)) (pe_bltn (v := .ty "tuple") (u := .type "tuple") (by rfl) X.tuple (by decide +kernel) rfl) (nomark _)) (pw_or1 (pt_not (pt_chain op_le op_le pe_int (pe_callB call_len_seq (by rfl) X.len PySem.boot_len (pa_cons (pv 0) pa_nil)) (pe_glob (v := .int 60) (by rfl) hmr ⟨_, rfl⟩))))))
        (pss_one (ps_ret pe_bl)) pss_nil)
      (pss_cons (ps_if (pt_not (pt_val (pe_callB (cr_all rfl) (by rfl) T.all (by decide +kernel) (pa_cons (pe_lc (own := [("row", 1)]) (g := gName 1) (tt := tYes) rfl nd (pi_tup (pv 0)) (blkOk_by (N := ["thing", "row"]) (sc := defScope sIsPic) (by decide +kernel)) (fun _ _ _ _ _ => pg_name (i := 1) nd rfl (Or.inl rfl)) (fun _ _ _ _ _ => pts_nil)
            (fun _ _ _ _ _ => pe_call GR hr (by rfl) mR kR bR .nil pass0 (pa_cons (pv 1) pa_nil))) pa_nil)))) (pss_one (ps_ret pe_bl)) pss_nil)
      (pss_one (ps_ret (pe_callB (cr_all rfl) (by rfl) T.all (by decide +kernel) (pa_cons (pe_lc (own := [("row", 1)]) (g := gName 1) (tt := tYes) rfl nd (pi_tup (pv 0)) (blkOk_by (N := ["thing", "row"]) (sc := defScope sIsPic) (by decide +kernel)) (fun _ _ _ _ _ => pg_name (i := 1) nd rfl (Or.inl rfl)) (fun _ _ _ _ _ => pts_nil)
            (fun _ _ _ _ _ => pe_cmpR op_eq (pe_callB call_len_str (by rfl) X.len PySem.boot_len (pa_cons (pv 1) pa_nil)) (pe_callB call_len_str (by rfl) X.len PySem.boot_len (pa_cons (pe_ix (r := rIxT K) ix_tup (pv 0) pe_int (fun _ _ => rfl)) pa_nil)) (nomark _))) pa_nil))))), ?_⟩
    rcases ask with ⟨Ty, ht, ok, ne, rfl⟩ | ⟨a, xs, rfl, hx, kn, rfl⟩
    · refine ⟨x, rfl, x, Ty, rfl, ht, Ty, "tuple", rfl, rfl, ok, rfl, _, rfl, ?_⟩
      have e : not (decide (Ty = "tuple")) = true := by rw [decide_eq_false ne]; rfl
      exact iteY e (q H (Same.refl H))
    · refine ⟨.ref a, rfl, .ref a, "tuple", rfl, .tup hx, "tuple", "tuple", rfl, rfl, rfl, rfl, _, rfl, iteE (by decide) ?_⟩
      refine ⟨.ref a, rfl, a, xs, rfl, .inr hx, 1, _, rfl, rfl, _, rfl, ite2 (fun e => ?_) (fun e => ?_)⟩
      · have e1 : 1 ≤ xs.length := by
          have := of_decide_eq_true e
          omega
        refine ⟨_, 60, rfl, rfl, _, rfl, ite2 (fun e2 => ?_) (fun e2 => ?_)⟩
        · have e3 : ¬ xs.length ≤ 60 := fun le => by
            have : decide ((xs.length : Int) ≤ 60) = true := decide_eq_true (by omega)
            rw [this] at e2
            cases e2
          have z : picOk xs = false := by
            unfold picOk
            rw [decide_eq_false e3, Bool.and_false, Bool.false_and, Bool.false_and]
          rw [z] at q
          exact q H (Same.refl H)
        · have e3 : xs.length ≤ 60 := by
            have h1 : ¬ ((!decide ((xs.length : Int) ≤ 60)) = true) := e2
            have h2 : decide ((xs.length : Int) ≤ 60) = true := by
              cases hh : decide ((xs.length : Int) ≤ 60) with
              | true => rfl
              | false =>
                rw [hh] at h1
                exact absurd rfl h1
            have := of_decide_eq_true h2
            omega
          have kn' := kn e3
          refine ⟨.ref a, rfl, a, rfl, ⟨_, hx⟩, fun Dd hDd => lc_tup (K := K) (a := a) (xs := xs) (fun i H2 => Same H H2 ∧ H2 Dd = some (.lst ((xs.take i).map fun y => V.bl (rowOk y)))) ⟨same_upd hDd, upd_same⟩ (fun i H2 _ z => sameT z.1 hx) ?_ ?_⟩
          · rintro i y H2 hi ⟨sm, h2⟩
            have hm : y ∈ xs := List.mem_of_getElem? hi
            refine ⟨rfl, y, rfl, y, rfl, (kn' y hm).same sm, _, h2, ?_, ?_, ?_⟩
            · rw [List.length_map, List.length_take]
              exact small1000 (by omega)
            · exact fun b o e => by
                rw [upd_ne (ne_of_none e hDd)]
                exact sm _ _ e
            · rw [upd_same, take_snoc hi, List.map_append]
              rfl
          · rintro H2 ⟨sm, h2⟩
            rw [List.take_length, bls] at h2
            refine ⟨Dd, xs.map rowOk, rfl, SqL.of h2, _, rfl, ?_⟩
            rw [all_map_id]
            cases eall : xs.all rowOk with
            | false =>
              have z : picOk xs = false := by
                unfold picOk
                rw [eall, Bool.and_false, Bool.false_and]
              rw [z] at q
              exact q H2 sm
            | true =>
              have hx2 : SqT K H2 a xs := sameT sm hx
              obtain ⟨x0, r0, rfl⟩ : ∃ x0 r0, xs = x0 :: r0 := by
                cases xs with
                | nil => exact absurd e1 (by decide)
                | cons x0 r0 => exact ⟨x0, r0, rfl⟩
              have isS : ∀ y ∈ x0 :: r0, ∃ z : Str, y = .str z ∧ z.length ≤ sizeLine := fun y hy => by
                have h := List.all_eq_true.mp eall y hy
                cases y with
                | str z => exact ⟨z, rfl, (kn' _ hy).2 z rfl⟩
                | _ => cases h
              obtain ⟨z0, ez0, hz0⟩ := isS x0 List.mem_cons_self
              refine ⟨.ref a, rfl, a, rfl, ⟨_, hx2⟩, fun D2 hD2 => lc_tup (K := K) (a := a) (xs := x0 :: r0) (fun i H3 => Same H2 H3 ∧ H3 D2 = some (.lst (((x0 :: r0).take i).map fun y => V.bl (decide (lenV y = lenV x0))))) ⟨same_upd hD2, upd_same⟩ (fun i H3 _ z => sameT z.1 hx2) ?_ ?_⟩
              · rintro i y H3 hi ⟨sm3, h3⟩
                have hm : y ∈ x0 :: r0 := List.mem_of_getElem? hi
                obtain ⟨zy, ey, hzy⟩ := isS y hm
                refine ⟨rfl, y, rfl, zy, by rw [ey], hzy, .ref a, rfl, a, x0 :: r0, 0, x0, rfl, rfl, sameT sm3 hx2, atI_nat (j := 0) rfl, z0, by rw [ez0], hz0, rfl, _, h3, ?_, ?_, ?_⟩
                · rw [List.length_map, List.length_take]
                  exact small1000 (by omega)
                · exact fun b o e => by
                    rw [upd_ne (ne_of_none e hD2)]
                    exact sm3 _ _ e
                · rw [upd_same, take_snoc hi, List.map_append]
                  have e5 : decide (V.int (zy.length : Int) = V.int (z0.length : Int)) = decide (lenV y = lenV x0) := by
                    rw [ey, ez0]
                    exact Bool.eq_iff_iff.mpr ⟨fun h => decide_eq_true (V.int.inj (of_decide_eq_true h)), fun h => decide_eq_true (congrArg V.int (of_decide_eq_true h))⟩
                  rw [e5]
                  rfl
              · rintro H3 ⟨sm3, h3⟩
                rw [List.take_length, bls] at h3
                refine ⟨D2, _, rfl, SqL.of h3, ?_⟩
                rw [all_map_id]
                have z : picOk (x0 :: r0) = (x0 :: r0).all fun y => decide (lenV y = lenV x0) := by
                  unfold picOk
                  rw [eall, decide_eq_true e1, decide_eq_true e3]
                  rfl
                rw [z] at q
                exact q H3 (sm.trans sm3)
      · have e1 : ¬ 1 ≤ xs.length := fun le => e (decide_eq_true (by omega))
        have z : picOk xs = false := by
          unfold picOk
          rw [decide_eq_false e1, Bool.false_and, Bool.false_and, Bool.false_and]
        rw [z] at q
        exact ⟨_, rfl, q H (Same.refl H)⟩
end
end Dt
namespace L2X
open PySem PySem.Spec PyProof.Rows L2
section
variable {X : Cx}
/-- a tuple once is itself -/
theorem tuple_mul1 (l : Addr) (items : Array Value) (n : Nat) (dd : Option Addr) (sl : Array (Option Value)) (u : Tok) :
    Meets (Builtin.«tuple.__mul__» ⟨[.ref l, .int 1 u], []⟩) (fun _ R s => s.heap.get? l = some { cls := .type "tuple", dict := dd, data := .seq items n, slots := sl } ∧ R (.ok (.ret (Value.ref l))) s) :=
  .of_wp fun prog w A R s h => by
    obtain ⟨hp, g, d, tk, os⟩ := s
    obtain ⟨hl, h⟩ := h
    have f1 := AutoSeq1.idx_int
    wp_walk using wpAny_loadPart' hl
    exact ⟨_, rfl, h⟩
/-- list(text) -/
theorem vals_signs : ∀ (l : List Nat) (its : List Value), l.length = its.length → (∀ (j : Nat) (v : Value), its[j]? = some v → ∃ (c : Nat) (u : Tok), l[j]? = some c ∧ v = Value.str ⟨#[c]⟩ u) → Vals (l.map fun c => V.str ⟨#[c]⟩) its
  | [], [], _, _ => .nil
  | [], _ :: _, h, _ => by cases h
  | _ :: _, [], h, _ => by cases h
  | c :: r, v :: t, h, g => by
    obtain ⟨c', u, e1, e2⟩ := g 0 v rfl
    have e3 : c = c' := Option.some.inj e1
    subst e3
    refine .cons ⟨u, e2⟩ (vals_signs r t (Nat.succ.inj h) fun j w e => ?_)
    obtain ⟨c2, u2, e4, e5⟩ := g (j + 1) w e
    exact ⟨c2, u2, e4, e5⟩
theorem call_listS (hc : X.calm = true) : CallR X (.type "list") (fun xs H Q => ∃ x : Str, xs = [.str x] ∧ x.length ≤ sizeLine ∧ ∀ l, H l = none → Q (.ref l) (upd H l (.lst (x.cps.toList.map fun c => V.str ⟨#[c]⟩)))) := by
  intro pins s σ H xs us Q I r h
  obtain ⟨x, rfl, hx, q⟩ := h
  obtain ⟨u, rfl, t, rfl⟩ := vals1 r
  refine call_list_str (I.ok.hd hc) x t (fun h' tk acc c' keeps got it => ?_) hx
  have hl : x.cps.toList.length = acc.toList.length := by
    rw [Array.length_toList, Array.length_toList, it.1]
  have vs := vals_signs x.cps.toList acc.toList hl fun j v e => by
    obtain ⟨c, u', e1, e2⟩ := it.2 j v (by rw [← Array.getElem?_toList]; exact e)
    exact ⟨c, u', by rw [Array.getElem?_toList]; exact e1, e2⟩
  refine ⟨.ref s.heap.objs.size, _, I.laid (t' := tk) keeps (Nat.le_refl _) ?_, rfl, q _ (I.hok.fresh (Nat.le_refl _))⟩
  refine ⟨?_, acc.toList, c', vs, ?_⟩
  · rw [List.length_map]
    exact hx
  · rw [got]
/-- t * n, n from 1 on -/
def rRepA (K : PySem.W.Frag) : R2 := fun x y H Q => ∃ l k xs, x = .ref l ∧ y = .int k ∧ SqT K H l xs ∧ xs ≠ [] ∧ 1 ≤ k ∧ k ≤ 1000 ∧ xs.length ≤ 1000 ∧ (k = 1 → Q (.ref l) H) ∧ (2 ≤ k → ∀ p, H p = none → Q (.ref p) (upd H p (.tup (List.replicate k.toNat xs).flatten)))
theorem op_repA : OpR X (binaryOp .Mult) (rRepA X.K) := by
  intro pins s σ H x y v u Q I rx ry h
  obtain ⟨l, k, xs, rfl, rfl, hT, hne, h1, h2, hz, q1, q2⟩ := h
  by_cases e1 : k = 1
  · subst e1
    cases rx
    obtain ⟨t, rfl⟩ := ry
    obtain ⟨its, _, ⟨⟨cls, dd, data, sl⟩, got, hc, n, hd⟩, _⟩ := I.tuple hT
    simp only at hc hd
    subst hc hd
    have once := tuple_mul1 l its.toArray n dd sl t
    have back := int_rmul_tuple 1 t l its.toArray n dd sl
    refine wpAny_binaryOp_repeat_ref (T := "tuple") (U := "int") (by decide) ⟨_, got, rfl⟩ (fun s' => typeIs_int s' 1 t)
      noFill_tuple_mul F.fills_int_mul F.slot_int_rmul repeat_tuple F.slot_int_index.lookup ?_
    refine call_meets F.slot_int_rmul (typeIs_int s 1 t) F.entry_int_rmul (F.args_int_rmul_2 _ _) back ⟨got, rfl, ⟨_, got, rfl⟩, ?_⟩
    refine call_meets F.slot_tuple_mul ⟨_, got, rfl⟩ F.entry_tuple_mul (F.args_tuple_mul_2 _ _) once ⟨got, ?_⟩
    exact ⟨.ref l, H, I, rfl, q1 rfl⟩
  · exact op_repT pins s σ H _ _ v u Q I rx ry ⟨l, k, xs, rfl, rfl, hT, hne, by omega, h2, hz, q2 (by omega)⟩
end
end L2X
namespace Dt
open PySem PySem.Spec PyProof.Rows L2 L2X
open SX (S)
/-! ### rows and pictures by their signs -/
theorem cnt_two : ∀ l : List Nat, cnt 35 l + cnt 46 l ≤ l.length ∧ (cnt 35 l + cnt 46 l = l.length ↔ ∀ c ∈ l, c = 35 ∨ c = 46)
  | [] => ⟨by rw [cnt_nil, cnt_nil]; exact Int.le_refl _, by rw [cnt_nil, cnt_nil]; exact ⟨fun _ _ h => (List.not_mem_nil h).elim, fun _ => rfl⟩⟩
  | n :: r => by
    obtain ⟨h1, h2⟩ := cnt_two r
    rw [cnt_cons, cnt_cons, List.length_cons]
    have e : ∀ c ∈ n :: r, (c = 35 ∨ c = 46) ↔ True ∧ (c = 35 ∨ c = 46) := fun c _ => by simp
    by_cases a : n = 35
    · subst a
      rw [if_pos rfl, if_neg (by decide)]
      refine ⟨by omega, ⟨fun z => ?_, fun z => ?_⟩⟩
      · have z2 := h2.mp (by omega)
        intro c hc
        rcases List.mem_cons.mp hc with q | q
        · exact .inl q
        · exact z2 c q
      · have := h2.mpr fun c hc => z c (List.mem_cons_of_mem _ hc)
        omega
    · by_cases b : n = 46
      · subst b
        rw [if_neg (by decide), if_pos rfl]
        refine ⟨by omega, ⟨fun z => ?_, fun z => ?_⟩⟩
        · have z2 := h2.mp (by omega)
          intro c hc
          rcases List.mem_cons.mp hc with q | q
          · exact .inr q
          · exact z2 c q
        · have := h2.mpr fun c hc => z c (List.mem_cons_of_mem _ hc)
          omega
      · rw [if_neg a, if_neg b]
        refine ⟨by omega, ⟨fun z => by omega, fun z => ?_⟩⟩
        rcases z n List.mem_cons_self with q | q
        · exact absurd q a
        · exact absurd q b
theorem rowOk_S (l : List Nat) : rowOk (.str (S l)) = (decide (1 ≤ l.length) && decide (l.length ≤ 120) && decide (∀ c ∈ l, c = 35 ∨ c = 46)) := by
  have e : decide (Txt.count (S l) "#" + Txt.count (S l) "." = ((S l).length : Int)) = decide (∀ c ∈ l, c = 35 ∨ c = 46) := by
    rw [s_hash, s_dot, count_cnt, count_cnt, SX.S_len]
    exact Bool.eq_iff_iff.mpr ⟨fun h => decide_eq_true ((cnt_two l).2.mp (of_decide_eq_true h)), fun h => decide_eq_true ((cnt_two l).2.mpr (of_decide_eq_true h))⟩
  rw [rowOk_str, e, SX.S_len]
theorem rowOk_rv {wide : Nat} {l : List Nat} (h : RowR wide l) (w0 : 1 ≤ wide) (w1 : wide ≤ 120) : rowOk (rv l) = true := by
  unfold rv
  rw [rowOk_S, h.len, decide_eq_true w0, decide_eq_true w1, decide_eq_true h.sg]
  rfl
theorem rowOk_bad {l : List Nat} {c : Nat} (hc : c ∈ l) (h1 : c ≠ 35) (h2 : c ≠ 46) : rowOk (.str (S l)) = false := by
  rw [rowOk_S, decide_eq_false (p := ∀ c ∈ l, c = 35 ∨ c = 46), Bool.and_false]
  intro z
  rcases z c hc with q | q
  · exact h1 q
  · exact h2 q
theorem rowOk_len {l : List Nat} (h : l.length = 0 ∨ 120 < l.length) : rowOk (.str (S l)) = false := by
  rw [rowOk_S]
  rcases h with h | h
  · rw [decide_eq_false (by omega : ¬ 1 ≤ l.length)]
    rfl
  · rw [decide_eq_false (by omega : ¬ l.length ≤ 120), Bool.and_false, Bool.false_and]
theorem lenV_S (l : List Nat) : lenV (.str (S l)) = (l.length : Int) := by
  show ((S l).length : Int) = _
  rw [SX.S_len]
theorem picOk_pic {high wide : Nat} {rs : List (List Nat)} (h : PicR high wide rs) : picOk (rs.map rv) = true := by
  unfold picOk
  have a1 : decide (1 ≤ (rs.map rv).length) = true := decide_eq_true (by rw [List.length_map, h.len]; exact h.h0)
  have a2 : decide ((rs.map rv).length ≤ 60) = true := decide_eq_true (by rw [List.length_map, h.len]; exact h.h1)
  have a3 : (rs.map rv).all rowOk = true := List.all_eq_true.mpr fun y hy => by
    obtain ⟨l, hl, rfl⟩ := List.mem_map.mp hy
    exact rowOk_rv (h.row l hl) h.w0 h.w1
  have len : ∀ y ∈ rs.map rv, lenV y = (wide : Int) := fun y hy => by
    obtain ⟨l, hl, rfl⟩ := List.mem_map.mp hy
    unfold rv
    rw [lenV_S, (h.row l hl).len]
  have a4 : ((rs.map rv).all fun y => decide (lenV y = lenV ((rs.map rv).headD .non))) = true := List.all_eq_true.mpr fun y hy => by
    refine decide_eq_true ?_
    rw [len y hy]
    cases e : rs.map rv with
    | nil =>
      rw [e] at hy
      cases hy
    | cons x r =>
      have z := len x (by rw [e]; exact List.mem_cons_self)
      exact z.symm
  rw [a1, a2, a3, a4]
  rfl
/-- one row put in the place of another: no picture -/
theorem picOk_odd {high wide r : Nat} {rs : List (List Nat)} {one : V} (h : PicR high wide rs) (hr : r < high) (b : rowOk one = false ∨ (2 ≤ high ∧ lenV one ≠ (wide : Int))) :
    picOk ((rs.map rv).take r ++ [one] ++ (rs.map rv).drop (r + 1)) = false := by
  cases e : picOk ((rs.map rv).take r ++ [one] ++ (rs.map rv).drop (r + 1)) with
  | false => rfl
  | true =>
    exfalso
    unfold picOk at e
    rw [Bool.and_eq_true, Bool.and_eq_true, Bool.and_eq_true] at e
    obtain ⟨⟨⟨_, _⟩, e3⟩, e4⟩ := e
    have m1 : one ∈ (rs.map rv).take r ++ [one] ++ (rs.map rv).drop (r + 1) := by simp
    rcases b with b | ⟨b1, b2⟩
    · have z := List.all_eq_true.mp e3 one m1
      rw [b] at z
      cases z
    · have len : ∀ y ∈ rs.map rv, lenV y = (wide : Int) := fun y hy => by
        obtain ⟨l, hl, rfl⟩ := List.mem_map.mp hy
        unfold rv
        rw [lenV_S, (h.row l hl).len]
      obtain ⟨y, m2, hy⟩ : ∃ y, y ∈ (rs.map rv).take r ++ [one] ++ (rs.map rv).drop (r + 1) ∧ y ∈ rs.map rv := by
        have hl : (rs.map rv).length = high := by rw [List.length_map, h.len]
        by_cases hr0 : r = 0
        · subst hr0
          have : 1 < (rs.map rv).length := by omega
          refine ⟨(rs.map rv)[1], ?_, List.getElem_mem _⟩
          refine List.mem_append_right _ ?_
          exact List.mem_of_getElem? (i := 0) (by rw [List.getElem?_drop, List.getElem?_eq_getElem this])
        · have : 0 < (rs.map rv).length := by omega
          refine ⟨(rs.map rv)[0], ?_, List.getElem_mem _⟩
          refine List.mem_append_left _ (List.mem_append_left _ ?_)
          exact List.mem_of_getElem? (i := 0) (by rw [List.getElem?_take, if_pos (by omega), List.getElem?_eq_getElem this])
      have z1 := of_decide_eq_true (List.all_eq_true.mp e4 one m1)
      have z2 := of_decide_eq_true (List.all_eq_true.mp e4 y m2)
      exact b2 (z1.trans (z2.symm.trans (len y hy)))
end Dt
namespace Dt
open PySem PySem.Spec PyProof.Rows L2 L2X
open SX (S)
/-! ### refusals -/
/-- the class NoPicture, as the top has made it, at C -/
structure Tn (K : PySem.W.Frag) (mg : Str → Option Value) (C : Addr) : Prop where
  g : mg "NoPicture" = some (.ref C)
  x : PySem.W.excIn K C [.type "ValueError", .type "Exception", .type "BaseException", .type "object"] "ValueError.__new__" = true
  k : PySem.W.keepIn K (.ref C) = true
  b : PySem.W.subIn K (.ref C) (.type "BaseException") = some true
  t : PySem.W.typeIn K (.ref C) = some (.type "type")
abbrev sWant : Stmt := topS 14
theorem scWant : FnScope ["thing"] ["thing"] (defScope sWant) := ⟨rfl, rfl, rfl, by decide +kernel, rfl, by decide +kernel, by decide +kernel⟩
def spWant (K : PySem.W.Frag) (C : Addr) : Sp := fun vs H Q E => ∃ x b, vs = [x] ∧ Asked K H x b ∧ (b = true → ∀ H', Same H H' → Q .non H') ∧ (b = false → ∀ H', Same H H' → E (.ref C) none H')
section
variable {P : Program} {w : World} {K : PySem.W.Frag} {mg : Str → Option Value} {base : Heap} {C : Addr}
theorem ok_want {f fP : Addr} {fd fdP : FuncData} {k : Nat} (F : Fun K "want_picture" "want_picture" sWant f fd) (N : Tn K mg C) (GP : FnOk P w K mg base CX0 (k + 1) fP fdP ["thing"] (spIsPic K)) (mP : mg "is_picture" = some (.ref fP)) (kP : PySem.W.keepIn K (.ref fP) = true) (bP : Binds K fdP ["thing"] []) :
    FnOk P w K mg base (L2.CX P w) (k + 2) f fd ["thing"] (spWant K C) := by
  refine F.okX scWant (fun vs H Q E h => ?_) (fun cdv A outer s H vs Q E hr h => ?_)
  · obtain ⟨x, b, rfl, _⟩ := h
    rfl
  · obtain ⟨x, b, rfl, ask, q1, q2⟩ := h
    refine ⟨_, pss_one (ps_if (pt_not (pt_val (pe_call GP hr (by rfl) mP kP bP .nil pass0 (pa_cons (pv 0) pa_nil)))) (pss_one (ps_raise rfl (takes_of rfl rfl rfl rfl) (pmk_own PySem.F.excBase_ValueError N.x N.g N.k (raises_own N.b N.t) rfl))) pss_nil), ?_⟩
    refine ⟨x, rfl, x, b, rfl, ask, fun H' sm => ⟨_, rfl, ?_⟩⟩
    cases b with
    | true => exact iteF (q1 rfl H' sm)
    | false => exact iteT (q2 rfl H' sm)
end
end Dt
namespace Dt
open PySem PySem.Spec PyProof.Rows L2 L2X
open SX (S)
theorem pss_never {X : Cx} {st : List Stmt} : PSs X st (fun _ _ _ => False) := ⟨fun _ _ _ _ _ _ h => h.elim⟩
theorem pg_never {X : Cx} {tg : Expr} : PG X tg (fun _ _ _ _ => False) := ⟨fun _ _ _ _ _ _ _ _ _ h => h.elim⟩
abbrev sSize : Stmt := topS 15
theorem scSize : FnScope ["picture"] ["picture"] (defScope sSize) := ⟨rfl, rfl, rfl, by decide +kernel, rfl, by decide +kernel, by decide +kernel⟩
/-- size of a picture, or of what is none -/
def spSize (K : PySem.W.Frag) (C : Addr) : Sp := fun vs H Q E => ∃ x, vs = [x] ∧ ((Asked K H x false ∧ ∀ H', Same H H' → E (.ref C) none H') ∨
  ∃ a xs, x = .ref a ∧ SqT K H a xs ∧ (∀ y ∈ xs, Kn K H y) ∧ picOk xs = true ∧ ∀ p H', Same H H' → H p = none → H' p = some (.tup [.int (xs.length : Int), .int (lenV (xs.headD .non))]) → Q (.ref p) H')
theorem Asked.same {K : PySem.W.Frag} {H H' : Hp} {x : V} {b : Bool} (h : Asked K H x b) (s : Same H H') : Asked K H' x b := by
  rcases h with ⟨T, t, ok, ne, e⟩ | ⟨a, xs, e, h1, h2, e2⟩
  · refine .inl ⟨T, ?_, ok, ne, e⟩
    cases t with
    | non => exact .non
    | bl b => exact .bl b
    | int i => exact .int i
    | str x => exact .str x
    | byt b => exact .byt b
    | lst h => exact .lst (s.seq h)
    | tup h => exact .tup (sameT s h)
    | dK h => exact .dK (s _ _ h)
  · exact .inr ⟨a, xs, e, sameT s h1, fun l y hy => (h2 l y hy).same s, e2⟩
section
variable {P : Program} {w : World} {K : PySem.W.Frag} {mg : Str → Option Value} {base : Heap} {C : Addr}
/-- want_picture, and whoever calls it first -/
structure GW (P : Program) (w : World) (K : PySem.W.Frag) (mg : Str → Option Value) (base : Heap) (C : Addr) (k : Nat) : Prop where
  ex : ∃ f fd, FnOk P w K mg base (L2.CX P w) k f fd ["thing"] (spWant K C) ∧ mg "want_picture" = some (.ref f) ∧ PySem.W.keepIn K (.ref f) = true ∧ Binds K fd ["thing"] []
structure GS (P : Program) (w : World) (K : PySem.W.Frag) (mg : Str → Option Value) (base : Heap) (C : Addr) (k : Nat) : Prop where
  ex : ∃ f fd, FnOk P w K mg base (L2.CX P w) k f fd ["picture"] (spSize K C) ∧ mg "size" = some (.ref f) ∧ PySem.W.keepIn K (.ref f) = true ∧ Binds K fd ["picture"] []
theorem ok_size {f : Addr} {fd : FuncData} {k : Nat} (F : Fun K "size" "size" sSize f fd) (X : Tx mg) (G : GW P w K mg base C (k + 1)) : FnOk P w K mg base (L2.CX P w) (k + 2) f fd ["picture"] (spSize K C) := by
  obtain ⟨fW, fdW, GW, mW, kW, bW⟩ := G.ex
  refine F.okX scSize (fun vs H Q E h => ?_) (fun cdv A outer s H vs Q E hr h => ?_)
  · obtain ⟨x, rfl, _⟩ := h
    rfl
  · obtain ⟨x, rfl, h⟩ := h
    refine ⟨_, pss_cons (ps_expr (pe_callS GW hr (by rfl) mW kW bW (fun σ => passAt (takes_of rfl rfl rfl rfl) σ) (pa_cons (pv 0) pa_nil)))
      (pss_one (ps_ret (pe_tup (pa_cons (pe_callB call_len_seq (by rfl) X.len PySem.boot_len (pa_cons (pv 0) pa_nil)) (pa_cons (pe_callB call_len_str (by rfl) X.len PySem.boot_len (pa_cons (pe_ix (r := rIxT K) ix_tup (pv 0) pe_int (fun _ _ => rfl)) pa_nil)) pa_nil))))), ?_⟩
    rcases h with ⟨ask, q⟩ | ⟨a, xs, rfl, hx, kn, ok, q⟩
    · exact ⟨x, rfl, x, false, rfl, ask, (fun e => nomatch e), fun _ H' sm => q H' sm⟩
    · refine ⟨.ref a, rfl, .ref a, true, rfl, .inr ⟨a, xs, rfl, hx, fun _ => kn, ok.symm⟩, fun _ H' sm => ?_, fun e => nomatch e⟩
      have hx' := sameT sm hx
      unfold picOk at ok
      rw [Bool.and_eq_true, Bool.and_eq_true, Bool.and_eq_true] at ok
      obtain ⟨⟨⟨o1, o2⟩, o3⟩, o4⟩ := ok
      cases xs with
      | nil => exact absurd (of_decide_eq_true o1) (by decide)
      | cons x0 r =>
        have hk := List.all_eq_true.mp o3 x0 List.mem_cons_self
        cases x0 with
        | str z =>
          have hz := (kn _ List.mem_cons_self).2 z rfl
          refine ⟨.ref a, rfl, a, _, rfl, .inr hx', .ref a, rfl, a, _, 0, .str z, rfl, rfl, hx', atI_nat (j := 0) rfl, z, rfl, hz, by show 2 ≤ sizeLine; decide, fun p hp => ?_⟩
          exact q p _ (sm.trans (same_upd hp)) (sm.free hp) upd_same
        | _ => cases hk
end
theorem upd_at2 {H : Hp} {p : Addr} {o : HO} : (upd H p o) p = some o := upd_same
theorem kn_str2 {K : PySem.W.Frag} {H : Hp} {z : Str} (h : z.length ≤ sizeLine) : Kn K H (.str z) := ⟨⟨"str", .str z, rfl⟩, fun y e => by cases e; exact h⟩
theorem kn_rows {K : PySem.W.Frag} {H : Hp} {high wide : Nat} {rs : List (List Nat)} (h : PicR high wide rs) : ∀ y ∈ rs.map rv, Kn K H y := by
  intro y hy
  obtain ⟨x, hx, rfl⟩ := List.mem_map.mp hy
  refine kn_str2 ?_
  show x.length ≤ sizeLine
  have := (h.row x hx).len
  have := h.w1
  exact Nat.le_of_lt (small1000 (by omega))
theorem askPic {K : PySem.W.Frag} {H : Hp} {high wide : Nat} {rs : List (List Nat)} {a : Addr} (h : PicR high wide rs) (e : H a = some (.tup (rs.map rv))) : Asked K H (.ref a) true :=
  .inr ⟨a, _, rfl, SqT.of e, fun _ => kn_rows h, (picOk_pic h).symm⟩
theorem picSize {high wide : Nat} {rs : List (List Nat)} (h : PicR high wide rs) : (((rs.map rv).length : Nat) : Int) = (high : Int) ∧ lenV ((rs.map rv).headD .non) = (wide : Int) := by
  refine ⟨by rw [List.length_map, h.len], ?_⟩
  cases rs with
  | nil =>
    have h1 := h.len
    have h2 := h.h0
    simp at h1
    omega
  | cons l r =>
    have e := (h.row l List.mem_cons_self).len
    show lenV (rv l) = _
    unfold rv
    rw [lenV_S, e]
end Dt
/-! zip of two and enumerate, over any of a list, a tuple, a text -/
namespace L2X
open PySem PySem.Spec PyProof.Rows L2
inductive Src
  | lst (a : Addr)
  | tup (a : Addr)
  | txt (z : Str)
def chars (z : Str) : List V := z.cps.toList.map fun c => V.str ⟨#[c]⟩
/-- what stands in it -/
def Src.has (K : PySem.W.Frag) (H : Hp) : Src → List V → Prop
  | .lst a, xs => SqL K H a xs
  | .tup a, xs => SqT K H a xs
  | .txt z, xs => xs = chars z
def Src.val : Src → V
  | .lst a => .ref a
  | .tup a => .ref a
  | .txt z => .str z
/-- its iterator at its i-th item -/
def Src.it (it : Addr) (i : Nat) (h : Heap) : Src → Prop
  | .lst a => h.IsListIter it a i
  | .tup a => h.IsTupleIter it a i
  | .txt z => ∃ t, h.IsStrIter it (strIterType z) z t i
def Src.off (c : Addr) : Src → Prop
  | .lst a => a ≠ c
  | .tup a => a ≠ c
  | .txt _ => True
theorem Src.it_obj {S : Src} {it : Addr} {i : Nat} {h : Heap} (e : S.it it i h) : ∃ o, h.get? it = some o ∧ ∀ v, o.data ≠ .cell v := by
  cases S with
  | lst a =>
    obtain ⟨o, e1, _, d⟩ := e
    exact ⟨o, e1, fun v q => by rw [d] at q; cases q⟩
  | tup a =>
    obtain ⟨o, e1, _, d⟩ := e
    exact ⟨o, e1, fun v q => by rw [d] at q; cases q⟩
  | txt z =>
    obtain ⟨t, o, e1, _, d⟩ := e
    exact ⟨o, e1, fun v q => by rw [d] at q; cases q⟩
theorem Src.it_at {S : Src} {it : Addr} {i : Nat} {h h' : Heap} (e : S.it it i h) (k : ∀ o, h.get? it = some o → h'.get? it = some o) : S.it it i h' := by
  cases S with
  | lst a => exact Heap.IsListIter.at e k
  | tup a => exact Heap.IsTupleIter.at e k
  | txt z =>
    obtain ⟨t, o, e1, e2, d⟩ := e
    exact ⟨t, o, k _ e1, e2, d⟩
section
variable {X : Cx} {pins : List (Addr × Obj)} {σ : L2.St} {H : Hp} {s : Shared}
theorem Src.inj {S : Src} {xs ys : List V} (I : Inv X pins σ H s) (h : S.has X.K H xs) (h' : S.has X.K H ys) : xs = ys := by
  cases S with
  | lst a => exact I.list_inj h h'
  | tup a => exact I.tuple_inj h h'
  | txt z => exact Eq.trans h (Eq.symm h')
/-- what its iterator draws, now -/
theorem Src.draws {S : Src} {xs : List V} {it : Addr} {i : Nat} {A : Around} (I : Inv X pins σ H s) (hh : A.handled = none) (h : S.has X.K H xs) (st : S.it it i s.heap) (off : S.off it) :
    ∃ (fp : List Addr) (P : Nat → Value → Prop) (St : Nat → Heap → Prop), Draws X.prog X.w A it fp xs.length P St ∧ St i s.heap ∧ it ∈ fp ∧ (∀ c, c ≠ it → S.off c → c ∉ fp) ∧ (∀ j v, P j v → ∃ x, xs[j]? = some x ∧ RelV x v) ∧ (∀ j h, St j h → S.it it j h) := by
  cases S with
  | lst a =>
    obtain ⟨its, rv, p, _⟩ := I.list h
    have el : its.toArray.size = xs.length := by rw [rv.length]; simp
    rw [← el]
    refine ⟨[it, a], _, _, Draws.list hh it a off its.toArray, ⟨st, p.isList⟩, by simp, fun c hc ho hm => ?_, fun j v hv => ?_, fun j h e => e.1⟩
    · have e' : c = it ∨ c = a := by simpa using hm
      rcases e' with e' | e'
      · exact hc e'
      · exact ho e'.symm
    · have hv' : its[j]? = some v := by simpa using hv
      have hj : j < xs.length := by
        rw [← el]
        have := (List.getElem?_eq_some_iff.mp hv').1
        simpa using this
      obtain ⟨u, hu, ru⟩ := rv.get (List.getElem?_eq_getElem hj)
      rw [hv'] at hu
      cases hu
      exact ⟨_, List.getElem?_eq_getElem hj, ru⟩
  | tup a =>
    obtain ⟨its, rv, p, _⟩ := I.tuple h
    have el : its.toArray.size = xs.length := by rw [rv.length]; simp
    rw [← el]
    refine ⟨[it, a], _, _, Draws.tuple hh it a off its.toArray, ⟨st, p⟩, by simp, fun c hc ho hm => ?_, fun j v hv => ?_, fun j h e => e.1⟩
    · have e' : c = it ∨ c = a := by simpa using hm
      rcases e' with e' | e'
      · exact hc e'
      · exact ho e'.symm
    · have hv' : its[j]? = some v := by simpa using hv
      have hj : j < xs.length := by
        rw [← el]
        have := (List.getElem?_eq_some_iff.mp hv').1
        simpa using this
      obtain ⟨u, hu, ru⟩ := rv.get (List.getElem?_eq_getElem hj)
      rw [hv'] at hu
      cases hu
      exact ⟨_, List.getElem?_eq_getElem hj, ru⟩
  | txt z =>
    obtain ⟨t, st⟩ := st
    have hx : xs = chars z := h
    have el : z.cps.size = xs.length := by rw [hx]; simp [chars]
    rw [← el]
    refine ⟨[it], _, _, Draws.text hh it z t, st, by simp, fun c hc _ hm => hc (by simpa using hm), fun j v hv => ?_, fun j h e => ⟨t, e⟩⟩
    obtain ⟨c, u, e1, rfl⟩ := hv
    refine ⟨.str ⟨#[c]⟩, ?_, _, rfl⟩
    rw [hx]
    unfold chars
    rw [List.getElem?_map, Array.getElem?_toList, e1]
    rfl
/-- two things at each turn, in new pairs -/
def ItzG (K : PySem.W.Frag) (A B : Src) : It :=
  ⟨fun i H => ∃ (xs ys : List V) (x y : V), A.has K H xs ∧ B.has K H ys ∧ xs[i]? = some x ∧ ys[i]? = some y,
    fun i H v H' => ∃ T x y, v = .ref T ∧ H T = none ∧ H' = upd H T (.tup [x, y]) ∧ (∀ xs, A.has K H xs → xs[i]? = some x) ∧ ∀ ys, B.has K H ys → ys[i]? = some y,
    fun i H => ∃ xs ys : List V, A.has K H xs ∧ B.has K H ys ∧ (xs.length = i ∧ i ≤ ys.length ∨ ys.length = i ∧ i ≤ xs.length)⟩
structure Apart5 (A B : Src) (z TI TO i1 i2 : Addr) : Prop where
  TIz : TI ≠ z
  TOz : TO ≠ z
  i1z : i1 ≠ z
  i2z : i2 ≠ z
  TITO : TI ≠ TO
  TIi1 : TI ≠ i1
  TIi2 : TI ≠ i2
  TOi1 : TO ≠ i1
  TOi2 : TO ≠ i2
  i12 : i1 ≠ i2
  az : A.off z
  aT : A.off TO
  a1 : A.off i1
  a2 : A.off i2
  bz : B.off z
  bT : B.off TO
  b1 : B.off i1
  b2 : B.off i2
theorem turn_zipG {P : Program} {w : World} {K : PySem.W.Frag} {elts : List Expr} {kk : Nat} {tpos : Pos} {A B : Src} {z TI TO i1 i2 : Addr} (D : Apart5 A B z TI TO i1 i2) :
    Turn P w K (.Tuple elts kk tpos) (ItzG K A B) [z, TI, TO, i1, i2] z (fun i h => IsZip h z TI TO .none ∧ IsTupOf2 h TI (.ref i1) (.ref i2) ∧ (∃ x y, IsTupOf2 h TO x y) ∧ A.it i1 i h ∧ B.it i2 i h) where
  mem := by simp
  obj := fun i h st c hc => by
    obtain ⟨hz, hTI, ⟨x, y, hTO⟩, h1, h2⟩ := st
    have e' : c = z ∨ c = TI ∨ c = TO ∨ c = i1 ∨ c = i2 := by simpa using hc
    rcases e' with q | q | q | q | q
    · rw [q]; exact ⟨_, hz, fun v q => nomatch q⟩
    · rw [q]; exact ⟨_, hTI, fun v q => nomatch q⟩
    · rw [q]; exact ⟨_, hTO, fun v q => nomatch q⟩
    · rw [q]; exact Src.it_obj h1
    · rw [q]; exact Src.it_obj h2
  keep := fun i h h' st k => by
    obtain ⟨hz, hTI, ⟨x, y, hTO⟩, h1, h2⟩ := st
    exact ⟨k z (by simp) _ hz, k TI (by simp) _ hTI, ⟨x, y, k TO (by simp) _ hTO⟩, Src.it_at h1 fun o q => k i1 (by simp) o q, Src.it_at h2 fun o q => k i2 (by simp) o q⟩
  item := by
    intro X hP hw hK hc i pins s σ H E I hf st hg
    subst hP hw hK
    obtain ⟨hz, hTI, ⟨x0, y0, hTO⟩, h1, h2⟩ := st
    obtain ⟨xs, ys, x, y, hqx, hqy, hx, hy⟩ := hg
    obtain ⟨f1, P1, S1, D1, s1, m1, o1, p1, t1⟩ := Src.draws (A := X.A.in1) I (I.ok.hd hc) hqx h1 D.a1
    obtain ⟨f2, P2, S2, D2, s2, m2, o2, p2, t2⟩ := Src.draws (A := X.A.in1) I (I.ok.hd hc) hqy h2 D.b2
    have sep : ZipSep2 z TI TO i1 i2 f1 f2 := ⟨D.TIz, D.TOz, D.TITO, D.TIi1, m1, o1 _ D.i1z.symm D.az, o1 _ D.TOi1 D.aT, D.TIi2, m2, o2 _ D.i2z.symm D.bz, o2 _ D.TOi2 D.bT, o2 _ D.i12 D.b1, o1 _ D.i12.symm D.a2⟩
    have hzl : z < s.heap.objs.size := Heap.lt_size hz
    refine wpAny_pyNext_zipD2_item sep D1 D2 hz hTI hTO s1 s2 (List.getElem?_eq_some_iff.mp hx).1 (List.getElem?_eq_some_iff.mp hy).1 fun u u2 h' tk q1 q2 z' TO' h1' h2' hT hsz hk => ?_
    obtain ⟨x', ex, ru⟩ := p1 _ _ q1
    rw [hx] at ex
    cases ex
    obtain ⟨y', ey, ru2⟩ := p2 _ _ q2
    rw [hy] at ey
    cases ey
    refine ⟨_, rfl, wpAny_letOwnedTupleGo_zip (s := { s with heap := h', toks := tk }) z' fun h'' z'' sb => ?_⟩
    have hT2 : h''.get? s.heap.objs.size = some { cls := .type "tuple", data := .seq #[u, u2] } := (sb.2 _ (Nat.ne_of_gt hzl)).trans hT
    have new : ObjOk X.prog X.w (upd H s.heap.objs.size (.tup [x, y])) h'' s.heap.objs.size (.tup [x, y]) :=
      ⟨by show 2 ≤ sizeLine; decide, [u, u2], .cons ru (.cons ru2 .nil), ⟨_, hT2, rfl, _, rfl⟩⟩
    have I1 : Inv X pins σ (upd H s.heap.objs.size (.tup [x, y])) { s with heap := h'', toks := tk } :=
      I.turnedNew (t' := tk) (ch := [z, TI, TO, i1, i2]) (fun c o hb q => (sb.2 c (fun q' => hb (by simp [q']))).trans (hk c o (fun q' => hb (by simp [q'])) (fun q' => hb (by simp [q'])) (fun q' => hb (by simp [q'])) (fun q' => hb (by simp [q'])) q)) hf (Nat.le_refl _) new
    refine ⟨.ref s.heap.objs.size, _, I1, rfl, ⟨_, x, y, rfl, I.hok.fresh (Nat.le_refl _), rfl, fun l hl => by rw [Src.inj I hl hqx]; exact hx, fun l hl => by rw [Src.inj I hl hqy]; exact hy⟩, ⟨z'', ?_, ⟨u, u2, ?_⟩, ?_, ?_⟩, fun c hcm => ?_⟩
    · exact (sb.2 _ D.TIz).trans (hk _ _ D.TIz D.TITO D.TIi1 D.TIi2 hTI)
    · exact (sb.2 _ D.TOz).trans TO'
    · exact Src.it_at (t1 _ _ h1') fun o q => (sb.2 _ D.i1z).trans q
    · exact Src.it_at (t2 _ _ h2') fun o q => (sb.2 _ D.i2z).trans q
    · have hlt : c < s.heap.objs.size := by
        have e' : c = z ∨ c = TI ∨ c = TO ∨ c = i1 ∨ c = i2 := by simpa using hcm
        rcases e' with q | q | q | q | q
        · rw [q]; exact hzl
        · rw [q]; exact Heap.lt_size hTI
        · rw [q]; exact Heap.lt_size hTO
        · rw [q]; obtain ⟨_, e1, _⟩ := Src.it_obj h1; exact Heap.lt_size e1
        · rw [q]; obtain ⟨_, e2, _⟩ := Src.it_obj h2; exact Heap.lt_size e2
      rw [upd_ne (Nat.ne_of_lt hlt)]
      exact (hf c hcm).1
  done := by
    intro X hP hw hK hc i pins s σ H E I hf st hg
    subst hP hw hK
    obtain ⟨hz, hTI, ⟨x0, y0, hTO⟩, h1, h2⟩ := st
    obtain ⟨xs, ys, hqx, hqy, hend⟩ := hg
    obtain ⟨f1, P1, S1, D1, s1, m1, o1, p1, t1⟩ := Src.draws (A := X.A.in1) I (I.ok.hd hc) hqx h1 D.a1
    obtain ⟨f2, P2, S2, D2, s2, m2, o2, p2, t2⟩ := Src.draws (A := X.A.in1) I (I.ok.hd hc) hqy h2 D.b2
    have sep : ZipSep2 z TI TO i1 i2 f1 f2 := ⟨D.TIz, D.TOz, D.TITO, D.TIi1, m1, o1 _ D.i1z.symm D.az, o1 _ D.TOi1 D.aT, D.TIi2, m2, o2 _ D.i2z.symm D.bz, o2 _ D.TOi2 D.bT, o2 _ D.i12 D.b1, o1 _ D.i12.symm D.a2⟩
    exact wpAny_pyNext_zipD2_end sep D1 D2 hz hTI hTO s1 s2 (by omega) (by omega) (by omega) fun h' tk hk => ⟨rfl, I.turnedL (t' := tk) (ch := [z, TI, TO, i1, i2]) (fun c o hb q =>
      hk c o (fun q' => hb (by simp [q'])) (fun q' => hb (by simp [q'])) (fun q' => hb (by simp [q'])) (fun q' => hb (by simp [q'])) q) hf⟩
  self := fun A i s Q E st h => wpAny_pyIter_zip st.1 h
/-- how a source begins -/
theorem Src.begins {S : Src} {xs : List V} {u : Value} (I : Inv X pins σ H s) (h : S.has X.K H xs) (r : RelV S.val u) : ∃ (o : Obj) (Hh : Heap → Prop), Begins u o Hh ∧ Hh s.heap ∧ (∀ (h' : Heap) (it : Addr), h'.get? it = some o → S.it it 0 h') ∧ ∀ c, s.heap.objs.size ≤ c → S.off c := by
  cases S with
  | lst a =>
    cases r
    obtain ⟨its, rv, p, _⟩ := I.list h
    exact ⟨_, _, begins_list a its.toArray, p.isList, fun h' it e => ⟨_, e, rfl, rfl⟩, fun c hc => Nat.ne_of_lt (Nat.lt_of_lt_of_le p.lt hc)⟩
  | tup a =>
    cases r
    obtain ⟨its, rv, p, _⟩ := I.tuple h
    obtain ⟨o, e, _⟩ := id p
    exact ⟨_, _, begins_tuple a its.toArray, p, fun h' it e => ⟨_, e, rfl, rfl⟩, fun c hc => Nat.ne_of_lt (Nat.lt_of_lt_of_le (Heap.lt_size e) hc)⟩
  | txt z =>
    obtain ⟨t, rfl⟩ := r
    exact ⟨_, _, begins_text z t, trivial, fun h' it e => ⟨t, _, e, rfl, rfl⟩, fun _ _ => trivial⟩
theorem ap_ne (N a b : Nat) (h : a ≠ b) : N + a ≠ N + b := by omega
theorem apart5_new {A B : Src} {N : Nat} (f1 : ∀ c, N ≤ c → A.off c) (f2 : ∀ c, N ≤ c → B.off c) : Apart5 A B (N + 4) (N + 2) (N + 3) N (N + 1) :=
  ⟨ap_ne N 2 4 (by decide), ap_ne N 3 4 (by decide), ap_ne N 0 4 (by decide), ap_ne N 1 4 (by decide), ap_ne N 2 3 (by decide), ap_ne N 2 0 (by decide), ap_ne N 2 1 (by decide), ap_ne N 3 0 (by decide), ap_ne N 3 1 (by decide), ap_ne N 0 1 (by decide),
    f1 _ (Nat.le_add_right _ _), f1 _ (Nat.le_add_right _ _), f1 _ (Nat.le_refl _), f1 _ (Nat.le_add_right _ _), f2 _ (Nat.le_add_right _ _), f2 _ (Nat.le_add_right _ _), f2 _ (Nat.le_refl _), f2 _ (Nat.le_add_right _ _)⟩
def iZipG (K : PySem.W.Frag) (ta : TA) : TI := fun σ H R => ta σ H fun vs H1 => ∃ (A B : Src) (xs ys : List V), vs = [A.val, B.val] ∧ A.has K H1 xs ∧ B.has K H1 ys ∧ R (ItzG K A B) H1
theorem pi_zipG {X : Cx} {e e2 : Expr} {ta : TA} {p pos tpos : Pos} {elts : List Expr} {kk : Nat} (hg : Gl X "zip") (hm : X.mg "zip" = none) (ha : PA X [e, e2] ta)
    (hs : starEach [e, e2] X.env = (false, eval e X.env) :: starEach [e2] X.env := by rfl) (hpl : (backTo pos (starEach [e2] X.env)).any (·.1) = false := by rfl) :
    PI X (.Tuple elts kk tpos) (.Call (.Name "zip" p) [e, e2] [] pos) (iZipG X.K ta) := by
  refine ⟨fun pins s σ H R I h => ?_⟩
  refine Call_ (ld_blt I hg hm PyProof.Rows.boot_zip (PyProof.Rows.callWith_type1 (thn (ha.run pos pins s σ H _ I h) fun us s1 ⟨vs, H1, I1, r1, q1⟩ => ?_) hs hpl))
  obtain ⟨A, B, xs, ys, ex, ha1, hb1, q⟩ := q1
  subst ex
  cases r1 with
  | cons r rr =>
    cases rr with
    | cons r' rr =>
      cases rr
      obtain ⟨o1, G1, B1, g1, n1, f1⟩ := Src.begins I1 ha1 r
      obtain ⟨o2, G2, B2, g2, n2, f2⟩ := Src.begins I1 hb1 r'
      refine zip_begins2 B1 B2 g1 g2 fun h' hz hTI hTO e1 e2 hsz hk => wpAny_pyIter_zip hz ?_
      have I2 : Inv X pins σ H1 { s1 with heap := h' } := I1.kept (t' := s1.toks) hk
      have ap : Apart5 A B (s1.heap.objs.size + 4) (s1.heap.objs.size + 2) (s1.heap.objs.size + 3) s1.heap.objs.size (s1.heap.objs.size + 1) :=
        apart5_new f1 f2
      refine ⟨s1.heap.objs.size + 4, [s1.heap.objs.size + 4, s1.heap.objs.size + 2, s1.heap.objs.size + 3, s1.heap.objs.size, s1.heap.objs.size + 1], _, _, H1, rfl, I2, turn_zipG ap, ⟨hz, hTI, ⟨_, _, hTO⟩, n1 _ _ e1, n2 _ _ e2⟩, fun c hcm => ?_, q⟩
      have e' : c = s1.heap.objs.size + 4 ∨ c = s1.heap.objs.size + 2 ∨ c = s1.heap.objs.size + 3 ∨ c = s1.heap.objs.size ∨ c = s1.heap.objs.size + 1 := by simpa using hcm
      have hle : s1.heap.objs.size ≤ c := by
        rcases e' with z | z | z | z | z
        · rw [z]; exact Nat.le_add_right _ _
        · rw [z]; exact Nat.le_add_right _ _
        · rw [z]; exact Nat.le_add_right _ _
        · rw [z]; exact Nat.le_refl _
        · rw [z]; exact Nat.le_add_right _ _
      exact I1.fpOk hle (I1.hok.fresh hle)
/-! ### enumerate -/
def IteG (K : PySem.W.Frag) (A : Src) : It :=
  ⟨fun i H => ∃ (xs : List V) (x : V), A.has K H xs ∧ xs[i]? = some x, fun i H v H' => ∃ T x, v = .ref T ∧ H T = none ∧ H' = upd H T (.tup [.int (i : Nat), x]) ∧ ∀ xs, A.has K H xs → xs[i]? = some x, fun i H => ∃ xs : List V, A.has K H xs ∧ xs.length = i⟩
theorem turn_enumG {P : Program} {w : World} {K : PySem.W.Frag} {elts : List Expr} {kk : Nat} {tpos : Pos} {A : Src} {e it : Addr} (hne : e ≠ it) (oe : A.off e) (oi : A.off it) :
    Turn P w K (.Tuple elts kk tpos) (IteG K A) [e, it] e (fun i h => (∃ old, IsEnum h e it ((i : Nat) : Int) old) ∧ A.it it i h) where
  mem := by simp
  obj := fun i h st b hb => by
    obtain ⟨⟨old, he⟩, hi⟩ := st
    have e' : b = e ∨ b = it := by simpa using hb
    rcases e' with z | z
    · rw [z]; exact ⟨_, he, fun v q => nomatch q⟩
    · rw [z]; exact Src.it_obj hi
  keep := fun i h h' st k => let ⟨⟨old, he⟩, hi⟩ := st; ⟨⟨old, k e (by simp) _ he⟩, Src.it_at hi fun o q => k it (by simp) o q⟩
  item := by
    intro X hP hw hK hc i pins s σ H E I hf st hg
    subst hP hw hK
    obtain ⟨⟨old, he⟩, hit⟩ := st
    obtain ⟨xs, x, hq, hx⟩ := hg
    obtain ⟨f1, P1, S1, D1, s1, m1, o1, p1, t1⟩ := Src.draws (A := X.A.in1) I (I.ok.hd hc) hq hit oi
    have hel : e < s.heap.objs.size := Heap.lt_size he
    have hil : it < s.heap.objs.size := by obtain ⟨_, q, _⟩ := Src.it_obj hit; exact Heap.lt_size q
    refine wpAny_pyNext_enum_itemD D1 he s1 (List.getElem?_eq_some_iff.mp hx).1 hne (o1 _ hne oe) fun u h' tk q1 ho hit' hT hsz hk => ?_
    obtain ⟨x', ex, ru⟩ := p1 _ _ q1
    rw [hx] at ex
    cases ex
    refine ⟨_, rfl, wpAny_letOwnedTupleGo_enum (s := { s with heap := h', toks := tk + 1 }) ho fun h'' he' sb => ?_⟩
    have hT2 : h''.get? s.heap.objs.size = some { cls := .type "tuple", data := .seq #[.int i tk, u] } := (sb.2 _ (Nat.ne_of_gt hel)).trans hT
    have new : ObjOk X.prog X.w (upd H s.heap.objs.size (.tup [.int (i : Nat), x])) h'' s.heap.objs.size (.tup [.int (i : Nat), x]) :=
      ⟨by show 2 ≤ sizeLine; decide, [.int i tk, u], .cons ⟨_, rfl⟩ (.cons ru .nil), ⟨_, hT2, rfl, _, rfl⟩⟩
    have I1 : Inv X pins σ (upd H s.heap.objs.size (.tup [.int (i : Nat), x])) { s with heap := h'', toks := tk + 1 } :=
      I.turnedNew (t' := tk + 1) (ch := [e, it]) (fun b ob hb q => (sb.2 b (fun z => hb (by simp [z]))).trans (hk b ob (fun z => hb (by simp [z])) (fun z => hb (by simp [z])) q)) hf (Nat.le_refl _) new
    refine ⟨.ref s.heap.objs.size, _, I1, rfl, ⟨_, x, rfl, I.hok.fresh (Nat.le_refl _), rfl, fun ys hy => by rw [Src.inj I hy hq]; exact hx⟩, ⟨⟨u, ?_⟩, Src.it_at (t1 _ _ hit') fun o q => (sb.2 it (Ne.symm hne)).trans q⟩, fun b hb => ?_⟩
    · have e1 : ((i + 1 : Nat) : Int) = (i : Int) + 1 := by omega
      rw [e1]; exact he'
    · have hb' : b < s.heap.objs.size := by
        have e' : b = e ∨ b = it := by simpa using hb
        rcases e' with z | z
        · rw [z]; exact hel
        · rw [z]; exact hil
      rw [upd_ne (Nat.ne_of_lt hb')]
      exact (hf b hb).1
  done := by
    intro X hP hw hK hc i pins s σ H E I hf st hg
    subst hP hw hK
    obtain ⟨⟨old, he⟩, hit⟩ := st
    obtain ⟨xs, hq, hx⟩ := hg
    subst hx
    obtain ⟨f1, P1, S1, D1, s1, m1, o1, p1, t1⟩ := Src.draws (A := X.A.in1) I (I.ok.hd hc) hq hit oi
    obtain ⟨f0, f1', f2, f3, f4, f5⟩ := hf it (by simp)
    exact wpAny_pyNext_enum_endD D1 he s1 fun h' eb => ⟨rfl, I.turned (t' := s.toks) (fun b o hb q => eb b o hb q) f0 f1' f3 f4 f5⟩
  self := fun A i s Q E st h => let ⟨⟨_, he⟩, _⟩ := st; wpAny_pyIter_enum he h
theorem meets_enumerate_new1B {v : Value} {o : Obj} {H : Heap → Prop} (B : Begins v o H) :
    Meets (Builtin.«enumerate.__new__» ⟨[.type "enumerate", v], []⟩) (fun _ R s => H s.heap ∧
      R (.ok (.ret (.ref (s.heap.push o).objs.size))) { s with heap := (s.heap.push o).push { cls := .type "enumerate", data := .fields #[.none, .bool false, .ref s.heap.objs.size, rawInt 0, .none, .none] } }) :=
  .of_wp fun prog w A R s h => by
    obtain ⟨hp, g, d, tk, os⟩ := s; obtain ⟨h1, h⟩ := h
    have hsub := sub_enumerate
    have q1 : ∀ {A' : Around} {E : Value → Shared → Prop} {Q : Value → Shared → Prop}, Q (.ref hp.objs.size) ⟨hp.push o, g, d, tk, os⟩ → wpAny (model prog w) A' (pyIter v) Q E ⟨hp, g, d, tk, os⟩ :=
      fun q => B.iter prog w _ _ ⟨hp, g, d, tk, os⟩ _ h1 q
    wp_walk
    refine wpAny_stack_any fun st => wpAny_pure ?_
    split
    · rename_i c _ _ _ _ _
      cases (c == Value.type "enumerate")
      · wp_walk using q1
        exact ⟨_, rfl, h⟩
      · wp_walk using q1
        exact ⟨_, rfl, h⟩
    · wp_walk using q1
      exact ⟨_, rfl, h⟩
theorem enum_begins1 {prog : Program} {w : World} {A : Around} {E : Value → Shared → Prop} {s : Shared} {v : Value} {o : Obj} {H : Heap → Prop} {Q : Value → Shared → Prop} (B : Begins v o H) (h1 : H s.heap)
    (h : ∀ h', IsEnum h' (s.heap.objs.size + 1) s.heap.objs.size 0 .none → h'.get? s.heap.objs.size = some o → h'.objs.size = s.heap.objs.size + 2 →
      (∀ b o, s.heap.get? b = some o → h'.get? b = some o) → Q (.ref (s.heap.objs.size + 1)) { s with heap := h' }) :
    wpAny (model prog w) A (call (.type "enumerate") [v]) Q E s := by
  refine callType_new F.called_enumerate (by decide) (F.typeCall_enumerate_1 _) (F.newCall_enumerate_1 _) (fun obj => F.args_object_init_2 obj _) F.entry_enumerate_new
    (meets_enumerate_new1B B) ⟨h1, ?_⟩
  have hz : (s.heap.push o).objs.size = s.heap.objs.size + 1 := Heap.size_push ..
  show _ ∧ _
  rw [hz]
  have he : IsEnum ((s.heap.push o).push { cls := .type "enumerate", data := .fields #[.none, .bool false, .ref s.heap.objs.size, rawInt 0, .none, .none] }) (s.heap.objs.size + 1) s.heap.objs.size 0 .none := by
    have := Heap.get?_push_size (s.heap.push o) (o := { cls := .type "enumerate", data := .fields #[.none, .bool false, .ref s.heap.objs.size, rawInt 0, .none, .none] }) rfl
    rw [hz] at this
    exact this
  exact ⟨⟨_, he, rfl⟩, h _ he (Heap.get?_push_of_some _ (Heap.get?_push_size _ B.free)) (by rw [Heap.size_push, hz]) fun b o x => Heap.get?_push_of_some _ (Heap.get?_push_of_some _ x)⟩
def iEnumG (K : PySem.W.Frag) (ta : TA) : TI := fun σ H R => ta σ H fun vs H1 => ∃ (A : Src) (xs : List V), vs = [A.val] ∧ A.has K H1 xs ∧ R (IteG K A) H1
theorem pi_enumG {X : Cx} {e : Expr} {ta : TA} {p pos tpos : Pos} {elts : List Expr} {kk : Nat} (hg : Gl X "enumerate") (hm : X.mg "enumerate" = none) (ha : PA X [e] ta) (hs : starEach [e] X.env = [(false, eval e X.env)] := by rfl) :
    PI X (.Tuple elts kk tpos) (.Call (.Name "enumerate" p) [e] [] pos) (iEnumG X.K ta) := by
  refine ⟨fun pins s σ H R I h => ?_⟩
  refine Call_ (ld_blt I hg hm boot_enumerate (PyProof.Rows.callWith_type1 (thn (ha.run pos pins s σ H _ I h) fun us s1 ⟨vs, H1, I1, r1, q1⟩ => ?_) hs rfl))
  obtain ⟨A, xs, ex, hq, q⟩ := q1
  subst ex
  cases r1 with
  | cons r rr =>
    cases rr
    obtain ⟨o1, G1, B1, g1, n1, f1⟩ := Src.begins I1 hq r
    refine enum_begins1 B1 g1 fun h' he hit hsz hk => wpAny_pyIter_enum he ?_
    have I2 : Inv X pins σ H1 { s1 with heap := h' } := I1.kept (t' := s1.toks) hk
    refine ⟨s1.heap.objs.size + 1, [s1.heap.objs.size + 1, s1.heap.objs.size], _, _, H1, rfl, I2, turn_enumG (Nat.succ_ne_self _) (f1 _ (Nat.le_add_right _ _)) (f1 _ (Nat.le_refl _)), ⟨⟨.none, he⟩, n1 _ _ hit⟩, fun b hb => ?_, q⟩
    have e' : b = s1.heap.objs.size + 1 ∨ b = s1.heap.objs.size := by simpa using hb
    have hle : s1.heap.objs.size ≤ b := by
      rcases e' with z | z
      · rw [z]; exact Nat.le_add_right _ _
      · rw [z]; exact Nat.le_refl _
    exact I1.fpOk hle (I1.hok.fresh hle)
end
end L2X
/-! comprehensions and loops over zip and enumerate of anything -/
namespace L2X
open PySem PySem.Spec PyProof.Rows L2
theorem lc_zipG {K : PySem.W.Frag} {A B : Src} {xs ys : List V} {g : TG} {tt : TT} {te : TE} {vs : List Nat} {σ : L2.St} {H1 : Hp} {D : Addr} {Qd : Hp → Prop} (hn : xs.length = ys.length) (Pv : Nat → Hp → Prop) (h0 : Pv 0 (upd H1 D (.lst []))) (hl : ∀ i H, i ≤ xs.length → Pv i H → A.has K H xs ∧ B.has K H ys)
    (hs : ∀ i x y H T, xs[i]? = some x → ys[i]? = some y → Pv i H → H T = none → g (.ref T) (wipe σ vs) (upd H T (.tup [x, y])) fun σ2 H2 => wipe σ2 vs = wipe σ vs ∧ tt σ2 H2 fun b H3 =>
      if b = true then te σ2 H3 fun z H4 => ∃ acc, H4 D = some (.lst acc) ∧ acc.length < sizeLine ∧ Pv (i + 1) (upd H4 D (.lst (acc ++ [z]))) else Pv (i + 1) H3) (hd : ∀ H, Pv xs.length H → Qd H) :
    ∃ W : Nat → Nat → Hp → Prop, (∃ m, W 0 m (upd H1 D (.lst []))) ∧ ∀ i m H, W i m H →
      ((ItzG K A B).stop i H ∧ Qd H) ∨ ((ItzG K A B).go i H ∧ ∃ Nx : Hp → Prop, (∀ H', Nx H' → ∃ m', m' < m ∧ W (i + 1) m' H') ∧ ∀ x H', (ItzG K A B).yld i H x H' → g x (wipe σ vs) H' fun σ2 H2 => wipe σ2 vs = wipe σ vs ∧ tt σ2 H2 fun b H3 =>
        if b = true then te σ2 H3 fun y H4 => ∃ acc, H4 D = some (.lst acc) ∧ acc.length < sizeLine ∧ Nx (upd H4 D (.lst (acc ++ [y]))) else Nx H3) := by
  refine ⟨fun i m H => m = xs.length - i ∧ i ≤ xs.length ∧ Pv i H, ⟨xs.length, by simp, Nat.zero_le _, h0⟩, ?_⟩
  rintro i m H ⟨rfl, hi, p⟩
  obtain ⟨qx, qy⟩ := hl i H hi p
  by_cases hlt : i < xs.length
  · have hlt2 : i < ys.length := by omega
    have ex : xs[i]? = some xs[i] := List.getElem?_eq_getElem hlt
    have ey : ys[i]? = some ys[i] := List.getElem?_eq_getElem hlt2
    refine .inr ⟨⟨xs, ys, _, _, qx, qy, ex, ey⟩, Pv (i + 1), fun H' p' => ⟨xs.length - (i + 1), by omega, rfl, hlt, p'⟩, fun x H' y => ?_⟩
    obtain ⟨T, u, v, rfl, nT, rfl, z1, z2⟩ := y
    exact hs i u v H T (z1 xs qx) (z2 ys qy) p nT
  · have e : i = xs.length := by omega
    subst e
    exact .inl ⟨⟨xs, ys, qx, qy, .inl ⟨rfl, by omega⟩⟩, hd H p⟩
theorem lc_enumG {K : PySem.W.Frag} {A : Src} {xs : List V} {g : TG} {tt : TT} {te : TE} {vs : List Nat} {σ : L2.St} {H1 : Hp} {D : Addr} {Qd : Hp → Prop} (Pv : Nat → Hp → Prop) (h0 : Pv 0 (upd H1 D (.lst []))) (hl : ∀ i H, i ≤ xs.length → Pv i H → A.has K H xs)
    (hs : ∀ i x H T, xs[i]? = some x → Pv i H → H T = none → g (.ref T) (wipe σ vs) (upd H T (.tup [.int (i : Nat), x])) fun σ2 H2 => wipe σ2 vs = wipe σ vs ∧ tt σ2 H2 fun b H3 =>
      if b = true then te σ2 H3 fun z H4 => ∃ acc, H4 D = some (.lst acc) ∧ acc.length < sizeLine ∧ Pv (i + 1) (upd H4 D (.lst (acc ++ [z]))) else Pv (i + 1) H3) (hd : ∀ H, Pv xs.length H → Qd H) :
    ∃ W : Nat → Nat → Hp → Prop, (∃ m, W 0 m (upd H1 D (.lst []))) ∧ ∀ i m H, W i m H →
      ((IteG K A).stop i H ∧ Qd H) ∨ ((IteG K A).go i H ∧ ∃ Nx : Hp → Prop, (∀ H', Nx H' → ∃ m', m' < m ∧ W (i + 1) m' H') ∧ ∀ x H', (IteG K A).yld i H x H' → g x (wipe σ vs) H' fun σ2 H2 => wipe σ2 vs = wipe σ vs ∧ tt σ2 H2 fun b H3 =>
        if b = true then te σ2 H3 fun y H4 => ∃ acc, H4 D = some (.lst acc) ∧ acc.length < sizeLine ∧ Nx (upd H4 D (.lst (acc ++ [y]))) else Nx H3) := by
  refine ⟨fun i m H => m = xs.length - i ∧ i ≤ xs.length ∧ Pv i H, ⟨xs.length, by simp, Nat.zero_le _, h0⟩, ?_⟩
  rintro i m H ⟨rfl, hi, p⟩
  have qx := hl i H hi p
  by_cases hlt : i < xs.length
  · have ex : xs[i]? = some xs[i] := List.getElem?_eq_getElem hlt
    refine .inr ⟨⟨xs, _, qx, ex⟩, Pv (i + 1), fun H' p' => ⟨xs.length - (i + 1), by omega, rfl, hlt, p'⟩, fun x H' y => ?_⟩
    obtain ⟨T, u, rfl, nT, rfl, z1⟩ := y
    exact hs i u H T (z1 xs qx) p nT
  · have e : i = xs.length := by omega
    subst e
    exact .inl ⟨⟨xs, qx, rfl⟩, hd H p⟩
end L2X
namespace L2X
open PySem PySem.Spec PyProof.Rows L2
theorem eqAt_ty {A : Around} {s : Shared} {a b : String} (ha : tyOk a = true) (hb : tyOk b = true) : SeqAt.EqAt A s (.type a) (.type b) (decide (a = b)) := fun prog w E Q h => by
  unfold eqBool
  refine wpAny_holding ?_
  by_cases e : a = b
  · subst e
    rw [decide_eq_true rfl] at h
    refine wpAny_ite_split (fun _ => ?_) (fun n => absurd (beq_self_eq_true _) n)
    exact wpAny_pure (M := model prog w) (E := E) h
  · rw [decide_eq_false e] at h
    refine wpAny_ite_split (fun q => ?_) (fun _ => ?_)
    · rw [ty_ne e] at q
      cases q
    · have z : wpAny (model prog w) A (compareOp .Eq (.type a) (.type b)) (fun v s' => v = .bool false ∧ s' = s) E s := TypeEq.eq_type_other (tyOk_is ha) (tyOk_is hb) (ty_ne e) ⟨rfl, rfl⟩
      exact wpAny_bind (wpAny_mono z (fun v s' q => by
        obtain ⟨rfl, rfl⟩ := q
        exact wpAny_truthy_bool h) fun _ _ x => x)
def tyIs (a : String) : Value → Bool
  | .type T => decide (T = a)
  | _ => false
def rInTy (K : PySem.W.Frag) : R2 := fun x y H Q => ∃ (a : String) (p : Addr) (ts : List String), x = .ty a ∧ y = .ref p ∧ SqT K H p (ts.map V.ty) ∧ tyOk a = true ∧ ts.all tyOk = true ∧ Q (.bl (ts.any fun t => decide (t = a))) H
theorem vals_tys : ∀ {ts : List String} {us : List Value}, Vals (ts.map V.ty) us → us = ts.map Value.type
  | [], _, .nil => rfl
  | t :: ts, _, .cons r rr => by
    cases (show _ = Value.type t from r)
    rw [vals_tys rr]
    rfl
theorem op_in_ty {X : Cx} : OpR X (compareOp .In) (rInTy X.K) := by
  intro pins s σ H x y v u Q I rx ry h
  obtain ⟨a, p, ts, rfl, rfl, hq, ha, hts, q⟩ := h
  cases ry
  cases (show v = Value.type a from rx)
  obtain ⟨its, r, pl, hz⟩ := I.tuple hq
  have e := vals_tys r
  subst e
  refine SeqAt.in_tupleAt (tyIs a) pl (fun w hw => ?_) ⟨.bl _, H, I, rfl, ?_⟩
  · obtain ⟨t, ht, rfl⟩ : ∃ t, t ∈ ts ∧ w = Value.type t := by
      obtain ⟨t, ht, e⟩ := List.mem_map.mp (show w ∈ ts.map Value.type by simpa using hw)
      exact ⟨t, ht, e.symm⟩
    exact eqAt_ty (List.all_eq_true.mp hts t ht) ha
  · have e : (ts.map Value.type).toArray.any (tyIs a) = ts.any fun t => decide (t = a) := by
      simp [List.any_map]
      rfl
    rw [e]
    exact q
end L2X
namespace Dt
open PySem PySem.Spec PyProof.Rows L2 L2X
/-! ### kinds -/
def isInt : V → Bool
  | .int _ => true
  | _ => false
theorem isInt_ty {K : PySem.W.Frag} {H : Hp} {x : V} {T : String} (t : TyB K H x T) : decide (T = "int") = isInt x := by
  cases t <;> rfl
def betw : V → Int → Int → Bool
  | .int i, lo, hi => decide (lo ≤ i) && decide (i ≤ hi)
  | _, _, _ => false
theorem betw_int (i lo hi : Int) : betw (.int i) lo hi = (decide (lo ≤ i) && decide (i ≤ hi)) := rfl
theorem betw_no {x : V} {lo hi : Int} (h : isInt x = false) : betw x lo hi = false := by
  cases x with
  | int i => cases h
  | _ => rfl
/-- a thing of a known kind -/
def Kt (K : PySem.W.Frag) (H : Hp) (x : V) : Prop := ∃ T, TyB K H x T ∧ tyOk T = true
abbrev sIsNum : Stmt := topS 6
theorem scIsNum : FnScope ["thing"] ["thing"] (defScope sIsNum) := ⟨rfl, rfl, rfl, by decide +kernel, rfl, by decide +kernel, by decide +kernel⟩
def spIsNum (K : PySem.W.Frag) : Sp := fun vs H Q _ => ∃ x, vs = [x] ∧ Kt K H x ∧ Q (.bl (isInt x)) H
abbrev sBetw : Stmt := topS 7
theorem scBetw : FnScope ["thing", "least", "most"] ["thing", "least", "most"] (defScope sBetw) := ⟨rfl, rfl, rfl, by decide +kernel, rfl, by decide +kernel, by decide +kernel⟩
def spBetw (K : PySem.W.Frag) : Sp := fun vs H Q _ => ∃ x lo hi, vs = [x, .int lo, .int hi] ∧ Kt K H x ∧ Q (.bl (betw x lo hi)) H
section
variable {P : Program} {w : World} {K : PySem.W.Frag} {mg : Str → Option Value} {base : Heap}
theorem ok_isNum {f : Addr} {fd : FuncData} {k : Nat} (F : Fun K "is_number" "is_number" sIsNum f fd) (T : Tp mg) (X : Tx mg) : FnOk P w K mg base CX0 (k + 1) f fd ["thing"] (spIsNum K) := by
  refine F.ok scIsNum (fun vs H Q E h => ?_) (fun cdv A outer s H vs Q E hr h => ?_)
  · obtain ⟨x, rfl, _⟩ := h
    rfl
  · obtain ⟨x, rfl, ⟨Ty, ht, ok⟩, q⟩ := h
    refine ⟨_, pss_one (ps_ret (pe_cmpR op_eq_ty (pe_callTy call_type1 (by rfl) T.typ (by decide +kernel) (pa_cons (pv 0) pa_nil)) (pe_bltn (v := .ty "int") (u := .type "int") (by rfl) X.int (by decide +kernel) rfl) (nomark _))), ?_⟩
    refine ⟨x, rfl, x, Ty, rfl, ht, Ty, "int", rfl, rfl, ok, rfl, ?_⟩
    have e : id (decide (Ty = "int")) = isInt x := isInt_ty ht
    rw [e]
    exact q
theorem ok_betw {f fN : Addr} {fd fdN : FuncData} {k : Nat} (F : Fun K "is_between" "is_between" sBetw f fd) (GN : FnOk P w K mg base CX0 (k + 1) fN fdN ["thing"] (spIsNum K)) (mN : mg "is_number" = some (.ref fN)) (kN : PySem.W.keepIn K (.ref fN) = true) (bN : Binds K fdN ["thing"] []) : FnOk P w K mg base CX0 (k + 2) f fd ["thing", "least", "most"] (spBetw K) := by
  refine F.ok scBetw (fun vs H Q E h => ?_) (fun cdv A outer s H vs Q E hr h => ?_)
  · obtain ⟨x, lo, hi, rfl, _⟩ := h
    rfl
  · obtain ⟨x, lo, hi, rfl, kt, q⟩ := h
    refine ⟨_, pss_one (ps_ret (pe_and (pe_call GN hr (by rfl) mN kN bN .nil pass0 (pa_cons (pv 0) pa_nil)) (pe_one (pe_chain op_le op_le (pv 1) (pv 0) (pv 2))))), ?_⟩
    refine ⟨x, rfl, x, rfl, kt, _, rfl, ?_⟩
    cases x with
    | int i =>
      refine iteT ⟨.int lo, rfl, .int i, rfl, lo, i, rfl, rfl, _, rfl, ite2 (fun e => ?_) (fun e => ?_)⟩
      · refine ⟨.int hi, rfl, i, hi, rfl, rfl, ?_⟩
        rw [betw_int, e, Bool.true_and] at q
        exact q
      · rw [betw_int, Bool.eq_false_iff.mpr e, Bool.false_and] at q
        exact q
    | _ => exact iteF q
end
/-! ### is_tuple -/
section
variable {P : Program} {w : World} {K : PySem.W.Frag} {mg : Str → Option Value} {base : Heap}
end
end Dt
/-! what many laws share -/
namespace L2X
open PySem PySem.Spec PyProof.Rows L2
theorem PI.or {X : Cx} {tg it : Expr} {w1 w2 : TI} (a : PI X tg it w1) (b : PI X tg it w2) : PI X tg it (fun σ H R => w1 σ H R ∨ w2 σ H R) :=
  ⟨fun pins s σ H R I h => h.elim (a.run pins s σ H R I) (b.run pins s σ H R I)⟩
def rJoinK (K : PySem.W.Frag) : V → List V → Hp → VK → Prop := fun x xs H Q => ∃ a p, ∃ ys : List Str, x = .str a ∧ xs = [.ref p] ∧ (SqL K H p (ys.map V.str) ∨ SqT K H p (ys.map V.str)) ∧ (ys.map (·.length)).sum + ys.length * a.length ≤ 16777216 ∧ Q (.str (Txt.join a ys)) H
theorem pe_joinK {X : Cx} {o e : Expr} {to te : TE} {pos apos : Pos} {K : PySem.W.Frag} (hK : X.K = K) (ho : PE X o to) (he : PE X e te) (hs : starEach [e] X.env = [(false, eval e X.env)] := by rfl) (hbase : attributeBase o "join" X.env (eval o X.env) = eval o X.env := by rfl) (hline : (apos.endLine == pos.line) = true := by rfl) :
    PE X (.Call (.Attribute o "join" apos) [e] [] pos) (tM1 (rJoinK K) to te) := by
  subst hK
  exact pe_join ho he hs hbase hline
end L2X
namespace Dt
open PySem PySem.Spec PyProof.Rows L2 L2X
open SX (S)
def ch (c : Nat) : V := .str ⟨#[c]⟩
structure RowsR (high wide : Nat) (rs : List (List Nat)) : Prop where
  len : rs.length = high
  row : ∀ l ∈ rs, RowR wide l
theorem PicR.rows {high wide : Nat} {rs : List (List Nat)} (h : PicR high wide rs) : RowsR high wide rs := ⟨h.len, h.row⟩
theorem set_getD {ls : List (List Nat)} {r : Nat} {l : List Nat} (h : ls[r]? = some l) : ls.getD r [] = l := by
  rw [List.getD_eq_getElem?_getD, h]
  rfl
theorem getD_at {l : List Nat} {c x : Nat} (h : l[c]? = some x) : l.getD c 0 = x := by
  rw [List.getD_eq_getElem?_getD, h]
  rfl
structure Plc (K : PySem.W.Frag) (H : Hp) (xs : List V) (ps : List (Nat × Nat)) : Prop where
  len : xs.length = ps.length
  at_ : ∀ (i : Nat) (x : V) (p : Nat × Nat), xs[i]? = some x → ps[i]? = some p → ∃ t, x = .ref t ∧ SqT K H t [.int p.1, .int p.2]
theorem Plc.same {K : PySem.W.Frag} {H H' : Hp} {xs : List V} {ps : List (Nat × Nat)} (h : Plc K H xs ps) (s : Same H H') : Plc K H' xs ps :=
  ⟨h.len, fun i x p a b => let ⟨t, e, z⟩ := h.at_ i x p a b; ⟨t, e, sameT s z⟩⟩
theorem chars_row (l : List Nat) : (S l).cps.toList.map (fun c => V.str ⟨#[c]⟩) = l.map ch := by
  unfold S
  rfl
theorem same_over {H0 H : Hp} {a : Addr} {o : HO} (s : Same H0 H) (n : H0 a = none) : Same H0 (upd H a o) := fun b u e => by
  rw [upd_ne (ne_of_none e n)]
  exact s _ _ e
theorem lens_rows (cs : List Nat) : ((cs.map fun c => (⟨#[c]⟩ : Str)).map (·.length)).sum = cs.length := lens_ones cs
theorem join_row (cs : List Nat) : Txt.join "" (cs.map fun c => (⟨#[c]⟩ : Str)) = S cs := join_ones cs
theorem ixN_at {n j : Nat} (hj : j < n) : ixN n (j : Int) = some j := by
  unfold ixN
  rw [if_pos (by omega), if_pos (by omega)]
  simp
theorem chars_S (l : List Nat) : chars (S l) = l.map fun c => V.str ⟨#[c]⟩ := by
  unfold chars S
  simp
theorem sum_ones : ∀ n : Nat, (List.replicate n (1 : Int)).sum = n
  | 0 => rfl
  | n + 1 => by
    rw [List.replicate_succ, List.sum_cons, sum_ones n]
    omega
theorem ch_dec (a b : Nat) : decide (V.str ⟨#[a]⟩ = V.str ⟨#[b]⟩) = decide (a = b) := by
  apply Bool.eq_iff_iff.mpr
  rw [decide_eq_true_iff, decide_eq_true_iff]
  constructor
  · intro h
    have e1 : (⟨#[a]⟩ : Str) = ⟨#[b]⟩ := V.str.inj h
    have e2 : (#[a] : Array Nat) = #[b] := congrArg Str.cps e1
    have e3 : [a] = [b] := congrArg Array.toList e2
    exact (List.cons.inj e3).1
  · intro h
    rw [h]
structure ExN (K : PySem.W.Frag) (mg : Str → Option Value) (nm : Str) (C : Addr) : Prop where
  g : mg nm = some (.ref C)
  x : PySem.W.excIn K C [.type "ValueError", .type "Exception", .type "BaseException", .type "object"] "ValueError.__new__" = true
  k : PySem.W.keepIn K (.ref C) = true
  b : PySem.W.subIn K (.ref C) (.type "BaseException") = some true
  t : PySem.W.typeIn K (.ref C) = some (.type "type")
structure Tz (mg : Str → Option Value) : Prop where
  sum : mg "sum" = none
  zip : mg "zip" = none
theorem tyB_same2 {K : PySem.W.Frag} {H H' : Hp} {x : V} {T : String} (t : TyB K H x T) (s : Same H H') : TyB K H' x T := by
  cases t with
  | non => exact .non
  | bl b => exact .bl b
  | int i => exact .int i
  | str x => exact .str x
  | byt b => exact .byt b
  | lst h => exact .lst (s.seq h)
  | tup h => exact .tup (sameT s h)
  | dK h => exact .dK (s _ _ h)
theorem Kt.same {K : PySem.W.Frag} {H H' : Hp} {x : V} (h : Kt K H x) (s : Same H H') : Kt K H' x := let ⟨T, t, ok⟩ := h; ⟨T, tyB_same2 t s, ok⟩
theorem all_true : ∀ n : Nat, (List.replicate n true).all id = true
  | 0 => rfl
  | n + 1 => by
    rw [List.replicate_succ, List.all_cons, all_true n]
    rfl
theorem kt_int {K : PySem.W.Frag} {H : Hp} (i : Int) : Kt K H (.int i) := ⟨"int", .int i, rfl⟩
theorem kt_bl {K : PySem.W.Frag} {H : Hp} (b : Bool) : Kt K H (.bl b) := ⟨"bool", .bl b, rfl⟩
def rD (l : List Nat) : PyData := .str (S l)
def pD (p : Nat × Nat) : PyData := .tuple [.int p.1, .int p.2]
theorem strOk_row {l : List Nat} (h : ∀ c ∈ l, c = 35 ∨ c = 46) : PyData.strOk (S l) = true := by
  unfold PyData.strOk S
  simp
  intro c hc
  rcases h c hc with z | z <;> (subst z; decide)
theorem lay_rows : ∀ ls : List (List Nat), (∀ l ∈ ls, ∀ c ∈ l, c = 35 ∨ c = 46) → PyData.canLayAll0 (ls.map rD) = true ∧ PyData.depthAll (ls.map rD) ≤ 1
  | [], _ => ⟨by simp [PyData.canLayAll0], by simp [PyData.depthAll]⟩
  | l :: r, h => by
    obtain ⟨h1, h2⟩ := lay_rows r fun m hm => h m (List.mem_cons_of_mem _ hm)
    refine ⟨?_, ?_⟩
    · rw [List.map_cons]
      simp [PyData.canLayAll0, PyData.canLay0, rD, h1, strOk_row (h l List.mem_cons_self)]
    · rw [List.map_cons]
      simp only [PyData.depthAll, PyData.depth, rD]
      omega
theorem lay_places : ∀ ps : List (Nat × Nat), PyData.canLayAll0 (ps.map pD) = true ∧ PyData.depthAll (ps.map pD) ≤ 3
  | [] => ⟨by simp [PyData.canLayAll0], by simp [PyData.depthAll]⟩
  | p :: r => by
    obtain ⟨h1, h2⟩ := lay_places r
    refine ⟨?_, ?_⟩
    · rw [List.map_cons]
      simp [PyData.canLayAll0, PyData.canLay0, pD, h1]
    · rw [List.map_cons]
      simp only [PyData.depthAll, PyData.depth, pD]
      omega
theorem shaped_rows {high wide : Nat} {ls : List (List Nat)} (R : RowsR high wide ls) : SeqAt.shaped (.tuple (ls.map rD)) = true := by
  obtain ⟨h1, h2⟩ := lay_rows ls fun l hl => (R.row l hl).sg
  unfold SeqAt.shaped
  rw [Bool.and_eq_true, decide_eq_true_iff]
  refine ⟨by simp [PyData.canLay0, h1], ?_⟩
  simp only [PyData.depth]
  omega
theorem shaped_places (ps : List (Nat × Nat)) : SeqAt.shaped (.list (ps.map pD)) = true := by
  obtain ⟨h1, h2⟩ := lay_places ps
  unfold SeqAt.shaped
  rw [Bool.and_eq_true, decide_eq_true_iff]
  refine ⟨by simp [PyData.canLay0, h1], ?_⟩
  simp only [PyData.depth]
  omega
theorem shaped_place (p : Nat × Nat) : SeqAt.shaped (pD p) = true := rfl
theorem eqv_rows : ∀ ls : List (List Nat), PyData.eqvAll (ls.map rD) (ls.map rD) = true
  | [] => by simp [PyData.eqvAll]
  | l :: r => by
    rw [List.map_cons, PyData.eqvAll, eqv_rows r]
    simp [PyData.eqv, rD]
theorem eqv_pD (p q : Nat × Nat) : PyData.eqv (pD p) (pD q) = decide (p = q) := by
  apply Bool.eq_iff_iff.mpr
  rw [decide_eq_true_iff]
  simp [PyData.eqv, PyData.eqvAll, pD, Prod.ext_iff]
  omega
theorem eqv_places : ∀ ps : List (Nat × Nat), PyData.eqvAll (ps.map pD) (ps.map pD) = true
  | [] => by simp [PyData.eqvAll]
  | p :: r => by
    rw [List.map_cons, PyData.eqvAll, eqv_places r, eqv_pD, decide_eq_true rfl]
    rfl
section
variable {K : PySem.W.Frag} {H : Hp}
theorem dp_rows : ∀ ls : List (List Nat), DpAll K H (ls.map rv) (ls.map rD)
  | [] => .nil
  | l :: r => .cons (.str _) (dp_rows r)
theorem dp_place {t : Addr} {p : Nat × Nat} (h : SqT K H t [.int p.1, .int p.2]) : Dp K H (.ref t) (pD p) := .tup h (.cons (.int _) (.cons (.int _) .nil))
theorem dp_places : ∀ {xs : List V} {ps : List (Nat × Nat)}, Plc K H xs ps → DpAll K H xs (ps.map pD)
  | [], [], _ => .nil
  | [], _ :: _, h => nomatch h.len
  | _ :: _, [], h => nomatch h.len
  | x :: xs, p :: ps, h => by
    obtain ⟨t, e, ht⟩ := h.at_ 0 x p rfl rfl
    subst e
    exact .cons (dp_place ht) (dp_places ⟨Nat.succ.inj h.len, fun i y q a b => h.at_ (i + 1) y q a b⟩)
theorem Plc.app {xs ys : List V} {ps qs : List (Nat × Nat)} (a : Plc K H xs ps) (b : Plc K H ys qs) : Plc K H (xs ++ ys) (ps ++ qs) := by
  refine ⟨by rw [List.length_append, List.length_append, a.len, b.len], fun i x p hx hp => ?_⟩
  by_cases hi : i < xs.length
  · rw [List.getElem?_append_left hi] at hx
    rw [List.getElem?_append_left (by rw [← a.len]; exact hi)] at hp
    exact a.at_ i x p hx hp
  · rw [List.getElem?_append_right (by omega)] at hx
    rw [List.getElem?_append_right (by rw [← a.len]; omega), ← a.len] at hp
    exact b.at_ _ x p hx hp
theorem plc_upd {xs ys zs : List V} {ps : List (Nat × Nat)} {l : Addr} (h : Plc K H xs ps) (hl : H l = some (.lst ys)) : Plc K (upd H l (.lst zs)) xs ps := by
  refine ⟨h.len, fun i x p a b => ?_⟩
  obtain ⟨t, e, ht⟩ := h.at_ i x p a b
  refine ⟨t, e, ?_⟩
  rcases ht with (ht | ⟨o, ht⟩) | ht
  · exact SqT.of (by rw [upd_ne (ne_of ht hl (by intro z; cases z))]; exact ht)
  · exact .inl (.inr ⟨o, by rw [upd_ne (ne_of ht hl (by intro z; cases z))]; exact ht⟩)
  · exact .inr ht
theorem Plc.take {xs : List V} {ps : List (Nat × Nat)} (a : Plc K H xs ps) (n : Nat) : Plc K H (xs.take n) (ps.take n) := by
  refine ⟨by rw [List.length_take, List.length_take, a.len], fun i x p hx hp => ?_⟩
  rw [List.getElem?_take] at hx hp
  split at hx
  · rename_i h
    rw [if_pos h] at hp
    exact a.at_ i x p hx hp
  · cases hx
end
theorem cutV_whole {xs : List V} {lo hi : Option Int} (h : HT.sIx xs.length 0 lo = 0 ∧ HT.sIx xs.length xs.length hi = xs.length) : cutV xs lo hi = xs := by
  unfold cutV
  rw [h.1, h.2, List.drop_zero, Nat.sub_zero, List.take_length]
theorem sl_any {K : PySem.W.Frag} {H : Hp} {a : Addr} {xs : List V} {lo hi : Option Int} {Q : VK} (h : H a = some (.tup xs)) (q : ∀ z H2, Same H H2 → H2 z = some (.tup (cutV xs lo hi)) → Q (.ref z) H2) : rSlA K (.ref a) lo hi H Q :=
  ⟨a, xs, rfl, SqT.of h, fun w => q a H (Same.refl H) (by rw [cutV_whole w]; exact h), fun _ p hp => q p _ (same_upd hp) upd_same⟩
theorem cat_any {K : PySem.W.Frag} {H : Hp} {a b : Addr} {xs ys : List V} {Q : VK} (h : H a = some (.tup xs)) (g : H b = some (.tup ys)) (hz : xs.length + ys.length ≤ sizeLine) (q : ∀ z H2, Same H H2 → H2 z = some (.tup (xs ++ ys)) → Q (.ref z) H2) :
    rCatA K (.ref a) (.ref b) H Q :=
  ⟨a, b, xs, ys, rfl, rfl, SqT.of h, SqT.of g, hz, fun e => q b H (Same.refl H) (by rw [e]; exact g), fun _ e => q a H (Same.refl H) (by rw [e, List.append_nil]; exact h), fun _ _ p hp => q p _ (same_upd hp) upd_same⟩
theorem rep_any {K : PySem.W.Frag} {H : Hp} {a : Addr} {x : V} {k : Nat} {Q : VK} (h : H a = some (.tup [x])) (h1 : 1 ≤ k) (h2 : k ≤ 1000) (q : ∀ z H2, Same H H2 → H2 z = some (.tup (List.replicate k x)) → Q (.ref z) H2) :
    rRepA K (.ref a) (.int k) H Q := by
  have flat : ∀ n : Nat, (List.replicate n [x]).flatten = List.replicate n x := by
    intro n
    induction n with
    | zero => rfl
    | succ n ih => rw [List.replicate_succ, List.flatten_cons, ih, List.replicate_succ]; rfl
  refine ⟨a, k, [x], rfl, rfl, SqT.of h, (by simp), by omega, by omega, by show 1 ≤ 1000; decide, fun e => q a H (Same.refl H) ?_, fun _ p hp => q p _ (same_upd hp) ?_⟩
  · have : k = 1 := by omega
    subst this
    exact h
  · rw [upd_same, Int.toNat_natCast, flat]
end Dt
/-! a list or a tuple walked, one rule for both -/
namespace L2X
open PySem PySem.Spec PyProof.Rows L2
/-- at a stands a list (true) or a tuple (false) of xs -/
def Sq (K : PySem.W.Frag) (H : Hp) (b : Bool) (a : Addr) (xs : List V) : Prop := match b with
  | true => SqL K H a xs
  | false => SqT K H a xs
theorem sameT0 {K : PySem.W.Frag} {H H' : Hp} {a : Addr} {xs : List V} (e : Same H H') (h : SqT K H a xs) : SqT K H' a xs := by
  rcases h with (h | ⟨o, h⟩) | h
  · exact .inl (.inl (e _ _ h))
  · exact .inl (.inr ⟨o, e _ _ h⟩)
  · exact .inr h
theorem Sq.same {K : PySem.W.Frag} {H H' : Hp} {b : Bool} {a : Addr} {xs : List V} (h : Sq K H b a xs) (s : Same H H') : Sq K H' b a xs := by
  cases b with
  | true => exact s.seq h
  | false => exact sameT0 s h
def Its (K : PySem.W.Frag) (b : Bool) (a : Addr) : It := match b with
  | true => Itl K a
  | false => Itt K a
def iSq (K : PySem.W.Frag) (tl : TE) : TI := fun σ H R => tl σ H fun x H1 => ∃ b a xs, x = .ref a ∧ Sq K H1 b a xs ∧ R (Its K b a) H1
theorem pi_sq {X : Cx} {tg l : Expr} {tl : TE} (hl : PE X l tl) : PI X tg l (iSq X.K tl) := by
  refine ⟨fun pins s σ H R I h => ?_⟩
  refine thn (hl.run pins s σ H _ I h) fun v s1 ⟨x, H1, I1, r1, q1⟩ => ?_
  obtain ⟨b, a, xs, e, hq, q⟩ := q1
  subst e
  cases r1
  cases b with
  | true =>
    obtain ⟨its, rv, p, hz⟩ := I1.list hq
    refine wpAny_pyIter_list p.isList ?_
    refine ⟨s1.heap.objs.size, [s1.heap.objs.size], _, _, H1, rfl, I1.kept (t' := s1.toks) fun b o e => Heap.get?_push_of_some _ e, turn_list a _, ⟨_, Heap.get?_push_size _ rfl, rfl, rfl⟩, fun b hb => ?_, q⟩
    have e : b = s1.heap.objs.size := by simpa using hb
    subst e
    exact I1.fpOk (Nat.le_refl _) (I1.hok.fresh (Nat.le_refl _))
  | false =>
    obtain ⟨its, rv, p, hz⟩ := I1.tuple hq
    refine wpAny_pyIter_tuple (show s1.heap.IsTuple a its.toArray from p) ?_
    refine ⟨s1.heap.objs.size, [s1.heap.objs.size], _, _, H1, rfl, I1.kept (t' := s1.toks) fun b o e => Heap.get?_push_of_some _ e, turn_tuple a _, ⟨_, Heap.get?_push_size _ rfl, rfl, rfl⟩, fun b hb => ?_, q⟩
    have e : b = s1.heap.objs.size := by simpa using hb
    subst e
    exact I1.fpOk (Nat.le_refl _) (I1.hok.fresh (Nat.le_refl _))
theorem lc_sq {K : PySem.W.Frag} {b : Bool} {a : Addr} {xs : List V} {g : TG} {tt : TT} {te : TE} {vs : List Nat} {σ : L2.St} {H1 : Hp} {D : Addr} {Qd : Hp → Prop} (Pv : Nat → Hp → Prop) (h0 : Pv 0 (upd H1 D (.lst []))) (hl : ∀ i H, i ≤ xs.length → Pv i H → Sq K H b a xs)
    (hs : ∀ i x H, xs[i]? = some x → Pv i H → g x (wipe σ vs) H fun σ2 H2 => wipe σ2 vs = wipe σ vs ∧ tt σ2 H2 fun b H3 =>
      if b = true then te σ2 H3 fun y H4 => ∃ acc, H4 D = some (.lst acc) ∧ acc.length < sizeLine ∧ Pv (i + 1) (upd H4 D (.lst (acc ++ [y]))) else Pv (i + 1) H3) (hd : ∀ H, Pv xs.length H → Qd H) :
    ∃ W : Nat → Nat → Hp → Prop, (∃ m, W 0 m (upd H1 D (.lst []))) ∧ ∀ i m H, W i m H →
      ((Its K b a).stop i H ∧ Qd H) ∨ ((Its K b a).go i H ∧ ∃ Nx : Hp → Prop, (∀ H', Nx H' → ∃ m', m' < m ∧ W (i + 1) m' H') ∧ ∀ x H', (Its K b a).yld i H x H' → g x (wipe σ vs) H' fun σ2 H2 => wipe σ2 vs = wipe σ vs ∧ tt σ2 H2 fun b H3 =>
        if b = true then te σ2 H3 fun y H4 => ∃ acc, H4 D = some (.lst acc) ∧ acc.length < sizeLine ∧ Nx (upd H4 D (.lst (acc ++ [y]))) else Nx H3) := by
  cases b with
  | true => exact lc_list Pv h0 hl hs hd
  | false => exact lc_tup Pv h0 hl hs hd
end L2X
namespace L2X
open PySem PySem.Spec PyProof.Rows L2
/-! ### comprehensions of two clauses, and of one, over anything -/
theorem lc2_by {J : It} {g : TG} {tt : TT} {wi1 : TI} {g1 : TG} {tt1 : TT} {te : TE} {vs vs1 : List Nat} {σ : L2.St} {H1 : Hp} {D : Addr} {Qd : Hp → Prop} (n : Nat) (Pv : Nat → Hp → Prop) (h0 : Pv 0 (upd H1 D (.lst [])))
    (hstop : ∀ H, Pv n H → J.stop n H) (hgo : ∀ i H, i < n → Pv i H → J.go i H)
    (hs : ∀ i x H H', i < n → Pv i H → J.yld i H x H' → g x (wipe σ vs) H' fun σ2 H2 => wipe σ2 vs = wipe σ vs ∧ tt σ2 H2 fun b H3 =>
      if b = true then wi1 σ2 H3 fun J1 H4 => ∃ W1 : Nat → Nat → Hp → Prop, (∃ m, W1 0 m H4) ∧ ∀ j k H, W1 j k H →
        (J1.stop j H ∧ Pv (i + 1) H) ∨ (J1.go j H ∧ ∃ Nx1 : Hp → Prop, (∀ H', Nx1 H' → ∃ k', k' < k ∧ W1 (j + 1) k' H') ∧ ∀ x H', J1.yld j H x H' → g1 x (wipe σ2 vs1) H' fun σ3 H5 => wipe σ3 vs1 = wipe σ2 vs1 ∧ tt1 σ3 H5 fun b H6 =>
          if b = true then te σ3 H6 fun y H7 => ∃ acc, H7 D = some (.lst acc) ∧ acc.length < sizeLine ∧ Nx1 (upd H7 D (.lst (acc ++ [y]))) else Nx1 H6)
      else Pv (i + 1) H3) (hd : ∀ H, Pv n H → Qd H) :
    ∃ W : Nat → Nat → Hp → Prop, (∃ m, W 0 m (upd H1 D (.lst []))) ∧ ∀ i m H, W i m H →
      (J.stop i H ∧ Qd H) ∨ (J.go i H ∧ ∃ Nx : Hp → Prop, (∀ H', Nx H' → ∃ m', m' < m ∧ W (i + 1) m' H') ∧ ∀ x H', J.yld i H x H' → g x (wipe σ vs) H' fun σ2 H2 => wipe σ2 vs = wipe σ vs ∧ tt σ2 H2 fun b H3 =>
        if b = true then wi1 σ2 H3 fun J1 H4 => ∃ W1 : Nat → Nat → Hp → Prop, (∃ m, W1 0 m H4) ∧ ∀ j k H, W1 j k H →
          (J1.stop j H ∧ Nx H) ∨ (J1.go j H ∧ ∃ Nx1 : Hp → Prop, (∀ H', Nx1 H' → ∃ k', k' < k ∧ W1 (j + 1) k' H') ∧ ∀ x H', J1.yld j H x H' → g1 x (wipe σ2 vs1) H' fun σ3 H5 => wipe σ3 vs1 = wipe σ2 vs1 ∧ tt1 σ3 H5 fun b H6 =>
            if b = true then te σ3 H6 fun y H7 => ∃ acc, H7 D = some (.lst acc) ∧ acc.length < sizeLine ∧ Nx1 (upd H7 D (.lst (acc ++ [y]))) else Nx1 H6)
        else Nx H3) := by
  refine ⟨fun i m H => m = n - i ∧ i ≤ n ∧ Pv i H, ⟨n, by simp, Nat.zero_le _, h0⟩, ?_⟩
  rintro i m H ⟨rfl, hi, p⟩
  by_cases hlt : i < n
  · exact .inr ⟨hgo i H hlt p, Pv (i + 1), fun H' p' => ⟨n - (i + 1), by omega, rfl, hlt, p'⟩, fun x H' y => hs i x H H' hlt p y⟩
  · have e : i = n := by omega
    subst e
    exact .inl ⟨hstop H p, hd H p⟩
theorem lc2_in {J1 : It} {g1 : TG} {tt1 : TT} {te : TE} {vs1 : List Nat} {σ2 : L2.St} {H4 : Hp} {D : Addr} {Nx : Hp → Prop} (n : Nat) (Pv : Nat → Hp → Prop) (h0 : Pv 0 H4) (hstop : ∀ H, Pv n H → J1.stop n H) (hgo : ∀ i H, i < n → Pv i H → J1.go i H)
    (hs : ∀ i x H H', i < n → Pv i H → J1.yld i H x H' → g1 x (wipe σ2 vs1) H' fun σ3 H5 => wipe σ3 vs1 = wipe σ2 vs1 ∧ tt1 σ3 H5 fun b H6 =>
      if b = true then te σ3 H6 fun y H7 => ∃ acc, H7 D = some (.lst acc) ∧ acc.length < sizeLine ∧ Pv (i + 1) (upd H7 D (.lst (acc ++ [y]))) else Pv (i + 1) H6) (hd : ∀ H, Pv n H → Nx H) :
    ∃ W1 : Nat → Nat → Hp → Prop, (∃ m, W1 0 m H4) ∧ ∀ j k H, W1 j k H →
      (J1.stop j H ∧ Nx H) ∨ (J1.go j H ∧ ∃ Nx1 : Hp → Prop, (∀ H', Nx1 H' → ∃ k', k' < k ∧ W1 (j + 1) k' H') ∧ ∀ x H', J1.yld j H x H' → g1 x (wipe σ2 vs1) H' fun σ3 H5 => wipe σ3 vs1 = wipe σ2 vs1 ∧ tt1 σ3 H5 fun b H6 =>
        if b = true then te σ3 H6 fun y H7 => ∃ acc, H7 D = some (.lst acc) ∧ acc.length < sizeLine ∧ Nx1 (upd H7 D (.lst (acc ++ [y]))) else Nx1 H6) := by
  refine ⟨fun i m H => m = n - i ∧ i ≤ n ∧ Pv i H, ⟨n, by simp, Nat.zero_le _, h0⟩, ?_⟩
  rintro i m H ⟨rfl, hi, p⟩
  by_cases hlt : i < n
  · exact .inr ⟨hgo i H hlt p, Pv (i + 1), fun H' p' => ⟨n - (i + 1), by omega, rfl, hlt, p'⟩, fun x H' y => hs i x H H' hlt p y⟩
  · have e : i = n := by omega
    subst e
    exact .inl ⟨hstop H p, hd H p⟩
end L2X
namespace Dt
open PySem PySem.Spec PyProof.Rows L2 L2X
open SX (S)
/-! ### dots -/
theorem smallT {n : Nat} (h : n < 100000) : n < sizeLine := Nat.lt_of_lt_of_le h (by decide)
def rowDots (r : Nat) (l : List Nat) : List (Nat × Nat) := (l.zipIdx.filter fun p => decide (p.1 = 35)).map fun p => (r, p.2)
def dotsP (rs : List (List Nat)) : List (Nat × Nat) := (rs.zipIdx.map fun p => rowDots p.2 p.1).flatten
theorem map_at {α β : Type} {f : α → β} {l : List α} {i : Nat} {y : β} (h : (l.map f)[i]? = some y) : ∃ x, l[i]? = some x ∧ y = f x := by
  rw [List.getElem?_map] at h
  cases e : l[i]? with
  | none =>
    rw [e] at h
    cases h
  | some z =>
    rw [e] at h
    exact ⟨z, rfl, (Option.some.inj h).symm⟩
theorem dotsP_snoc {rs : List (List Nat)} {i : Nat} {l : List Nat} (h : rs[i]? = some l) : dotsP (rs.take (i + 1)) = dotsP (rs.take i) ++ rowDots i l := by
  have hi : i < rs.length := (List.getElem?_eq_some_iff.mp h).1
  unfold dotsP
  rw [take_snoc h, List.zipIdx_append, List.map_append, List.flatten_append]
  have : (rs.take i).length = i := by
    rw [List.length_take]
    omega
  simp [this]
theorem rowDots_snoc {r : Nat} {l : List Nat} {j c : Nat} (h : l[j]? = some c) : rowDots r (l.take (j + 1)) = rowDots r (l.take j) ++ if c = 35 then [(r, j)] else [] := by
  have hj : j < l.length := (List.getElem?_eq_some_iff.mp h).1
  unfold rowDots
  rw [take_snoc h, List.zipIdx_append, List.filter_append, List.map_append]
  have : (l.take j).length = j := by
    rw [List.length_take]
    omega
  by_cases e : c = 35
  · simp [this, e]
  · simp [this, e]
theorem plc_one {K : PySem.W.Frag} {H : Hp} {xs : List V} {ps : List (Nat × Nat)} {D t : Addr} {r c : Nat} (h : Plc K H xs ps) (hD : H D = some (.lst xs)) (ht : H t = none) :
    Plc K (upd (upd H t (.tup [.int r, .int c])) D (.lst (xs ++ [.ref t]))) (xs ++ [.ref t]) (ps ++ [(r, c)]) := by
  have s := same_upd (o := .tup [V.int r, V.int c]) ht
  have one : Plc K (upd H t (.tup [V.int r, V.int c])) [V.ref t] [(r, c)] := ⟨rfl, fun i x pp hx hpp => by
    cases i with
    | zero =>
      cases hx
      cases hpp
      exact ⟨t, rfl, SqT.of upd_same⟩
    | succ i => exact nomatch hx⟩
  exact plc_upd ((h.same s).app one) (s _ _ hD)
section
variable {P : Program} {w : World} {K : PySem.W.Frag} {mg : Str → Option Value} {base : Heap} {C CP : Addr}
end
end Dt
namespace Dt
open PySem PySem.Spec PyProof.Rows L2 L2X
open SX (S)
/-! ### what a def promises, in one -/
/-- a def of the text as it stands behind the top -/
structure Df (K : PySem.W.Frag) (mg : Str → Option Value) (nm : Str) (st : Stmt) (ps : List Str) : Prop where
  ex : ∃ f fd, Fun K nm nm st f fd ∧ mg nm = some (.ref f) ∧ Binds K fd ps []
/-- .. with its promise -/
structure Pm (P : Program) (w : World) (K : PySem.W.Frag) (mg : Str → Option Value) (base : Heap) (CX : CXT) (k : Nat) (nm : Str) (ps : List Str) (sp : Sp) : Prop where
  ex : ∃ f fd, FnOk P w K mg base CX k f fd ps sp ∧ mg nm = some (.ref f) ∧ PySem.W.keepIn K (.ref f) = true ∧ Binds K fd ps []
theorem Pm.of {P : Program} {w : World} {K : PySem.W.Frag} {mg : Str → Option Value} {base : Heap} {CX : CXT} {k : Nat} {nm : Str} {st : Stmt} {ps : List Str} {sp : Sp} (d : Df K mg nm st ps) (h : ∀ f fd, Fun K nm nm st f fd → FnOk P w K mg base CX k f fd ps sp) : Pm P w K mg base CX k nm ps sp := by
  obtain ⟨f, fd, F, m, b⟩ := d.ex
  exact ⟨f, fd, h f fd F, m, F.kp, b⟩
/-! ### parts -/
def strB (x y : V) (n : Int) : Bool := match y with
  | .int m => decide (1 ≤ m) && betw x 0 (n - m)
  | _ => false
theorem strB_no {x y : V} {n : Int} (h : isInt y = false) : strB x y n = false := by
  cases y with
  | int i => cases h
  | _ => rfl
theorem strB_true {x y : V} {n : Nat} (h : strB x y (n : Int) = true) : ∃ t m : Nat, x = .int t ∧ y = .int m ∧ 1 ≤ m ∧ t + m ≤ n := by
  cases y with
  | int m =>
    unfold strB at h
    rw [Bool.and_eq_true, decide_eq_true_iff] at h
    obtain ⟨h1, h2⟩ := h
    cases x with
    | int t =>
      rw [betw_int, Bool.and_eq_true, decide_eq_true_iff, decide_eq_true_iff] at h2
      refine ⟨t.toNat, m.toNat, ?_, ?_, by omega, by omega⟩
      · rw [Int.toNat_of_nonneg h2.1]
      · rw [Int.toNat_of_nonneg (by omega)]
    | _ => cases h2
  | _ => cases h
def cutR (rs : List (List Nat)) (t l h w : Nat) : List (List Nat) := ((rs.drop t).take h).map fun r => (r.drop l).take w
theorem cutV_mid (xs : List V) (t h : Nat) (b : t + h ≤ xs.length) : cutV xs (some (t : Int)) (some ((t : Int) + (h : Int))) = (xs.drop t).take h := by
  have e : ((t : Int) + (h : Int)) = ((t + h : Nat) : Int) := by omega
  unfold cutV
  rw [e, HT.sIx_nat, HT.sIx_nat, Nat.min_eq_left b, Nat.min_eq_left (by omega), Nat.add_sub_cancel_left]
theorem cutS_mid (l : List Nat) (t h : Nat) (b : t + h ≤ l.length) : cutS (S l) (some (t : Int)) (some ((t : Int) + (h : Int))) = S ((l.drop t).take h) := by
  have e : ((t : Int) + (h : Int)) = ((t + h : Nat) : Int) := by omega
  unfold cutS
  rw [e, SX.S_len, HT.sIx_nat, HT.sIx_nat, Nat.min_eq_left b, Nat.min_eq_left (by omega), Nat.add_sub_cancel_left]
abbrev sStr : Stmt := topS 17
theorem scStr : FnScope ["start", "many", "whole"] ["start", "many", "whole"] (defScope sStr) := ⟨rfl, rfl, rfl, by decide +kernel, rfl, by decide +kernel, by decide +kernel⟩
def spStr (K : PySem.W.Frag) : Sp := fun vs H Q _ => ∃ x y n, vs = [x, y, .int n] ∧ Kt K H x ∧ Kt K H y ∧ Q (.bl (strB x y n)) H
abbrev sCut : Stmt := topS 16
theorem scCut : FnScope ["picture", "top", "left", "high", "wide", "rows", "columns", "row"] ["picture", "top", "left", "high", "wide"] (defScope sCut) := ⟨rfl, rfl, rfl, by decide +kernel, rfl, by decide +kernel, by decide +kernel⟩
def spCut (K : PySem.W.Frag) (CP : Addr) : Sp := fun vs H Q E => ∃ (a : Addr) (high wide : Nat) (rs : List (List Nat)) (x1 x2 x3 x4 : V), vs = [.ref a, x1, x2, x3, x4] ∧ H a = some (.tup (rs.map rv)) ∧ PicR high wide rs ∧ Kt K H x1 ∧ Kt K H x2 ∧ Kt K H x3 ∧ Kt K H x4 ∧
  ((strB x1 x3 high && strB x2 x4 wide) = true → ∀ t l h w : Nat, x1 = .int t → x2 = .int l → x3 = .int h → x4 = .int w → t + h ≤ high → l + w ≤ wide → 1 ≤ h → 1 ≤ w → ∀ p H', Same H H' → H p = none → H' p = some (.tup ((cutR rs t l h w).map rv)) → Q (.ref p) H') ∧
  ((strB x1 x3 high && strB x2 x4 wide) = false → ∀ H', Same H H' → E (.ref CP) none H')
section
variable {P : Program} {w : World} {K : PySem.W.Frag} {mg : Str → Option Value} {base : Heap} {C CP : Addr}
theorem ok_str {f : Addr} {fd : FuncData} {k : Nat} (F : Fun K "_is_stretch" "_is_stretch" sStr f fd) (GI : Pm P w K mg base CX0 (k + 1) "is_number" ["thing"] (spIsNum K)) (GB : Pm P w K mg base CX0 (k + 2) "is_between" ["thing", "least", "most"] (spBetw K)) : FnOk P w K mg base CX0 (k + 3) f fd ["start", "many", "whole"] (spStr K) := by
  obtain ⟨fI, fdI, GI, mI, kI, bI⟩ := GI.ex
  obtain ⟨fB, fdB, GB, mB, kB, bB⟩ := GB.ex
  refine F.ok scStr (fun vs H Q E h => ?_) (fun cdv A outer s H vs Q E hr h => ?_)
  · obtain ⟨x, y, n, rfl, _⟩ := h
    rfl
  · obtain ⟨x, y, n, rfl, kx, ky, q⟩ := h
    have hr1 : Room (k + 1) _ := hr.mono (by omega)
    refine ⟨_, pss_one (ps_ret (pe_and (pe_call GI hr1 (by rfl) mI kI bI .nil pass0 (pa_cons (pv 1) pa_nil)) (pe_and (pe_cmpR op_ge (pv 1) pe_int (nomark _)) (pe_one (pe_call GB hr (by rfl) mB kB bB .nil pass0 (pa_cons (pv 0) (pa_cons pe_int (pa_cons (pe_op op_sub (pv 2) (pv 1)) pa_nil)))))))), ?_⟩
    refine ⟨y, rfl, y, rfl, ky, _, rfl, ?_⟩
    cases y with
    | int m =>
      refine iteT ⟨.int m, rfl, m, 1, rfl, rfl, _, rfl, ite2 (fun e => ?_) (fun e => ?_)⟩
      · refine ⟨x, rfl, .int n, rfl, .int m, rfl, n, m, rfl, rfl, x, 0, n - m, rfl, kx, ?_⟩
        have e2 : strB x (.int m) n = betw x 0 (n - m) := by
          show (decide (1 ≤ m) && betw x 0 (n - m)) = _
          have : decide (1 ≤ m) = true := e
          rw [this, Bool.true_and]
        rw [e2] at q
        exact q
      · have e2 : strB x (.int m) n = false := by
          show (decide (1 ≤ m) && betw x 0 (n - m)) = _
          have : decide (1 ≤ m) = false := Bool.eq_false_iff.mpr e
          rw [this, Bool.false_and]
        rw [e2] at q
        exact q
    | _ => exact iteF q
theorem ok_cut {f : Addr} {fd : FuncData} {k : Nat} (F : Fun K "cut_out" "cut_out" sCut f fd) (X : Tx mg) (NP : ExN K mg "NoPlace" CP) (GZ : GS P w K mg base C (k + 3)) (GI : Pm P w K mg base CX0 (k + 3) "_is_stretch" ["start", "many", "whole"] (spStr K)) : FnOk P w K mg base (L2.CX P w) (k + 4) f fd ["picture", "top", "left", "high", "wide"] (spCut K CP) := by
  obtain ⟨fS, fdS, GS, mS, kS, bS⟩ := GZ.ex
  obtain ⟨fI, fdI, GI, mI, kI, bI⟩ := GI.ex
  refine F.okX scCut (fun vs H Q E h => ?_) (fun cdv A outer s H vs Q E hr h => ?_)
  · obtain ⟨a, _, _, _, x1, x2, x3, x4, rfl, _⟩ := h
    rfl
  · obtain ⟨a, high, wide, rs, x1, x2, x3, x4, rfl, ha, pr, k1, k2, k3, k4, q1, q2⟩ := h
    have nd := scCut.nd
    refine ⟨_, pss_cons (ps_asg (pe_callS GS hr (by rfl) mS kS bS (fun σ => passAt (takes_of rfl rfl rfl rfl) σ) (pa_cons (pv 0) pa_nil)) (pg_tup rfl (pgs_cons (pg_name (i := 5) nd rfl (Or.inl rfl)) (pgs_cons (pg_name (i := 6) nd rfl (Or.inl rfl)) pgs_nil))))
      (pss_cons (ps_if (PW.pt (pw_or (pt_not (pt_val (pe_call GI hr (by rfl) mI kI bI .nil pass0 (pa_cons (pv 1) (pa_cons (pv 3) (pa_cons (pv 5) pa_nil)))))) (pw_or1 (pt_not (pt_val (pe_call GI hr (by rfl) mI kI bI .nil pass0 (pa_cons (pv 2) (pa_cons (pv 4) (pa_cons (pv 6) pa_nil)))))))))
        (pss_one (ps_raise rfl (takes_of rfl rfl rfl rfl) (pmk_own PySem.F.excBase_ValueError NP.x NP.g NP.k (raises_own NP.b NP.t) rfl))) pss_nil)
      (pss_one (ps_ret (pe_callTy call_tuple_of (by rfl) X.tuple (by decide +kernel) (pa_cons (pe_lc (own := [("row", 7)]) (g := gName 7) (tt := tYes) rfl nd (pi_tup (pe_slice sl_tupA (pv 0) (po_some (pv 1)) (po_some (pe_op op_add (pv 1) (pv 3))))) (blkOk_by (N := ["picture", "top", "left", "high", "wide", "rows", "columns", "row"]) (sc := defScope sCut) (by decide +kernel)) (fun _ _ _ _ _ => pg_name (i := 7) nd rfl (Or.inl rfl)) (fun _ _ _ _ _ => pts_nil)
          (fun _ _ _ _ _ => pe_slice sl_str (pv 7) (po_some (pv 2)) (po_some (pe_op op_add (pv 2) (pv 4))))) pa_nil))))), ?_⟩
    have e1 := picSize pr
    refine ⟨.ref a, rfl, .ref a, rfl, .inr ⟨a, _, rfl, SqT.of ha, kn_rows pr, picOk_pic pr, fun p3 H3 s3 n3 h3 => ?_⟩⟩
    rw [e1.1, e1.2] at h3
    refine ⟨p3, _, rfl, SqT.of h3, rfl, _, _, rfl, _, _, rfl, rfl, x1, rfl, x3, rfl, .int high, rfl, x1, x3, high, rfl, k1.same s3, k3.same s3, _, rfl, ?_⟩
    cases b1 : strB x1 x3 high with
    | false =>
      refine iteT (iteT (q2 (by rw [b1]; rfl) _ s3))
    | true =>
      refine iteF ⟨x2, rfl, x4, rfl, .int wide, rfl, x2, x4, wide, rfl, k2.same s3, k4.same s3, _, rfl, ?_⟩
      cases b2 : strB x2 x4 wide with
      | false => exact iteT (q2 (by rw [b1, b2]; rfl) _ s3)
      | true =>
        refine iteF ?_
        obtain ⟨t, hh, rfl, rfl, hh1, hh2⟩ := strB_true b1
        obtain ⟨l, ww, rfl, rfl, ww1, ww2⟩ := strB_true b2
        have q := q1 (by rw [b1, b2]; rfl) t l hh ww rfl rfl rfl rfl hh2 ww2 hh1 ww1
        have hlen := pr.len
        refine ⟨.ref a, rfl, .int t, rfl, t, rfl, .int t, rfl, .int hh, rfl, t, hh, rfl, rfl, _, rfl, sl_any (s3 _ _ ha) fun z H4 s4 hz => ?_⟩
        rw [cutV_mid _ _ _ (by rw [List.length_map, hlen]; exact hh2), ← List.map_drop, ← List.map_take] at hz
        have s34 := s3.trans s4
        refine ⟨z, rfl, ⟨_, SqT.of hz⟩, fun D hD => lc_tup (K := K) (a := z) (xs := ((rs.drop t).take hh).map rv) (fun i H5 => Same H4 H5 ∧ H5 D = some (.lst (((((rs.drop t).take hh).take i).map fun r => (r.drop l).take ww).map rv))) ⟨same_upd hD, upd_same⟩ (fun i H5 _ zz => SqT.of (zz.1 _ _ hz)) ?_ ?_⟩
        · rintro i x H5 hi ⟨sm, h5⟩
          obtain ⟨r, hr, rfl⟩ := map_at hi
          have hm : r ∈ rs := List.mem_of_mem_drop (List.mem_of_mem_take (List.mem_of_getElem? hr))
          have lr := (pr.row r hm).len
          have w1 := pr.w1
          have h1' := pr.h1
          have hil : i < ((rs.drop t).take hh).length := (List.getElem?_eq_some_iff.mp hr).1
          rw [List.length_take, List.length_drop] at hil
          refine ⟨rfl, rv r, rfl, .int l, rfl, l, rfl, .int l, rfl, .int ww, rfl, l, ww, rfl, rfl, _, rfl, S r, rfl, ?_, ?_⟩
          · rw [SX.S_len]
            exact Nat.le_of_lt (small1000 (by omega))
          · rw [cutS_mid _ _ _ (by omega)]
            refine ⟨_, h5, ?_, same_over sm hD, ?_⟩
            · rw [List.length_map, List.length_map, List.length_take]
              exact smallT (by omega)
            · rw [upd_same, take_snoc hr, List.map_append, List.map_append]
              rfl
        · rintro H5 ⟨sm, h5⟩
          rw [List.length_map, List.take_length] at h5
          refine ⟨D, _, rfl, .inl ⟨SqL.of h5, fun p hp => ?_⟩⟩
          have sp := same_upd (o := .tup ((cutR rs t l hh ww).map rv)) hp
          exact q p _ ((s34.trans sm).trans sp) (s34.free (sm.free hp)) upd_same
end
end Dt
namespace Dt
open PySem PySem.Spec PyProof.Rows L2 L2X
open SX (S)
/-! ### dots turned over -/
def flipC (c : Nat) : Nat := if c = 35 then 46 else 35
def flipAt (ls : List (List Nat)) (r c : Nat) : List (List Nat) := ls.set r ((ls.getD r []).set c (flipC ((ls.getD r []).getD c 0)))
def flipAll (ls : List (List Nat)) (ps : List (Nat × Nat)) : List (List Nat) := ps.foldl (fun a p => flipAt a p.1 p.2) ls
theorem flip_ok {c : Nat} : flipC c = 35 ∨ flipC c = 46 := by
  unfold flipC
  split
  · exact .inr rfl
  · exact .inl rfl
theorem flipAt_eq {ls : List (List Nat)} {r c x : Nat} {l : List Nat} (h : ls[r]? = some l) (hx : l[c]? = some x) : flipAt ls r c = ls.set r (l.set c (flipC x)) := by
  unfold flipAt
  rw [set_getD h, getD_at hx]
theorem RowsR.flip {high wide r c : Nat} {rs : List (List Nat)} (h : RowsR high wide rs) (hr : r < high) (hc : c < wide) : RowsR high wide (flipAt rs r c) := by
  have hr' : r < rs.length := by rw [h.len]; exact hr
  have e1 : rs[r]? = some rs[r] := List.getElem?_eq_getElem hr'
  have rw1 := h.row rs[r] (List.getElem_mem hr')
  have hc' : c < rs[r].length := by rw [rw1.len]; exact hc
  have e2 : rs[r][c]? = some rs[r][c] := List.getElem?_eq_getElem hc'
  rw [flipAt_eq e1 e2]
  refine ⟨by rw [List.length_set, h.len], fun l hl => ?_⟩
  rcases List.mem_or_eq_of_mem_set hl with q | q
  · exact h.row l q
  · rw [q]
    refine ⟨by rw [List.length_set, rw1.len], fun x hx => ?_⟩
    rcases List.mem_or_eq_of_mem_set hx with q2 | q2
    · exact rw1.sg x q2
    · rw [q2]
      exact flip_ok
theorem RowsR.flips {high wide : Nat} : ∀ {ps : List (Nat × Nat)} {rs : List (List Nat)}, RowsR high wide rs → (∀ p ∈ ps, p.1 < high ∧ p.2 < wide) → RowsR high wide (flipAll rs ps)
  | [], _, h, _ => h
  | p :: ps, rs, h, hp => by
    have h1 := hp p List.mem_cons_self
    exact RowsR.flips (ps := ps) (h.flip h1.1 h1.2) fun q hq => hp q (List.mem_cons_of_mem _ hq)
structure Grid (H : Hp) (g : Addr) (as : List Addr) (ls : List (List Nat)) : Prop where
  top : H g = some (.lst (as.map V.ref))
  len : as.length = ls.length
  row : ∀ (i : Nat) (a : Addr) (l : List Nat), as[i]? = some a → ls[i]? = some l → H a = some (.lst (l.map ch))
  nd : as.Nodup
  off : g ∉ as
theorem Grid.same {H H' : Hp} {g : Addr} {as : List Addr} {ls : List (List Nat)} (G : Grid H g as ls) (s : Same H H') : Grid H' g as ls := ⟨s _ _ G.top, G.len, fun i a l h1 h2 => s _ _ (G.row i a l h1 h2), G.nd, G.off⟩
theorem Grid.put {H : Hp} {g a : Addr} {as : List Addr} {ls : List (List Nat)} {r c x : Nat} {l : List Nat} (G : Grid H g as ls) (ha : as[r]? = some a) (hl : ls[r]? = some l) : Grid (upd H a (.lst ((l.map ch).set c (ch x)))) g as (ls.set r (l.set c x)) := by
  have na : g ≠ a := fun e => G.off (e ▸ List.mem_of_getElem? ha)
  refine ⟨by rw [upd_ne na]; exact G.top, by rw [List.length_set, G.len], fun i b m hb hm => ?_, G.nd, G.off⟩
  by_cases e : i = r
  · subst e
    rw [ha] at hb
    cases hb
    have hlt := (List.getElem?_eq_some_iff.mp hl).1
    rw [List.getElem?_set_self hlt] at hm
    cases hm
    rw [upd_same, List.map_set]
  · rw [List.getElem?_set_ne (Ne.symm e)] at hm
    have nb : b ≠ a := fun q => by
      subst q
      obtain ⟨h1, e1⟩ := List.getElem?_eq_some_iff.mp hb
      obtain ⟨h2, e2⟩ := List.getElem?_eq_some_iff.mp ha
      exact e ((List.getElem_inj G.nd).mp (e1.trans e2.symm))
    rw [upd_ne nb]
    exact G.row i b m hb hm
/-- one more row -/
theorem Grid.add {H : Hp} {g a : Addr} {as : List Addr} {ls : List (List Nat)} {l : List Nat} (G : Grid H g as ls) (hn : H a = none) : Grid (upd (upd H a (.lst (l.map ch))) g (.lst (as.map V.ref ++ [V.ref a]))) g (as ++ [a]) (ls ++ [l]) := by
  have na : g ≠ a := ne_of_none G.top hn
  have old : ∀ b ∈ as, H b ≠ none := fun b hb e => by
    obtain ⟨i, hi⟩ := List.mem_iff_getElem?.mp hb
    have hlt : i < ls.length := by
      rw [← G.len]
      exact (List.getElem?_eq_some_iff.mp hi).1
    have := G.row i b _ hi (List.getElem?_eq_getElem hlt)
    rw [e] at this
    cases this
  have am : a ∉ as := fun h => old a h hn
  refine ⟨?_, by rw [List.length_append, List.length_append, G.len]; rfl, fun i b m hb hm => ?_, ?_, ?_⟩
  · rw [upd_same, List.map_append]
    rfl
  · have nbg : b ≠ g := fun q => by
      subst q
      rcases List.mem_append.mp (List.mem_of_getElem? hb) with z | z
      · exact G.off z
      · exact na (List.mem_singleton.mp z)
    rw [upd_ne nbg]
    by_cases hi : i < as.length
    · rw [List.getElem?_append_left hi] at hb
      rw [List.getElem?_append_left (by rw [← G.len]; exact hi)] at hm
      have nba : b ≠ a := fun q => am (q ▸ List.mem_of_getElem? hb)
      rw [upd_ne nba]
      exact G.row i b m hb hm
    · have hi2 : i = as.length := by
        have := (List.getElem?_eq_some_iff.mp hb).1
        rw [List.length_append, List.length_singleton] at this
        omega
      rw [hi2, List.getElem?_concat_length] at hb
      rw [hi2, G.len, List.getElem?_concat_length] at hm
      cases hb
      cases hm
      rw [upd_same]
  · rw [List.nodup_append]
    exact ⟨G.nd, (by simp), fun x hx y hy e => am (by rw [← List.mem_singleton.mp hy, ← e]; exact hx)⟩
  · intro h
    rcases List.mem_append.mp h with z | z
    · exact G.off z
    · exact na (List.mem_singleton.mp z)
/-- .. and its rows are new -/
structure GridN (H0 H : Hp) (g : Addr) (as : List Addr) (ls : List (List Nat)) : Prop where
  gr : Grid H g as ls
  sm : Same H0 H
  ng : H0 g = none
  nr : ∀ a ∈ as, H0 a = none
theorem GridN.put {H0 H : Hp} {g a : Addr} {as : List Addr} {ls : List (List Nat)} {r c x : Nat} {l : List Nat} (G : GridN H0 H g as ls) (ha : as[r]? = some a) (hl : ls[r]? = some l) : GridN H0 (upd H a (.lst ((l.map ch).set c (ch x)))) g as (ls.set r (l.set c x)) :=
  ⟨G.gr.put ha hl, same_over G.sm (G.nr a (List.mem_of_getElem? ha)), G.ng, G.nr⟩
theorem GridN.add {H0 H : Hp} {g a : Addr} {as : List Addr} {ls : List (List Nat)} {l : List Nat} (G : GridN H0 H g as ls) (hn : H a = none) : GridN H0 (upd (upd H a (.lst (l.map ch))) g (.lst (as.map V.ref ++ [V.ref a]))) g (as ++ [a]) (ls ++ [l]) := by
  have na := G.sm.free hn
  refine ⟨G.gr.add hn, same_over (same_over G.sm na) G.ng, G.ng, fun b hb => ?_⟩
  rcases List.mem_append.mp hb with z | z
  · exact G.nr b z
  · rw [List.mem_singleton.mp z]
    exact na
theorem GridN.same {H0 H H' : Hp} {g : Addr} {as : List Addr} {ls : List (List Nat)} (G : GridN H0 H g as ls) (s : Same H H') : GridN H0 H' g as ls := ⟨G.gr.same s, G.sm.trans s, G.ng, G.nr⟩
theorem GridN.same' {H0 H : Hp} {g E : Addr} {as : List Addr} {ls : List (List Nat)} {xs ys : List V} (G : GridN H0 H g as ls) (_ : H E = some (.lst xs)) (n1 : g ≠ E) (n2 : ∀ a ∈ as, a ≠ E) (n3 : H0 E = none) : GridN H0 (upd H E (.lst ys)) g as ls :=
  ⟨⟨by rw [upd_ne n1]; exact G.gr.top, G.gr.len, fun i a l h1 h2 => by rw [upd_ne (n2 a (List.mem_of_getElem? h1))]; exact G.gr.row i a l h1 h2, G.gr.nd, G.gr.off⟩, same_over G.sm n3, G.ng, G.nr⟩
end Dt
namespace L2X
open PySem PySem.Spec PyProof.Rows L2
/-- i ** 3 of an int of any decent size -/
def CPow3 (i j : Int) : Prop := j = 3 ∧ i.natAbs < 2 ^ 1000
theorem op_pow3 {X : Cx} : OpR X (binaryOp .Pow) (rI CPow3 fun i j => .int (i ^ j.toNat)) := opI fun i j _ _ _ _ _ hc q => by
  obtain ⟨rfl, h⟩ := hc
  refine pow_int (by decide) ?_ q
  have z := PyProof.Rows.intBits_le h
  omega
end L2X
namespace Dt
open PySem PySem.Spec PyProof.Rows L2 L2X
open SX (S)
/-! ### the drawing list -/
def Du (H : Hp) (d : Addr) (n : Nat) : Prop := ∃ a b t : Int, H d = some (.lst [.int a, .int b, .int t]) ∧ 0 ≤ t ∧ t ≤ (n : Int)
/-- all but d stays -/
def Do (d : Addr) (H H' : Hp) : Prop := ∀ b o, H b = some o → b ≠ d → H' b = some o
theorem Do.refl {d : Addr} {H : Hp} : Do d H H := fun _ _ e _ => e
theorem Do.trans {d : Addr} {H H1 H2 : Hp} (a : Do d H H1) (b : Do d H1 H2) : Do d H H2 := fun x o e h1 => b x o (a x o e h1) h1
theorem Do.same {d : Addr} {H H' : Hp} (a : Same H H') : Do d H H' := fun b o e _ => a b o e
theorem Du.same {H H' : Hp} {d : Addr} {n : Nat} (D : Du H d n) (s : Same H H') : Du H' d n := by
  obtain ⟨a, b, t, h, h0, h1⟩ := D
  exact ⟨a, b, t, s _ _ h, h0, h1⟩
theorem Du.le {H : Hp} {d : Addr} {n m : Nat} (D : Du H d n) (l : n ≤ m) : Du H d m := by
  obtain ⟨a, b, t, h, h0, h1⟩ := D
  exact ⟨a, b, t, h, h0, by omega⟩
theorem Du.new {H : Hp} {d p : Addr} {n : Nat} (D : Du H d n) (h : H p = none) : p ≠ d := by
  obtain ⟨a, b, t, e, _⟩ := D
  exact fun z => by (rw [z, e] at h; cases h)
theorem Du.upd {H : Hp} {d p : Addr} {n : Nat} {o : HO} (D : Du H d n) (h : p ≠ d) : Du (upd H p o) d n := by
  obtain ⟨a, b, t, e, h0⟩ := D
  exact ⟨a, b, t, by rw [upd_ne h.symm]; exact e, h0⟩
theorem Do.nn {d p : Addr} {n : Nat} {H H' : Hp} (a : Do d H H') (D : Du H' d n) (h : H' p = none) : H p = none := by
  cases e : H p with
  | none => rfl
  | some o =>
    rw [a _ _ e (D.new h)] at h
    cases h
/-- what was under no watch ahead may change -/
theorem Do.upd {d p : Addr} {H H' : Hp} {o : HO} (a : Do d H H') (h : H p = none) : Do d H (upd H' p o) := fun b u e n => by
  rw [upd_ne (ne_of_none e h)]
  exact a _ _ e n
def fuel : Nat := 1000000000000
abbrev sNx : Stmt := topS 28
theorem scNx : FnScope ["draw", "below", "found"] ["draw", "below"] (defScope sNx) := ⟨rfl, rfl, rfl, by decide +kernel, rfl, by decide +kernel, by decide +kernel⟩
def spNx : Sp := fun vs H Q _ => ∃ (d : Addr) (b : Int) (n : Nat), vs = [.ref d, .int b] ∧ Du H d n ∧ n ≤ fuel ∧ 0 < b ∧ b < 1073741824 ∧ ∀ (m : Int) (H' : Hp), 0 ≤ m → m < b → Du H' d (n + 1) → Do d H H' → Q (.int m) H'
abbrev sPk : Stmt := topS 29
theorem scPk : FnScope ["draw", "some"] ["draw", "some"] (defScope sPk) := ⟨rfl, rfl, rfl, by decide +kernel, rfl, by decide +kernel, by decide +kernel⟩
/-- of a list, or of a text -/
def spPk (K : PySem.W.Frag) : Sp := fun vs H Q _ => ∃ (d : Addr) (x : V) (n : Nat), vs = [.ref d, x] ∧ Du H d n ∧ n ≤ fuel ∧
  ((∃ (l : Addr) (xs : List V), x = .ref l ∧ l ≠ d ∧ H l = some (.lst xs) ∧ 0 < xs.length ∧ xs.length ≤ 1000 ∧ ∀ (j : Nat) (y : V) (H' : Hp), xs[j]? = some y → Du H' d (n + 1) → Do d H H' → Q y H') ∨
   (∃ (z : Str), x = .str z ∧ 0 < z.length ∧ z.length ≤ 1000 ∧ ∀ (c : Nat) (H' : Hp), c ∈ z.cps.toList → Du H' d (n + 1) → Do d H H' → Q (.str ⟨#[c]⟩) H'))
abbrev sBg : Stmt := topS 27
theorem scBg : FnScope ["cell", "k"] ["cell", "k"] (defScope sBg) := ⟨rfl, rfl, rfl, by decide +kernel, rfl, by decide +kernel, by decide +kernel⟩
def spBg : Sp := fun vs H Q _ => ∃ (c k : Int), vs = [.int c, .int k] ∧ 0 ≤ k ∧ k ≤ 1000 ∧ ∀ (d : Addr) (H' : Hp), H d = none → Same H H' → Du H' d 0 → Q (.ref d) H'
theorem small_bits {a b : Nat} {i : Int} (h0 : 0 ≤ i) (h1 : i < (b : Int)) (hb : b ≤ 2 ^ a) : i.natAbs < 2 ^ a := by omega
section
variable {P : Program} {w : World} {K : PySem.W.Frag} {mg : Str → Option Value} {base : Heap}
theorem ok_nx {f : Addr} {fd : FuncData} {k : Nat} (F : Fun K "_law_next" "_law_next" sNx f fd) : FnOk P w K mg base CX0 (k + 1) f fd ["draw", "below"] spNx := by
  refine F.ok scNx (fun vs H Q E h => ?_) (fun cdv A outer s H vs Q E hr h => ?_)
  · obtain ⟨d, b, n, rfl, _⟩ := h
    rfl
  · obtain ⟨d, b, n, rfl, D, hn, hb0, hb1, q⟩ := h
    have nd := scNx.nd
    refine ⟨_, pss_cons (ps_if (pt_cmpR op_gt (pe_ix ix_list (pv 0) pe_int (fun _ _ => rfl)) pe_int (nomark _))
        (pss_cons (ps_set (i := 2) nd rfl (.inl rfl) (pe_op op_mod (pe_ix ix_list (pv 0) pe_int (fun _ _ => rfl)) (pv 1)))
        (pss_cons (ps_asg (pe_op op_fdiv (pe_ix ix_list (pv 0) pe_int (fun _ _ => rfl)) (pv 1)) (pg_sub (pv 0) pe_int set_list))
        (pss_one (ps_ret (pv 2))))) pss_nil)
      (pss_cons (ps_asg (pe_op op_add (pe_ix ix_list (pv 0) pe_int (fun _ _ => rfl)) pe_int) (pg_sub (pv 0) pe_int set_list))
      (pss_cons (ps_set (i := 2) nd rfl (.inl rfl) (pe_op op_add (pe_op op_mod (pe_ix ix_list (pv 0) pe_int (fun _ _ => rfl)) pe_int) (pe_op op_mul pe_int (pe_ix ix_list (pv 0) pe_int (fun _ _ => rfl)))))
      (pss_cons (ps_set (i := 2) nd rfl (.inl rfl) (pe_op op_mulX (pv 2) (pe_op op_add (pe_op op_add (pe_op op_mod (pe_ix ix_list (pv 0) pe_int (fun _ _ => rfl)) pe_int) (pe_op op_mulX (pe_op op_mul pe_int (pe_ix ix_list (pv 0) pe_int (fun _ _ => rfl))) (pe_ix ix_list (pv 0) pe_int (fun _ _ => rfl)))) pe_int)))
      (pss_one (ps_ret (pe_op op_mod (pe_op op_fdiv (pe_op op_mod (pe_op op_pow3 (pv 2) pe_int) pe_int) pe_int) (pv 1))))))), ?_⟩
    obtain ⟨a, e, t, hd, t0, t1⟩ := id D
    refine ⟨.ref d, rfl, d, _, 0, .int a, rfl, rfl, SqL.of hd, rfl, a, 0, rfl, rfl, _, rfl, ite2 (fun e1 => ?_) (fun e1 => ?_)⟩
    · refine ⟨.ref d, rfl, d, _, 0, .int a, rfl, rfl, SqL.of hd, rfl, .int b, rfl, a, b, rfl, rfl, hb0, ?_⟩
      refine ⟨.ref d, rfl, d, _, 0, .int a, rfl, rfl, SqL.of hd, rfl, .int b, rfl, a, b, rfl, rfl, ⟨hb0, hb1⟩, ?_⟩
      refine ⟨.ref d, rfl, d, _, 0, 0, rfl, rfl, hd, rfl, .int (a % b), rfl, q _ _ (Int.emod_nonneg _ (by omega)) (Int.emod_lt_of_pos _ hb0) ⟨a / b, e, t, upd_same, t0, by omega⟩ ?_⟩
      intro b' o e' n'
      rw [upd_ne n']
      exact e'
    · refine ⟨.ref d, rfl, d, _, 2, .int t, rfl, rfl, SqL.of hd, rfl, t, 1, rfl, rfl, ?_⟩
      refine ⟨.ref d, rfl, d, _, 2, 2, rfl, rfl, hd, rfl, ?_⟩
      have hd2 : (upd H d (.lst [V.int a, V.int e, V.int (t + 1)])) d = some (.lst [V.int a, V.int e, V.int (t + 1)]) := upd_same
      have fu : n ≤ 1000000000000 := hn
      have m0 := Int.emod_nonneg e (show (2147483629 : Int) ≠ 0 by decide)
      have m1 := Int.emod_lt_of_pos e (show (0 : Int) < 2147483629 by decide)
      have l0 := Int.emod_nonneg e (show (2147483587 : Int) ≠ 0 by decide)
      have l1 := Int.emod_lt_of_pos e (show (0 : Int) < 2147483587 by decide)
      refine ⟨.ref d, rfl, d, _, 1, .int e, rfl, rfl, SqL.of hd2, rfl, e, 2147483629, rfl, rfl, (by show (0 : Int) < 2147483629; decide), ?_⟩
      refine ⟨.ref d, rfl, d, _, 2, .int (t + 1), rfl, rfl, SqL.of hd2, rfl, 104729, t + 1, rfl, rfl, .inl ⟨by decide, by decide⟩, _, _, rfl, rfl, ?_⟩
      have f0 : 0 ≤ e % 2147483629 + 104729 * (t + 1) := by omega
      have f1 : e % 2147483629 + 104729 * (t + 1) < 1000000000000000000000 := by omega
      obtain ⟨F, hF⟩ : ∃ F, F = e % 2147483629 + 104729 * (t + 1) := ⟨_, rfl⟩
      rw [← hF] at f0 f1
      refine ⟨.int F, congrArg (fun z => some (some (V.int z))) hF.symm, .ref d, rfl, d, _, 1, .int e, rfl, rfl, SqL.of hd2, rfl, e, 2147483587, rfl, rfl, (by show (0 : Int) < 2147483587; decide), ?_⟩
      refine ⟨.ref d, rfl, d, _, 2, .int (t + 1), rfl, rfl, SqL.of hd2, rfl, 7919, t + 1, rfl, rfl, .inl ⟨by decide, by decide⟩, ?_⟩
      refine ⟨.ref d, rfl, d, _, 2, .int (t + 1), rfl, rfl, SqL.of hd2, rfl, _, _, rfl, rfl, mulx_ok (a := 64) (b := 64) (by omega) (by omega) (by decide), _, _, rfl, rfl, _, _, rfl, rfl, _, _, rfl, rfl, ?_⟩
      have g0 : 0 ≤ 7919 * (t + 1) * (t + 1) := Int.mul_nonneg (by omega) (by omega)
      have g1 : 7919 * (t + 1) * (t + 1) ≤ (7919 * 1000000000001) * 1000000000001 := Int.mul_le_mul (by omega) (by omega) (by omega) (by omega)
      generalize 7919 * (t + 1) * (t + 1) = G at g0 g1 ⊢
      refine ⟨mulx_ok (a := 100) (b := 100) (by omega) (by omega) (by decide), ?_⟩
      have h0 : 0 ≤ F * (e % 2147483587 + G + 11) := Int.mul_nonneg f0 (by omega)
      have h1 : F * (e % 2147483587 + G + 11) ≤ 1000000000000000000000 * 10000000000000000000000000000000 := Int.mul_le_mul (by omega) (by omega) (by omega) (by omega)
      obtain ⟨M, hM⟩ : ∃ M, M = F * (e % 2147483587 + G + 11) := ⟨_, rfl⟩
      rw [← hM] at h0 h1
      have big : M.natAbs < 2 ^ 1000 := by
        have : (1000000000000000000000 * 10000000000000000000000000000000 : Nat) < 2 ^ 1000 := by decide +kernel
        omega
      have mm0 := Int.emod_nonneg (M ^ 3) (show (2147483647 : Int) ≠ 0 by decide)
      have mm1 := Int.emod_lt_of_pos (M ^ 3) (show (0 : Int) < 2147483647 by decide)
      refine ⟨.int M, congrArg (fun z => some (some (V.int z))) hM.symm, M, 3, rfl, rfl, ⟨rfl, big⟩, _, _, rfl, rfl, (by show (0 : Int) < 2147483647; decide), _, _, rfl, rfl, ⟨by decide, by decide⟩, .int b, rfl, _, _, rfl, rfl, hb0, q _ _ (Int.emod_nonneg _ (by omega)) (Int.emod_lt_of_pos _ hb0) ⟨a, e, t + 1, hd2, by omega, by omega⟩ ?_⟩
      intro b' o e' n'
      rw [upd_ne n']
      exact e'
theorem ok_bg {f : Addr} {fd : FuncData} {k : Nat} (F : Fun K "_law_begun" "_law_begun" sBg f fd) (mx : mg "max" = none) : FnOk P w K mg base CX0 (k + 1) f fd ["cell", "k"] spBg := by
  refine F.ok scBg (fun vs H Q E h => ?_) (fun cdv A outer s H vs Q E hr h => ?_)
  · obtain ⟨c, k, rfl, _⟩ := h
    rfl
  · obtain ⟨c, k, rfl, k0, k1, q⟩ := h
    refine ⟨_, pss_one (ps_ret (pe_lst (pa_cons (pe_callB (call_max2 rfl) (by rfl) mx (by decide +kernel) (pa_cons pe_int (pa_cons (pe_op op_sub (pv 0) (pe_op op_pow pe_int pe_int)) pa_nil))) (pa_cons (pe_op op_add (pv 0) (pe_op op_mul pe_int (pv 1))) (pa_cons pe_int pa_nil))))), ?_⟩
    refine ⟨.int c, rfl, 10, 18, rfl, rfl, ⟨by decide, by decide, by decide⟩, c, _, rfl, rfl, 0, _, rfl, .int c, rfl, .int k, rfl, 977, k, rfl, rfl, .inl ⟨by decide, by decide⟩, c, _, rfl, rfl, by show 3 ≤ sizeLine; decide, fun l hl => ?_⟩
    exact q l _ hl (same_upd hl) ⟨_, _, 0, upd_same, Int.le_refl _, Int.le_refl _⟩
theorem ok_pk {f : Addr} {fd : FuncData} {k : Nat} (F : Fun K "_law_pick" "_law_pick" sPk f fd) (T : Tx mg) (fN : Addr) (fdN : FuncData) (GN : FnOk P w K mg base CX0 (k + 1) fN fdN ["draw", "below"] spNx) (mN : mg "_law_next" = some (.ref fN)) (kN : PySem.W.keepIn K (.ref fN) = true) (bN : Binds K fdN ["draw", "below"] []) : FnOk P w K mg base CX0 (k + 2) f fd ["draw", "some"] (spPk K) := by
  refine F.ok scPk (fun vs H Q E h => ?_) (fun cdv A outer s H vs Q E hr h => ?_)
  · obtain ⟨d, x, n, rfl, _⟩ := h
    rfl
  · obtain ⟨d, x, n, rfl, D, hn, h⟩ := h
    have hu := hu_of hr
    rcases h with ⟨l, xs, rfl, nl, hl, x0, x1, q⟩ | ⟨z, rfl, z0, z1, q⟩
    · refine ⟨_, pss_one (ps_ret (pe_ix ix_list (pv 1) (pe_call GN hr (by rfl) mN kN bN .nil pass0 (pa_cons (pv 0) (pa_cons (pe_callB call_len_seq (by rfl) T.len PySem.boot_len (pa_cons (pv 1) pa_nil)) pa_nil))) (fun _ _ => rfl))), ?_⟩
      refine ⟨.ref l, rfl, .ref d, rfl, .ref l, rfl, l, xs, rfl, .inl (SqL.of hl), d, (xs.length : Int), n, rfl, D, hn, by omega, by omega, fun m H1 m0 m1 D1 dn1 => ?_⟩
      obtain ⟨j, rfl⟩ := Int.eq_ofNat_of_zero_le m0
      have hj : j < xs.length := by omega
      have hx : xs[j]? = some xs[j] := List.getElem?_eq_getElem hj
      exact ⟨l, xs, (j : Int), xs[j], rfl, rfl, SqL.of (dn1 _ _ hl nl), atI_nat hx, q j _ H1 hx D1 dn1⟩
    · refine ⟨_, pss_one (ps_ret (pe_ix ix_str (pv 1) (pe_call GN hr (by rfl) mN kN bN .nil pass0 (pa_cons (pv 0) (pa_cons (pe_callB call_len_str (by rfl) T.len PySem.boot_len (pa_cons (pv 1) pa_nil)) pa_nil))) (fun _ _ => rfl))), ?_⟩
      have zs : z.length ≤ sizeLine := Nat.le_of_lt (small1000 z1)
      refine ⟨.str z, rfl, .ref d, rfl, .str z, rfl, z, rfl, zs, d, (z.length : Int), n, rfl, D, hn, by omega, by omega, fun m H1 m0 m1 D1 dn1 => ?_⟩
      obtain ⟨j, rfl⟩ := Int.eq_ofNat_of_zero_le m0
      have hj : j < z.cps.toList.length := by
        have : z.cps.toList.length = z.length := by simp [Str.length]
        omega
      have hx : z.cps.toList[j]? = some z.cps.toList[j] := List.getElem?_eq_getElem hj
      exact ⟨z, (j : Int), _, rfl, rfl, zs, atI_nat hx, q _ H1 (List.getElem_mem hj) D1 dn1⟩
end
end Dt
namespace Dt
open PySem PySem.Spec PyProof.Rows L2 L2X
open SX (S)
theorem map_at2 {α : Type} {f : α → V} {l : List α} {i : Nat} {x : V} (h : (l.map f)[i]? = some x) : ∃ a, l[i]? = some a ∧ x = f a := by
  rw [List.getElem?_map] at h
  cases e : l[i]? with
  | none =>
    rw [e] at h
    cases h
  | some z =>
    rw [e] at h
    exact ⟨z, rfl, (Option.some.inj h).symm⟩
theorem Grid.dn {H H' : Hp} {d g : Addr} {as : List Addr} {ls : List (List Nat)} (G : Grid H g as ls) (s : Do d H H') (ng : g ≠ d) (na : ∀ a ∈ as, a ≠ d) : Grid H' g as ls :=
  ⟨s _ _ G.top ng, G.len, fun i a l h1 h2 => s _ _ (G.row i a l h1 h2) (na a (List.mem_of_getElem? h1)), G.nd, G.off⟩
/-- rows under work, new since H0, the drawing list at d -/
structure GridD (d : Addr) (H0 H : Hp) (g : Addr) (as : List Addr) (ls : List (List Nat)) : Prop where
  gr : Grid H g as ls
  sm : Do d H0 H
  ng : H0 g = none
  nr : ∀ a ∈ as, H0 a = none
  gd : g ≠ d
  ad : ∀ a ∈ as, a ≠ d
theorem GridD.dn {d : Addr} {H0 H H' : Hp} {g : Addr} {as : List Addr} {ls : List (List Nat)} (G : GridD d H0 H g as ls) (s : Do d H H') : GridD d H0 H' g as ls := ⟨G.gr.dn s G.gd G.ad, G.sm.trans s, G.ng, G.nr, G.gd, G.ad⟩
theorem GridD.put {d : Addr} {H0 H : Hp} {g a : Addr} {as : List Addr} {ls : List (List Nat)} {r c x : Nat} {l : List Nat} (G : GridD d H0 H g as ls) (ha : as[r]? = some a) (hl : ls[r]? = some l) : GridD d H0 (upd H a (.lst ((l.map ch).set c (ch x)))) g as (ls.set r (l.set c x)) :=
  ⟨G.gr.put ha hl, G.sm.upd (G.nr a (List.mem_of_getElem? ha)), G.ng, G.nr, G.gd, G.ad⟩
theorem GridD.same' {d : Addr} {H0 H : Hp} {g E : Addr} {as : List Addr} {ls : List (List Nat)} {ys : List V} (G : GridD d H0 H g as ls) (n1 : g ≠ E) (n2 : ∀ a ∈ as, a ≠ E) (n3 : H0 E = none) : GridD d H0 (upd H E (.lst ys)) g as ls :=
  ⟨⟨by rw [upd_ne n1]; exact G.gr.top, G.gr.len, fun i a l h1 h2 => by rw [upd_ne (n2 a (List.mem_of_getElem? h1))]; exact G.gr.row i a l h1 h2, G.gr.nd, G.gr.off⟩, G.sm.upd n3, G.ng, G.nr, G.gd, G.ad⟩
theorem Grid.none {H : Hp} {g E : Addr} {as : List Addr} {ls : List (List Nat)} (G : Grid H g as ls) (hE : H E = none) : g ≠ E ∧ ∀ a ∈ as, a ≠ E := by
  refine ⟨fun e => ?_, fun a ha e => ?_⟩
  · have n1 := G.top
    rw [e, hE] at n1
    cases n1
  · subst e
    obtain ⟨j, hj⟩ := List.mem_iff_getElem?.mp ha
    have hlt : j < ls.length := by
      rw [← G.len]
      exact (List.getElem?_eq_some_iff.mp hj).1
    have n1 := G.row j _ _ hj (List.getElem?_eq_getElem hlt)
    rw [hE] at n1
    cases n1
theorem RowsR.put {high wide r c x : Nat} {ls : List (List Nat)} {l : List Nat} (R : RowsR high wide ls) (hl : ls[r]? = some l) (hx : x = 35 ∨ x = 46) : RowsR high wide (ls.set r (l.set c x)) := by
  refine ⟨by rw [List.length_set, R.len], fun m hm => ?_⟩
  rcases List.mem_or_eq_of_mem_set hm with q | q
  · exact R.row m q
  · subst q
    have rl := R.row l (List.mem_of_getElem? hl)
    refine ⟨by rw [List.length_set, rl.len], fun y hy => ?_⟩
    rcases List.mem_or_eq_of_mem_set hy with q2 | q2
    · exact rl.sg y q2
    · rw [q2]
      exact hx
theorem dot_hash (b : Bool) : ∃ c : Nat, (c = 35 ∨ c = 46) ∧ atI (".#" : Str).cps.toList (if b = true then 1 else 0) = some c := by
  cases b with
  | true => exact ⟨35, .inl rfl, by decide +kernel⟩
  | false => exact ⟨46, .inr rfl, by decide +kernel⟩
section
variable {P : Program} {w : World} {K : PySem.W.Frag} {mg : Str → Option Value} {base : Heap}
end
end Dt
namespace Dt
open PySem PySem.Spec PyProof.Rows L2 L2X
open SX (S)
/-! ### pages that are drawn -/
abbrev sBk : Stmt := topS 30
theorem scBk : FnScope ["deep", "wide", "turn"] ["deep", "wide"] (defScope sBk) := ⟨rfl, rfl, rfl, by decide +kernel, rfl, by decide +kernel, by decide +kernel⟩
def spBk : Sp := fun vs H Q _ => ∃ deep wide : Nat, vs = [.int deep, .int wide] ∧ 1 ≤ deep ∧ deep ≤ 120 ∧ 1 ≤ wide ∧ wide ≤ 120 ∧
  ∀ (g : Addr) (as : List Addr) H', Same H H' → H g = none → (∀ a ∈ as, H a = none) → Grid H' g as (List.replicate deep (List.replicate wide 46)) → Q (.ref g) H'
abbrev sTd : Stmt := topS 31
theorem scTd : FnScope ["page", "line"] ["page"] (defScope sTd) := ⟨rfl, rfl, rfl, by decide +kernel, rfl, by decide +kernel, by decide +kernel⟩
def spTd : Sp := fun vs H Q _ => ∃ (g : Addr) (as : List Addr) (high wide : Nat) (ls : List (List Nat)), vs = [.ref g] ∧ Grid H g as ls ∧ RowsR high wide ls ∧ high ≤ 120 ∧ wide ≤ 120 ∧
  ∀ (p : Addr) H', Same H H' → H p = none → H' p = some (.tup (ls.map rv)) → Q (.ref p) H'
abbrev sPg : Stmt := topS 32
abbrev nPg : List Str := ["draw", "deep", "wide", "page", "way", "dense", "turn", "column", "top", "left", "down", "across", "at"]
theorem scPg : FnScope nPg ["draw"] (defScope sPg) := ⟨rfl, rfl, rfl, by decide +kernel, rfl, by decide +kernel, by decide +kernel⟩
def spPg : Sp := fun vs H Q _ => ∃ (d : Addr) (n : Nat), vs = [.ref d] ∧ Du H d n ∧ n + 20000 ≤ fuel ∧
  ∀ (p : Addr) (high wide : Nat) (rs : List (List Nat)) (H' : Hp), PicR high wide rs → high ≤ 30 → wide ≤ 50 → H p = none → H' p = some (.tup (rs.map rv)) → Du H' d (n + 20000) → Do d H H' → Q (.ref p) H'
theorem rep_ch (k : Nat) : (List.replicate k [V.str "."]).flatten = (List.replicate k 46).map ch := by
  induction k with
  | zero => rfl
  | succ k ih =>
    rw [List.replicate_succ, List.flatten_cons, ih, List.replicate_succ, List.map_cons, s_dot]
    rfl
theorem rows_white (deep wide : Nat) : RowsR deep wide (List.replicate deep (List.replicate wide 46)) := by
  refine ⟨List.length_replicate, fun l hl => ?_⟩
  rw [(List.mem_replicate.mp hl).2]
  exact ⟨List.length_replicate, fun c hc => .inr (List.mem_replicate.mp hc).2⟩
theorem GridD.add {d : Addr} {H0 H : Hp} {g a : Addr} {as : List Addr} {ls : List (List Nat)} {l : List Nat} {n : Nat} (G : GridD d H0 H g as ls) (D : Du H d n) (hn : H a = none) : GridD d H0 (upd (upd H a (.lst (l.map ch))) g (.lst (as.map V.ref ++ [V.ref a]))) g (as ++ [a]) (ls ++ [l]) := by
  have na := G.sm.nn D hn
  refine ⟨G.gr.add hn, (G.sm.upd na).upd G.ng, G.ng, fun b hb => ?_, G.gd, fun b hb => ?_⟩
  · rcases List.mem_append.mp hb with z | z
    · exact G.nr b z
    · rw [List.mem_singleton.mp z]
      exact na
  · rcases List.mem_append.mp hb with z | z
    · exact G.ad b z
    · rw [List.mem_singleton.mp z]
      exact D.new hn
theorem GridD.push {d : Addr} {H0 H : Hp} {g a : Addr} {as : List Addr} {ls : List (List Nat)} {l : List Nat} (G : GridD d H0 H g as ls) (ha : H a = some (.lst (l.map ch))) (na : H0 a = none) (ng : a ≠ g) (nd : a ≠ d) (nas : ∀ b ∈ as, b ≠ a) : GridD d H0 (upd H g (.lst (as.map V.ref ++ [V.ref a]))) g (as ++ [a]) (ls ++ [l]) := by
  refine ⟨⟨?_, ?_, fun i b m hb hm => ?_, ?_, ?_⟩, G.sm.upd G.ng, G.ng, fun b hb => ?_, G.gd, fun b hb => ?_⟩
  · rw [upd_same, List.map_append]
    rfl
  · rw [List.length_append, List.length_append, G.gr.len]
    rfl
  · have nbg : b ≠ g := by
      rintro rfl
      rcases List.mem_append.mp (List.mem_of_getElem? hb) with z | z
      · exact G.gr.off z
      · exact ng (List.mem_singleton.mp z).symm
    rw [upd_ne nbg]
    by_cases hi : i < as.length
    · rw [List.getElem?_append_left hi] at hb
      rw [List.getElem?_append_left (by rw [← G.gr.len]; exact hi)] at hm
      exact G.gr.row i b m hb hm
    · rw [List.getElem?_append_right (by omega)] at hb
      rw [List.getElem?_append_right (by rw [← G.gr.len]; omega), ← G.gr.len] at hm
      have e0 : i - as.length = 0 := by
        have := (List.getElem?_eq_some_iff.mp hb).1
        rw [List.length_singleton] at this
        omega
      rw [e0] at hb hm
      cases hb
      cases hm
      exact ha
  · refine List.nodup_append.mpr ⟨G.gr.nd, List.nodup_cons.mpr ⟨(fun h => nomatch h), List.nodup_nil⟩, fun x hx y hy => ?_⟩
    rw [List.mem_singleton.mp hy]
    exact nas x hx
  · intro h
    rcases List.mem_append.mp h with z | z
    · exact G.gr.off z
    · exact ng (List.mem_singleton.mp z).symm
  · rcases List.mem_append.mp hb with z | z
    · exact G.nr b z
    · rw [List.mem_singleton.mp z]
      exact na
  · rcases List.mem_append.mp hb with z | z
    · exact G.ad b z
    · rw [List.mem_singleton.mp z]
      exact nd
theorem RowsR.snoc {high wide : Nat} {ls : List (List Nat)} {l : List Nat} (R : RowsR high wide ls) (h : RowR wide l) : RowsR (high + 1) wide (ls ++ [l]) := by
  refine ⟨by rw [List.length_append, R.len]; rfl, fun m hm => ?_⟩
  rcases List.mem_append.mp hm with z | z
  · exact R.row m z
  · rw [List.mem_singleton.mp z]
    exact h
theorem pick3 {a b c j : Nat} {x : V} (h : [V.int (a : Int), V.int (b : Int), V.int (c : Int)][j]? = some x) : ∃ g : Nat, x = .int (g : Int) ∧ (g = a ∨ g = b ∨ g = c) := by
  rcases j with _ | _ | _ | j
  · cases h
    exact ⟨a, rfl, .inl rfl⟩
  · cases h
    exact ⟨b, rfl, .inr (.inl rfl)⟩
  · cases h
    exact ⟨c, rfl, .inr (.inr rfl)⟩
  · cases h
section
variable {P : Program} {w : World} {K : PySem.W.Frag} {mg : Str → Option Value} {base : Heap}
theorem ok_bk {f : Addr} {fd : FuncData} {k : Nat} (F : Fun K "_law_blank" "_law_blank" sBk f fd) (T : Tx mg) : FnOk P w K mg base CX0 (k + 1) f fd ["deep", "wide"] spBk := by
  refine F.ok scBk (fun vs H Q E h => ?_) (fun cdv A outer s H vs Q E hr h => ?_)
  · obtain ⟨deep, wide, rfl, _⟩ := h
    rfl
  · obtain ⟨deep, wide, rfl, d0, d1, w0, w1, q⟩ := h
    have nd := scBk.nd
    refine ⟨_, pss_one (ps_ret (pe_lc (own := [("turn", 2)]) (g := gName 2) (tt := tYes) rfl nd (pi_range1 rfl T.range (pa_cons (pv 0) pa_nil)) (blkOk_by (N := ["deep", "wide", "turn"]) (sc := defScope sBk) (by decide +kernel)) (fun _ _ _ _ _ => pg_name (i := 2) nd rfl (Or.inl rfl)) (fun _ _ _ _ _ => pts_nil)
      (fun _ _ _ _ _ => pe_op op_rep (pe_lst (pa_cons pe_str pa_nil)) (pv 1)))), ?_⟩
    refine ⟨.int deep, rfl, deep, rfl, by omega, by omega, fun D hD => lc_range (lo := 0) (n := deep) (fun i H3 => ∃ as, GridN H H3 D as (List.replicate i (List.replicate wide 46))) ?_ ?_ ?_⟩
    · exact ⟨[], ⟨upd_same, rfl, (fun i a l h => nomatch h), List.nodup_nil, (fun h => nomatch h)⟩, same_upd hD, hD, (fun a h => nomatch h)⟩
    · rintro i H3 hi ⟨as, G⟩
      refine ⟨rfl, by show 1 ≤ sizeLine; decide, fun l hl => ?_⟩
      have sl := same_upd (o := .lst [V.str "."]) hl
      have nl := G.gr.none hl
      have G2 := G.same sl
      refine ⟨.int wide, rfl, l, wide, [V.str "."], rfl, rfl, upd_same, by omega, by omega, ?_, fun r hr' => ?_⟩
      · rw [Int.toNat_natCast]
        show 1 * wide ≤ sizeLine
        have := small1000 (show wide ≤ 1000 by omega)
        omega
      · rw [Int.toNat_natCast, rep_ch]
        refine ⟨as.map V.ref, ?_, ?_, as ++ [r], ?_⟩
        · rw [upd_ne (ne_of_none G2.gr.top hr')]
          exact G2.gr.top
        · rw [List.length_map, G.gr.len, List.length_replicate]
          exact small1000 (by omega)
        · have e : List.replicate (i + 1) (List.replicate wide 46) = List.replicate i (List.replicate wide 46) ++ [List.replicate wide 46] := by
            rw [← List.replicate_append_replicate]
            rfl
          rw [e]
          exact G2.add hr'
    · rintro H3 ⟨as, G⟩
      exact q D as H3 G.sm hD G.nr G.gr
theorem ok_td {f : Addr} {fd : FuncData} {k : Nat} (F : Fun K "_law_told" "_law_told" sTd f fd) (T : Tx mg) : FnOk P w K mg base CX0 (k + 1) f fd ["page"] spTd := by
  refine F.ok scTd (fun vs H Q E h => ?_) (fun cdv A outer s H vs Q E hr h => ?_)
  · obtain ⟨g, as, high, wide, ls, rfl, _⟩ := h
    rfl
  · obtain ⟨g, as, high, wide, ls, rfl, G, R, h1, w1, q⟩ := h
    have nd := scTd.nd
    refine ⟨_, pss_one (ps_ret (pe_callTy call_tuple_of (by rfl) T.tuple (by decide +kernel) (pa_cons (pe_lc (own := [("line", 1)]) (g := gName 1) (tt := tYes) rfl nd (pi_list (pv 0)) (blkOk_by (N := ["page", "line"]) (sc := defScope sTd) (by decide +kernel)) (fun _ _ _ _ _ => pg_name (i := 1) nd rfl (Or.inl rfl)) (fun _ _ _ _ _ => pts_nil)
      (fun _ _ _ _ _ => pe_joinK (K := K) rfl pe_str (pv 1))) pa_nil))), ?_⟩
    have lh : as.length = high := by rw [G.len, R.len]
    refine ⟨.ref g, rfl, g, rfl, ⟨_, SqL.of G.top⟩, fun E hE => lc_list (K := K) (a := g) (xs := as.map V.ref) (fun i H6 => Same H H6 ∧ H6 E = some (.lst ((ls.take i).map rv))) ⟨same_upd hE, upd_same⟩ (fun i H6 _ z => SqL.of (z.1 _ _ G.top)) ?_ ?_⟩
    · rintro i x H6 hi ⟨sm, h6⟩
      obtain ⟨b, hb, rfl⟩ := map_at2 hi
      have hil : i < ls.length := by
        rw [← G.len]
        exact (List.getElem?_eq_some_iff.mp hb).1
      have e1 : ls[i]? = some ls[i] := List.getElem?_eq_getElem hil
      generalize ls[i] = l at e1
      have rl := R.row l (List.mem_of_getElem? e1)
      have h6b := sm _ _ (G.row i b l hb e1)
      refine ⟨rfl, ⟨"", rfl⟩, .ref b, rfl, "", b, l.map fun c => (⟨#[c]⟩ : Str), rfl, rfl, .inl (SqL.of ?_), ?_, ?_⟩
      · rw [h6b, List.map_map]
        rfl
      · rw [lens_rows]
        have := rl.len
        show l.length + _ * 0 ≤ 16777216
        omega
      · rw [join_row]
        refine ⟨_, h6, ?_, same_over sm hE, ?_⟩
        · rw [List.length_map, List.length_take]
          exact small1000 (by have := R.len; omega)
        · rw [upd_same, take_snoc e1, List.map_append]
          rfl
    · rintro H6 ⟨sm, h6⟩
      have e : ls.take (as.map V.ref).length = ls := List.take_of_length_le (by rw [List.length_map, G.len]; exact Nat.le_refl _)
      rw [e] at h6
      refine ⟨E, _, rfl, .inl ⟨SqL.of h6, fun p hp => ?_⟩⟩
      exact q p _ (sm.trans (same_upd hp)) (sm.free hp) upd_same
theorem ok_pg {f : Addr} {fd : FuncData} {k : Nat} (F : Fun K "_law_page" "_law_page" sPg f fd) (T : Tx mg) (mi : mg "min" = none) (GN : Pm P w K mg base CX0 (k + 2) "_law_next" ["draw", "below"] spNx) (GK : Pm P w K mg base CX0 (k + 2) "_law_pick" ["draw", "some"] (spPk K))
    (GB : Pm P w K mg base CX0 (k + 2) "_law_blank" ["deep", "wide"] spBk) (GT : Pm P w K mg base CX0 (k + 2) "_law_told" ["page"] spTd) : FnOk P w K mg base CX0 (k + 3) f fd ["draw"] spPg := by
  obtain ⟨fN, fdN, GN, mN, kN, bN⟩ := GN.ex
  obtain ⟨fK, fdK, GK, mK, kK, bK⟩ := GK.ex
  obtain ⟨fB, fdB, GB, mB, kB, bB⟩ := GB.ex
  obtain ⟨fT, fdT, GT, mT, kT, bT⟩ := GT.ex
  refine F.ok scPg (fun vs H Q E h => ?_) (fun cdv A outer s H vs Q E hr h => ?_)
  · obtain ⟨d, n, rfl, _⟩ := h
    rfl
  · obtain ⟨d, n, rfl, D, hn, q⟩ := h
    have nd := scPg.nd
    refine ⟨_, C8.pss_cut (ps_par (i := 1) (j := 2) (by rfl) nd rfl rfl (by decide) rfl rfl (pa_cons (pe_op op_add pe_int (pe_call GN hr (by rfl) mN kN bN .nil pass0 (pa_cons (pv 0) (pa_cons (pe_call GK hr (by rfl) mK kK bK .nil pass0 (pa_cons (pv 0) (pa_cons (pe_lst (pa_cons pe_int (pa_cons pe_int (pa_cons pe_int pa_nil)))) pa_nil))) pa_nil)))) (pa_cons (pe_op op_add pe_int (pe_call GN hr (by rfl) mN kN bN .nil pass0 (pa_cons (pv 0) (pa_cons (pe_call GK hr (by rfl) mK kK bK .nil pass0 (pa_cons (pv 0) (pa_cons (pe_lst (pa_cons pe_int (pa_cons pe_int (pa_cons pe_int pa_nil)))) pa_nil))) pa_nil)))) pa_nil)) (by rfl))
      (C8.pss_cut (ps_par (i := 3) (j := 4) (by rfl) nd rfl rfl (by decide) rfl rfl (pa_cons (pe_call GB hr (by rfl) mB kB bB .nil pass0 (pa_cons (pv 1) (pa_cons (pv 2) pa_nil))) (pa_cons (pe_call GN hr (by rfl) mN kN bN .nil pass0 (pa_cons (pv 0) (pa_cons pe_int pa_nil))) pa_nil)) (by rfl))
      (C8.pss_cut (ps_if (pt_cmpR op_eq (pv 4) pe_int (nomark _))
          (pss_cons (ps_set (i := 5) nd rfl (.inr rfl) (pe_op op_add pe_int (pe_call GN hr (by rfl) mN kN bN .nil pass0 (pa_cons (pv 0) (pa_cons pe_int pa_nil)))))
          (pss_cons (ps_set (i := 3) nd rfl (.inl rfl) (pe_lst pa_nil))
          (pss_one (ps_for PassesOwn.never rfl (pi_range1 rfl T.range (pa_cons (pv 1) pa_nil)) (pg_name (i := 6) nd rfl (.inl rfl))
            (pss_one (ps_expr (pe_bm PySem.F.plainAttrs_list PySem.F.slot_list_append PySem.F.type_list_append mt_append (pv 3) (pa_cons (pe_lc (own := [("column", 7)]) (g := gName 7) (tt := tYes) rfl nd (pi_range1 rfl T.range (pa_cons (pv 2) pa_nil)) (blkOk_by (N := nPg) (sc := defScope sPg) (by decide +kernel)) (fun _ _ _ _ _ => pg_name (i := 7) nd rfl (Or.inl rfl)) (fun _ _ _ _ _ => pts_nil)
              (fun _ _ _ _ _ => pe_ix ix_str pe_str (pe_callTy call_int1 (by rfl) T.int (by decide +kernel) (pa_cons (pe_cmpR op_lt (pe_call GN hr (by rfl) mN kN bN .nil pass0 (pa_cons (pv 0) (pa_cons pe_int pa_nil))) (pv 5) (nomark _)) pa_nil)) (fun _ _ => rfl))) pa_nil))))))))
          (pss_one (ps_for PassesOwn.never rfl (pi_range1 rfl T.range (pa_cons (pe_call GN hr (by rfl) mN kN bN .nil pass0 (pa_cons (pv 0) (pa_cons pe_int pa_nil))) pa_nil)) (pg_name (i := 6) nd rfl (.inl rfl))
            (pss_cons (ps_par (i := 8) (j := 9) (by rfl) nd rfl rfl (by decide) rfl rfl (pa_cons (pe_call GN hr (by rfl) mN kN bN .nil pass0 (pa_cons (pv 0) (pa_cons (pv 1) pa_nil))) (pa_cons (pe_call GN hr (by rfl) mN kN bN .nil pass0 (pa_cons (pv 0) (pa_cons (pv 2) pa_nil))) pa_nil)) (by rfl))
            (pss_cons (ps_par (i := 10) (j := 11) (by rfl) nd rfl rfl (by decide) rfl rfl (pa_cons (pe_op op_add pe_int (pe_call GN hr (by rfl) mN kN bN .nil pass0 (pa_cons (pv 0) (pa_cons pe_int pa_nil)))) (pa_cons (pe_op op_add pe_int (pe_call GN hr (by rfl) mN kN bN .nil pass0 (pa_cons (pv 0) (pa_cons pe_int pa_nil)))) pa_nil)) (by rfl))
            (pss_one (ps_for PassesOwn.never rfl (pi_range2 rfl T.range (pa_cons (pv 8) (pa_cons (pe_callB (call_min2 rfl) (by rfl) mi (by decide +kernel) (pa_cons (pv 1) (pa_cons (pe_op op_add (pv 8) (pv 10)) pa_nil))) pa_nil))) (pg_name (i := 12) nd rfl (.inl rfl))
              (pss_one (ps_for PassesOwn.never rfl (pi_range2 rfl T.range (pa_cons (pv 9) (pa_cons (pe_callB (call_min2 rfl) (by rfl) mi (by decide +kernel) (pa_cons (pv 2) (pa_cons (pe_op op_add (pv 9) (pv 11)) pa_nil))) pa_nil))) (pg_name (i := 7) nd rfl (.inl rfl))
                (pss_one (ps_asg pe_str (pg_sub (pe_ix ix_list (pv 3) (pv 12) (fun _ _ => rfl)) (pv 7) set_list))))))))))))
      (pss_one (ps_ret (pe_call GT hr (by rfl) mT kT bT .nil pass0 (pa_cons (pv 3) pa_nil)))))), ?_⟩
    have fu : n + 20000 ≤ 1000000000000 := hn
    refine ⟨fun σ' H' => ∃ deep wide : Nat, σ' = [some (.ref d), some (.int deep), some (.int wide), none, none, none, none, none, none, none, none, none, none] ∧ 1 ≤ deep ∧ deep ≤ 30 ∧ 1 ≤ wide ∧ wide ≤ 50 ∧ Du H' d (n + 4) ∧ Do d H H', ?_, ?_⟩
    · refine ⟨.ref d, rfl, .ref d, rfl, by show 3 ≤ sizeLine; decide, fun l1 hl1 => ⟨d, .ref l1, n, rfl, D.same (same_upd hl1), (by show _ ≤ 1000000000000; omega), .inl ⟨l1, _, rfl, D.new hl1, upd_same, by decide, by decide, fun j x H1 hx D1 dn1 => ?_⟩⟩⟩
      obtain ⟨g1, rfl, hg1⟩ := pick3 (a := 4) (b := 16) (c := 30) hx
      have dA := (Do.same (d := d) (same_upd (o := .lst [V.int 4, V.int 16, V.int 30]) hl1)).trans dn1
      refine ⟨d, g1, n + 1, rfl, D1, (by show _ ≤ 1000000000000; omega), by omega, by omega, fun m1 H2 a0 a1 D2 dn2 => ⟨1, m1, rfl, rfl, ?_⟩⟩
      obtain ⟨m1, rfl⟩ := Int.eq_ofNat_of_zero_le a0
      refine ⟨.ref d, rfl, .ref d, rfl, by show 3 ≤ sizeLine; decide, fun l2 hl2 => ⟨d, .ref l2, n + 2, rfl, D2.same (same_upd hl2), (by show _ ≤ 1000000000000; omega), .inl ⟨l2, _, rfl, D2.new hl2, upd_same, by decide, by decide, fun j2 x2 H3 hx2 D3 dn3 => ?_⟩⟩⟩
      obtain ⟨g2, rfl, hg2⟩ := pick3 (a := 4) (b := 24) (c := 50) hx2
      have dB := (Do.same (d := d) (same_upd (o := .lst [V.int 4, V.int 24, V.int 50]) hl2)).trans dn3
      refine ⟨d, g2, n + 3, rfl, D3, (by show _ ≤ 1000000000000; omega), by omega, by omega, fun m2 H4 b0 b1 D4 dn4 => ⟨1, m2, rfl, rfl, ?_⟩⟩
      obtain ⟨m2, rfl⟩ := Int.eq_ofNat_of_zero_le b0
      have e1 : (1 + (m1 : Int)) = ((1 + m1 : Nat) : Int) := by omega
      have e2 : (1 + (m2 : Int)) = ((1 + m2 : Nat) : Int) := by omega
      refine ⟨_, _, rfl, 1 + m1, 1 + m2, ?_, by omega, by omega, by omega, by omega, D4, (dA.trans dn2).trans (dB.trans dn4)⟩
      rw [← e1, ← e2]
      rfl
    rintro _ H1 ⟨deep, wide, rfl, d0, d1, w0, w1, D1, dn1⟩
    refine ⟨fun σ' H' => ∃ (g : Addr) (as : List Addr) (way : Int) (ls : List (List Nat)), σ' = [some (.ref d), some (.int deep), some (.int wide), some (.ref g), some (.int way), none, none, none, none, none, none, none, none] ∧ GridD d H H' g as ls ∧ RowsR deep wide ls ∧ Du H' d (n + 5), ?_, ?_⟩
    · refine ⟨.int deep, rfl, .int wide, rfl, deep, wide, rfl, d0, by omega, w0, by omega, fun g as H2 s2 ng nas G2 => ?_⟩
      have D2 := D1.same s2
      have nn : ∀ p, H1 p = none → H p = none := fun p hp => dn1.nn D1 hp
      have GD : GridD d H H2 g as (List.replicate deep (List.replicate wide 46)) := ⟨G2, dn1.trans (Do.same s2), nn g ng, fun a ha => nn a (nas a ha), D1.new ng, fun a ha => D1.new (nas a ha)⟩
      exact ⟨.ref d, rfl, d, 4, n + 4, rfl, D2, (by show _ ≤ 1000000000000; omega), by decide, by decide, fun way H3 _ _ D3 dn3 => ⟨_, _, rfl, g, as, way, _, rfl, GD.dn dn3, rows_white deep wide, D3⟩⟩
    rintro _ H2 ⟨g, as, way, ls, rfl, G2, R2, D2⟩
    refine ⟨fun σ' H' => ∃ (g : Addr) (as : List Addr) (ls : List (List Nat)) (y5 y6 y7 y8 y9 y10 y11 y12 : Option V), σ' = [some (.ref d), some (.int deep), some (.int wide), some (.ref g), some (.int way), y5, y6, y7, y8, y9, y10, y11, y12] ∧ GridD d H H' g as ls ∧ RowsR deep wide ls ∧ Du H' d (n + 19000), ?_, ?_⟩
    · refine ⟨.int way, rfl, rfl, _, rfl, ?_⟩
      cases decide (V.int way = V.int 0) with
      | true =>
        refine iteT ⟨.ref d, rfl, d, 30, n + 5, rfl, D2, (by show _ ≤ 1000000000000; omega), by decide, by decide, fun dn0 H3 _ _ D3 dn3 => ⟨1, dn0, rfl, rfl, by show 0 ≤ sizeLine; decide, fun p hp => ?_⟩⟩
        have G3 := G2.dn dn3
        have sp := same_upd (o := .lst []) hp
        have np : H p = none := G3.sm.nn D3 hp
        have GE : GridD d H (upd H3 p (.lst [])) p [] [] := ⟨⟨upd_same, rfl, (fun i a l h => nomatch h), List.nodup_nil, (fun h => nomatch h)⟩, G3.sm.trans (Do.same sp), np, (fun a h => nomatch h), D3.new hp, (fun a h => nomatch h)⟩
        refine ⟨.int deep, rfl, deep, rfl, by omega, by omega, for_range (lo := 0) (n := deep) (fun i σ H4 => ∃ (y6 : Option V) (as : List Addr) (ls : List (List Nat)), σ = [some (.ref d), some (.int deep), some (.int wide), some (.ref p), some (.int way), some (.int (1 + dn0)), y6, none, none, none, none, none, none] ∧ GridD d H H4 p as ls ∧ RowsR i wide ls ∧ Du H4 d (n + 6 + 200 * i)) ⟨none, [], [], rfl, GE, ⟨rfl, fun l h => nomatch h⟩, D3.same sp⟩ ?_ ?_⟩
        · rintro i σ H4 hi ⟨y6, as4, ls4, rfl, G4, R4, D4⟩
          refine ⟨.ref p, rfl, .inl ⟨rfl, _, SqL.of G4.gr.top⟩, .int wide, rfl, wide, rfl, by omega, by omega, fun Dd hDd => lc_range (lo := 0) (n := wide) (fun j H5 => ∃ cs : List Nat, cs.length = j ∧ (∀ c ∈ cs, c = 35 ∨ c = 46) ∧ H5 Dd = some (.lst (cs.map ch)) ∧ GridD d H H5 p as4 ls4 ∧ Du H5 d (n + 6 + 200 * i + j) ∧ Do d H4 H5) ?_ ?_ ?_⟩
          · have sD := same_upd (o := .lst []) hDd
            exact ⟨[], rfl, (fun _ h => nomatch h), upd_same, G4.dn (Do.same sD), D4.same sD, Do.same sD⟩
          · rintro j H5 hj ⟨cs, hcl, hcs, h5D, G5, D5, dn5⟩
            have nDd := D4.new hDd
            refine ⟨rfl, .ref d, rfl, d, 60, _, rfl, D5, (by show _ ≤ 1000000000000; omega), by decide, by decide, fun m H6 m0 m1 D6 dn6 => ⟨.int (1 + dn0), rfl, m, 1 + dn0, rfl, rfl, .inr ⟨_, rfl, ?_⟩⟩⟩
            obtain ⟨c, hc, hat⟩ := dot_hash (decide (m < 1 + dn0))
            refine ⟨".#", _, c, rfl, rfl, by decide +kernel, hat, ?_⟩
            have h6D := dn6 _ _ h5D nDd
            have G6 := G5.dn dn6
            have off := G4.gr.none hDd
            refine ⟨_, h6D, ?_, cs ++ [c], ?_, ?_, ?_, ?_, ?_, ?_⟩
            · rw [List.length_map]
              exact small1000 (by omega)
            · rw [List.length_append, hcl]
              rfl
            · intro y hy
              rcases List.mem_append.mp hy with z | z
              · exact hcs y z
              · rw [List.mem_singleton.mp z]
                exact hc
            · rw [upd_same, List.map_append]
              rfl
            · exact G6.same' off.1 off.2 (G4.sm.nn D4 hDd)
            · exact D6.upd nDd
            · exact (dn5.trans dn6).upd hDd
          · rintro H5 ⟨cs, hcl, hcs, h5D, G5, D5, dn5⟩
            have off := G4.gr.none hDd
            refine ⟨p, _, .ref Dd, rfl, rfl, G5.gr.top, ?_, ?_⟩
            · rw [List.length_map, G5.gr.len, R4.len]
              exact small1000 (by omega)
            · have nD : H Dd = none := G4.sm.nn D4 hDd
              exact ⟨_, as4 ++ [Dd], ls4 ++ [cs], rfl, G5.push h5D nD off.1.symm (D4.new hDd) off.2, R4.snoc ⟨hcl, hcs⟩, (D5.upd G5.gd).le (by omega)⟩
        · rintro σ H4 ⟨y6, as4, ls4, rfl, G4, R4, D4⟩
          exact ⟨p, as4, ls4, _, _, _, _, _, _, _, _, rfl, G4, R4, D4.le (by omega)⟩
      | false =>
        refine iteF ⟨.ref d, rfl, d, 12, n + 5, rfl, D2, (by show _ ≤ 1000000000000; omega), by decide, by decide, fun t H3 t0 t1 D3 dn3 => ⟨t, rfl, by omega, by omega, ?_⟩⟩
        refine for_range (lo := 0) (n := t.toNat) (fun i σ H4 => ∃ (y6 y7 y8 y9 y10 y11 y12 : Option V) (ls : List (List Nat)), σ = [some (.ref d), some (.int deep), some (.int wide), some (.ref g), some (.int way), none, y6, y7, y8, y9, y10, y11, y12] ∧ GridD d H H4 g as ls ∧ RowsR deep wide ls ∧ Du H4 d (n + 6 + 4 * i)) ⟨none, none, none, none, none, none, none, ls, rfl, G2.dn dn3, R2, D3⟩ ?_ ?_
        · rintro i σ H4 hi ⟨y6, y7, y8, y9, y10, y11, y12, ls4, rfl, G4, R4, D4⟩
          generalize (V.int (0 + (i : Int))) = tv
          refine ⟨.ref d, rfl, .int deep, rfl, d, deep, _, rfl, D4, (by show _ ≤ 1000000000000; omega), by omega, by omega, fun top H5 tp0 tp1 D5 dn5 => ⟨.ref d, rfl, .int wide, rfl, d, wide, _, rfl, D5, (by show _ ≤ 1000000000000; omega), by omega, by omega, fun left H6 l0 l1 D6 dn6 => ⟨_, _, rfl, ?_⟩⟩⟩
          refine ⟨.ref d, rfl, d, 5, _, rfl, D6, (by show _ ≤ 1000000000000; omega), by decide, by decide, fun dw H7 dw0 dw1 D7 dn7 => ⟨1, dw, rfl, rfl, .ref d, rfl, d, 9, _, rfl, D7, (by show _ ≤ 1000000000000; omega), by decide, by decide, fun ac H8 ac0 ac1 D8 dn8 => ⟨1, ac, rfl, rfl, _, _, rfl, ?_⟩⟩⟩
          have G8 := (((G4.dn dn5).dn dn6).dn dn7).dn dn8
          refine ⟨.int top, rfl, .int deep, rfl, .int top, rfl, .int (1 + dw), rfl, top, 1 + dw, rfl, rfl, deep, top + (1 + dw), rfl, top, _, rfl, ⟨by omega, by omega, by split <;> omega, by split <;> omega⟩, ?_⟩
          have hj : ∀ r : Nat, r < ((if top + (1 + dw) < (deep : Int) then top + (1 + dw) else (deep : Int)) - top).toNat → top + (r : Int) < deep := by
            intro r hr
            split at hr <;> omega
          refine for_range (lo := top) (fun r σ H9 => ∃ (y7 y12 : Option V) (ls : List (List Nat)), σ = [some (.ref d), some (.int deep), some (.int wide), some (.ref g), some (.int way), none, some tv, y7, some (.int top), some (.int left), some (.int (1 + dw)), some (.int (1 + ac)), y12] ∧ GridD d H H9 g as ls ∧ RowsR deep wide ls ∧ Du H9 d (n + 6 + 4 * i + 4)) ⟨y7, y12, ls4, rfl, G8, R4, D8.le (by omega)⟩ ?_ ?_
          · rintro r σ H9 hr ⟨y7, y12, ls9, rfl, G9, R9, D9⟩
            have hr2 := hj r hr
            refine ⟨.int left, rfl, .int wide, rfl, .int left, rfl, .int (1 + ac), rfl, left, 1 + ac, rfl, rfl, wide, left + (1 + ac), rfl, left, _, rfl, ⟨by omega, by omega, by split <;> omega, by split <;> omega⟩, ?_⟩
            have hk : ∀ c : Nat, c < ((if left + (1 + ac) < (wide : Int) then left + (1 + ac) else (wide : Int)) - left).toNat → left + (c : Int) < wide := by
              intro c hc
              split at hc <;> omega
            refine for_range (lo := left) (fun c σ H10 => ∃ (y7 : Option V) (ls : List (List Nat)), σ = [some (.ref d), some (.int deep), some (.int wide), some (.ref g), some (.int way), none, some tv, y7, some (.int top), some (.int left), some (.int (1 + dw)), some (.int (1 + ac)), some (.int (top + r))] ∧ GridD d H H10 g as ls ∧ RowsR deep wide ls ∧ Du H10 d (n + 6 + 4 * i + 4)) ⟨y7, ls9, rfl, G9, R9, D9⟩ ?_ ?_
            · rintro c σ H10 hc ⟨y7, ls10, rfl, G10, R10, D10⟩
              have hc2 := hk c hc
              obtain ⟨rn, er⟩ := Int.eq_ofNat_of_zero_le (show 0 ≤ top + (r : Int) by omega)
              obtain ⟨cn, ec⟩ := Int.eq_ofNat_of_zero_le (show 0 ≤ left + (c : Int) by omega)
              rw [er] at hr2 ⊢
              rw [ec] at hc2 ⊢
              have lh : as.length = deep := by rw [G10.gr.len, R10.len]
              have hr1 : rn < ls10.length := by rw [R10.len]; omega
              have e1 : ls10[rn]? = some ls10[rn] := List.getElem?_eq_getElem hr1
              generalize ls10[rn] = l at e1
              have rl := R10.row l (List.mem_of_getElem? e1)
              have hc1 : cn < l.length := by rw [rl.len]; omega
              have ha1 : rn < as.length := by omega
              have e3 : as[rn]? = some as[rn] := List.getElem?_eq_getElem ha1
              generalize as[rn] = b at e3
              have hb := G10.gr.row _ b l e3 e1
              have i1 : atI (as.map V.ref) (rn : Int) = some (.ref b) := atI_nat (by rw [List.getElem?_map, e3]; rfl)
              refine ⟨.ref g, rfl, .int rn, rfl, g, _, rn, .ref b, rfl, rfl, SqL.of G10.gr.top, i1, .int cn, rfl, b, _, cn, cn, rfl, rfl, hb, ixN_at (by rw [List.length_map]; exact hc1), _, ls10.set rn (l.set cn 35), rfl, ?_, R10.put e1 (.inl rfl), D10.upd (G10.ad b (List.mem_of_getElem? e3))⟩
              have z := G10.put (c := cn) (x := 35) e3 e1
              have e35 : ch 35 = V.str "#" := by rw [s_hash]; rfl
              rw [e35] at z
              exact z
            · rintro σ H10 ⟨y7, ls10, rfl, G10, R10, D10⟩
              exact ⟨_, _, ls10, rfl, G10, R10, D10⟩
          · rintro σ H9 ⟨y7, y12, ls9, rfl, G9, R9, D9⟩
            exact ⟨_, _, _, _, _, _, _, ls9, rfl, G9, R9, D9.le (by omega)⟩
        · rintro σ H4 ⟨y6, y7, y8, y9, y10, y11, y12, ls4, rfl, G4, R4, D4⟩
          exact ⟨g, as, ls4, _, _, _, _, _, _, _, _, rfl, G4, R4, D4.le (by omega)⟩
    rintro _ H3 ⟨g3, as3, ls3, y5, y6, y7, y8, y9, y10, y11, y12, rfl, G3, R3, D3⟩
    refine ⟨.ref g3, rfl, g3, as3, deep, wide, ls3, rfl, G3.gr, R3, by omega, by omega, fun p H4 s4 np hp => ?_⟩
    exact q p deep wide ls3 H4 ⟨R3.len, R3.row, d0, by omega, w0, by omega⟩ d1 w1 (G3.sm.nn D3 np) hp ((D3.same s4).le (by omega)) (G3.sm.trans (Do.same s4))
end
end Dt
/-! zip over any number of iterators: one turn -/
namespace L2X
open PySem PySem.Spec PyProof.Rows L2
abbrev tupO (xs : List Value) : Obj := { cls := .type "tuple", data := .seq xs.toArray }
section
variable {x0 b0 : Value} {prog : Program} {w : World} {A : Around} {E : Value → Shared → Prop} {s : Shared} {z TI TO : Addr} {m i : Nat} {it : Nat → Addr} {fp : Nat → List Addr} {n : Nat → Nat} {Pv : Nat → Nat → Value → Prop} {St : Nat → Nat → Heap → Prop}
abbrev IsZ5 (h : Heap) (z TI TO : Addr) (x b : Value) : Prop := h.get? z = some { cls := .type "zip", dict := none, data := .fields #[x, b, .bool false, .ref TI, .ref TO], slots := #[] }
/-- the tuple given out before is free -/
def FreeT (prog : Program) (w : World) (A : Around) (z : Addr) (s : Shared) : Prop := ∀ (E : Value → Shared → Prop) (Q : Bool → Shared → Prop), Q true s → wpAny (model prog w) A (Builtin.SmallTypes.ownedTupleIsFree (.ref z)) Q E s
theorem free_none {b : Value} (hz : IsZ5 s.heap z TI TO .none b) : FreeT prog w A z s := fun E Q h => by
  unfold Builtin.SmallTypes.ownedTupleIsFree
  exact wpAny_bind (wpAny_field hz rfl (x := .none) rfl (wpAny_pure h))
theorem not_alive {a : Addr} {Q : Option Obj → Shared → Prop} (ho : s.heap.get? a = none) (h : Q none s) : wpAny (model prog w) A (loadIfAlive a) Q E s := by
  have h' : Q (s.heap.get? a) s := by rw [ho]; exact h
  exact fun _ _ _ => h'
theorem free_gone {T : Addr} {b : Value} (hz : IsZ5 s.heap z TI TO (rawInt T) b) (hT : s.heap.get? T = none) : FreeT prog w A z s := fun E Q h => by
  unfold Builtin.SmallTypes.ownedTupleIsFree
  refine wpAny_bind (wpAny_field hz rfl (x := rawInt T) rfl ?_)
  show wpAny _ _ (loadIfAlive ((T : Int).toNat) >>= _) _ _ _
  rw [Int.toNat_natCast]
  refine wpAny_bind (not_alive hT ?_)
  simp only [Option.isNone_none, if_true]
  exact wpAny_pure h
def itRefs (m : Nat) (it : Nat → Addr) : List Value := (List.range m).map fun k => Value.ref (it k)
structure SepN (m : Nat) (it : Nat → Addr) (fp : Nat → List Addr) (z TI TO : Addr) : Prop where
  TIz : TI ≠ z
  TOz : TO ≠ z
  TITO : TI ≠ TO
  TIi : ∀ k, k < m → TI ≠ it k
  mem : ∀ k, k < m → it k ∈ fp k
  zf : ∀ k, k < m → z ∉ fp k
  Tf : ∀ k, k < m → TO ∉ fp k
  sep : ∀ j k, j < m → k < m → j ≠ k → it j ∉ fp k
theorem SepN.zi (S : SepN m it fp z TI TO) {k : Nat} (h : k < m) : z ≠ it k := fun e => S.zf k h (by rw [e]; exact S.mem k h)
theorem SepN.Ti (S : SepN m it fp z TI TO) {k : Nat} (h : k < m) : TO ≠ it k := fun e => S.Tf k h (by rw [e]; exact S.mem k h)
/-- k of them have been drawn -/
structure Zst (b0 : Value) (m : Nat) (it : Nat → Addr) (Pv : Nat → Nat → Value → Prop) (St : Nat → Nat → Heap → Prop) (z TI TO : Addr) (i k : Nat) (xs : List Value) (h0 h : Heap) : Prop where
  zz : IsZ5 h z TI TO .ellipsis b0
  tt : h.get? TO = some (tupO xs)
  ln : xs.length = m
  lo : ∀ j v, j < k → xs[j]? = some v → Pv j i v
  s1 : ∀ j, j < k → j < m → St j (i + 1) h
  s2 : ∀ j, k ≤ j → j < m → St j i h
  sz : h.objs.size = h0.objs.size
  kp : ∀ c o, c ≠ z → c ≠ TO → (∀ j, j < m → c ≠ it j) → h0.get? c = some o → h.get? c = some o
theorem zipIdx_refs (m : Nat) (it : Nat → Addr) : (itRefs m it).toArray.toList.zipIdx = (List.range m).map fun k => (Value.ref (it k), k) := by
  apply List.ext_getElem
  · simp [itRefs]
  · intro k h1 h2
    simp [itRefs]
theorem zipN_next_item {xs0 : List Value} {Q : Value → Shared → Prop} (hm : 0 < m) (hm2 : m ≤ 1000) (S : SepN m it fp z TI TO) (D : ∀ k, k < m → Draws prog w A (it k) (fp k) (n k) (Pv k) (St k))
    (hz : IsZ5 s.heap z TI TO x0 b0) (hfr : FreeT prog w A z s) (hTI : s.heap.get? TI = some (tupO (itRefs m it))) (hTO : s.heap.get? TO = some (tupO xs0)) (hl : xs0.length = m) (st : ∀ k, k < m → St k i s.heap) (hlt : ∀ k, k < m → i < n k)
    (hQ : ∀ (xs : List Value) h' tk, xs.length = m → (∀ j v, xs[j]? = some v → Pv j i v) → IsZip h' z TI TO (rawInt s.heap.objs.size) → h'.get? TO = some (tupO xs) → (∀ k, k < m → St k (i + 1) h') → h'.get? s.heap.objs.size = some (tupO xs) → h'.objs.size = s.heap.objs.size + 1 →
      (∀ c o, c ≠ z → c ≠ TO → (∀ j, j < m → c ≠ it j) → s.heap.get? c = some o → h'.get? c = some o) → Q (.ref s.heap.objs.size) { s with heap := h', toks := tk }) :
    wpAny (model prog w) A (Builtin.«zip.__next__» ⟨[.ref z], []⟩) (fun fin s' => ∃ v, fin = .done (.ret v) ∧ Q v s') E s := by
  obtain ⟨hp, g, d, tk0, os⟩ := s
  have ne : (itRefs m it).toArray.isEmpty = false := by
    simp [itRefs]
    omega
  show wpAny _ _ (field (.ref z) 2 >>= _) _ _ _
  refine wpAny_bind (wpAny_field hz rfl (x := .bool false) rfl ?_)
  show wpAny _ _ (field (.ref z) 3 >>= _) _ _ _
  refine wpAny_bind (wpAny_field hz rfl (x := .ref TI) rfl ?_)
  refine wpAny_bind (wpAny_seqItems hTI rfl ?_)
  simp only [ne, Bool.false_eq_true, if_false]
  refine wpAny_bind ?_
  refine hfr _ _ ?_
  simp only [if_true]
  refine wpAny_bind (wpAny_rule ?_)
  refine wpAny_bind (wpAny_field hz rfl (x := .ref TO) rfl ?_)
  refine wpAny_bind (wpAny_setField_rec hz (by simp) fun g0 hz0 hs0 => ?_)
  refine wpAny_bind ?_
  rw [zipIdx_refs]
  refine wpAny_forIn_list _ (fun rest b s' => b.1 = none ∧ ∃ (k : Nat) (xs : List Value) (h' : Heap) (tk : Nat), s' = ⟨h', g, d, tk, os⟩ ∧ k ≤ m ∧ rest = ((List.range m).map fun k => (Value.ref (it k), k)).drop k ∧ Zst b0 m it Pv St z TI TO i k xs hp h') _ ?_ ?_ _ _ ⟨rfl, 0, xs0, g0, tk0, rfl, Nat.zero_le _, rfl, ?_⟩
  · rintro ⟨v, j⟩ rest ⟨b1, b2⟩ s' ⟨hb, k, xs, h', tk, rfl, hk, hr, Z⟩
    have hb' : b1 = none := hb
    subst hb'
    have hkm : k < m := by
      rcases Nat.lt_or_ge k m with q | q
      · exact q
      · rw [List.drop_eq_nil_of_le (by simp; exact q)] at hr
        cases hr
    have hd : ((List.range m).map fun k => (Value.ref (it k), k)).drop k = (Value.ref (it k), k) :: ((List.range m).map fun k => (Value.ref (it k), k)).drop (k + 1) := by
      rw [List.drop_eq_getElem_cons (by simp; exact hkm)]
      simp
    rw [hd] at hr
    have e1 := (List.cons.inj hr).1
    have e2 := (List.cons.inj hr).2
    have ev : v = Value.ref (it k) := congrArg Prod.fst e1
    have ej : j = k := congrArg Prod.snd e1
    subst ev
    subst ej
    refine wpAny_bind (wpAny_onRaise ?_)
    show wpAny _ _ (Builtin.SmallTypes.nextOf (.ref (it j)) >>= _) _ _ ⟨h', g, d, tk, os⟩
    refine wpAny_bind ((D j hkm).item i _ _ _ (hlt j hkm) (Z.s2 j (Nat.le_refl _) hkm) fun x p tk' hx sn hp' => wpAny_pure ?_)
    replace hp' : Heap.SameBut (it j) h' p := hp'
    have hU : p.get? TO = some (tupO xs) := hp'.extBut _ _ (S.Ti hkm) Z.tt
    refine wpAny_bind (wpAny_seqItems (s := ⟨p, g, d, tk', os⟩) hU rfl ?_)
    have zl : xs.length ≤ sizeLine := by
      rw [Z.ln]
      exact Nat.le_of_lt (small1000 hm2)
    have z1 : xs.toArray.size ≤ sizeLine := by
      rw [List.size_toArray]
      exact zl
    have z2 : (xs.toArray.setIfInBounds j x).size ≤ sizeLine + 1 := by
      rw [Array.size_setIfInBounds]
      omega
    refine wpAny_bind (wpAny_updateSeq (s := ⟨p, g, d, tk', os⟩) hU rfl ?_ z1 z2)
    have hs1 : Heap.SameBut TO p (p.update TO (Obj.mapSeq (·.setIfInBounds j x))) := Heap.SameBut.update ..
    have hT1 : (p.update TO (Obj.mapSeq (·.setIfInBounds j x))).get? TO = some (tupO (xs.set j x)) := by
      rw [Heap.get?_update_self _ hU rfl]
      simp [Obj.mapSeq]
    generalize p.update TO (Obj.mapSeq (·.setIfInBounds j x)) = g1 at hs1 hT1
    refine wpAny_bind (wpAny_letGo (wpAny_pure ?_))
    refine ⟨rfl, j + 1, xs.set j x, g1, tk', rfl, hkm, e2, ?_⟩
    have keep : ∀ c o, c ≠ TO → c ≠ it j → h'.get? c = some o → g1.get? c = some o := fun c o c1 c2 e => hs1.extBut _ _ c1 (hp'.extBut _ _ c2 e)
    refine ⟨?_, hT1, ?_, fun q v hq hv => ?_, fun q hq hqm => ?_, fun q hq hqm => ?_, ?_, fun c o c1 c2 c3 e => ?_⟩
    · exact keep _ _ S.TOz.symm (S.zi hkm) Z.zz
    · rw [List.length_set, Z.ln]
    · by_cases eq : q = j
      · subst eq
        rw [List.getElem?_set_self (by rw [Z.ln]; exact hkm)] at hv
        cases hv
        exact hx
      · rw [List.getElem?_set_ne (Ne.symm eq)] at hv
        exact Z.lo q v (by omega) hv
    · by_cases eq : q = j
      · subst eq
        exact (D q hqm).frame _ _ _ sn fun b hb o e => hs1.extBut _ _ (fun z => S.Tf q hqm (z ▸ hb)) e
      · exact (D q hqm).frame _ _ _ (Z.s1 q (by omega) hqm) fun b hb o e => keep b o (fun z => S.Tf q hqm (z ▸ hb)) (fun z => S.sep j q hkm hqm (fun y => eq y.symm) (z ▸ hb)) e
    · exact (D q hqm).frame _ _ _ (Z.s2 q (by omega) hqm) fun b hb o e => keep b o (fun z => S.Tf q hqm (z ▸ hb)) (fun z => S.sep j q hkm hqm (by omega) (z ▸ hb)) e
    · rw [hs1.1, hp'.1, Z.sz]
    · exact keep c o c2 (c3 j hkm) (Z.kp c o c1 c2 c3 e)
  · rintro ⟨b1, b2⟩ s' ⟨hb, k, xs, h', tk, rfl, hk, hr, Z⟩
    have hb' : b1 = none := hb
    subst hb'
    have hkm : k = m := by
      rcases Nat.lt_or_ge k m with q | q
      · rw [List.drop_eq_getElem_cons (by simp; exact q)] at hr
        cases hr
      · omega
    subst hkm
    have zl : xs.length ≤ sizeLine := by
      rw [Z.ln]
      exact Nat.le_of_lt (small1000 hm2)
    refine wpAny_bind (wpAny_seqItems (s := ⟨h', g, d, tk, os⟩) Z.tt rfl ?_)
    refine wpAny_bind (wpAny_newTuple ?_ (by simpa using zl))
    have hzlt : z < h'.objs.size := Heap.lt_size Z.zz
    show wpAny _ _ (Builtin.SmallTypes.ownedTupleHandOut (.ref z) (.ref h'.objs.size) >>= _) _ _ ⟨h'.push (tupO xs), g, d, tk, os⟩
    refine wpAny_bind ?_
    unfold Builtin.SmallTypes.ownedTupleHandOut
    have hz6 : IsZ5 (h'.push (tupO xs)) z TI TO .ellipsis b0 := Heap.get?_push_of_some _ Z.zz
    refine wpAny_bind (wpAny_setField_rec hz6 (by simp) fun h7 hz7 hs7 => ?_)
    replace hz7 : IsZ5 h7 z TI TO (rawInt h'.objs.size) b0 := hz7
    refine wpAny_setField_rec hz7 (by simp) fun h8 hz8 hs8 => ?_
    replace hz8 : IsZip h8 z TI TO (rawInt h'.objs.size) := hz8
    replace hs7 : Heap.SameBut z (h'.push (tupO xs)) h7 := hs7
    replace hs8 : Heap.SameBut z h7 h8 := hs8
    have up : ∀ c o, c ≠ z → h'.get? c = some o → h8.get? c = some o := fun c o c1 e => hs8.extBut _ _ c1 (hs7.extBut _ _ c1 (Heap.get?_push_of_some _ e))
    have hT8 : h8.get? h'.objs.size = some (tupO xs) := hs8.extBut _ _ (Nat.ne_of_gt hzlt) (hs7.extBut _ _ (Nat.ne_of_gt hzlt) (Heap.get?_push_size _ rfl))
    have hz8s : h8.objs.size = h'.objs.size + 1 := by rw [hs8.1, hs7.1, Heap.size_push]
    rw [Z.sz] at hz8 hT8 hz8s
    refine wpAny_pure ⟨_, rfl, ?_⟩
    show Q (.ref h'.objs.size) ⟨h8, g, d, tk, os⟩
    rw [Z.sz]
    exact hQ xs h8 tk Z.ln (fun j v hv => Z.lo j v (by rw [← Z.ln]; exact (List.getElem?_eq_some_iff.mp hv).1) hv) hz8 (up _ _ S.TOz Z.tt) (fun q hq => (D q hq).frame _ _ _ (Z.s1 q hq hq) fun b hb o e => up b o (fun y => S.zf q hq (y ▸ hb)) e) hT8 hz8s fun c o c1 c2 c3 e => up c o c1 (Z.kp c o c1 c2 c3 e)
  · refine ⟨hz0, hs0.extBut _ _ S.TOz hTO, hl, fun j v h => absurd h (Nat.not_lt_zero _), fun j h => absurd h (Nat.not_lt_zero _), fun j _ hj => (D j hj).over (st j hj) hs0 (S.zf j hj), hs0.1, fun c o c1 c2 c3 e => hs0.extBut _ _ c1 e⟩
/-- the first of them is at its end -/
theorem zipN_next_end {xs0 : List Value} {Q : PySem.Fin → Shared → Prop} (hm : 0 < m) (S : SepN m it fp z TI TO) (D : ∀ k, k < m → Draws prog w A (it k) (fp k) (n k) (Pv k) (St k))
    (hz : IsZ5 s.heap z TI TO x0 b0) (hfr : FreeT prog w A z s) (hTI : s.heap.get? TI = some (tupO (itRefs m it))) (hTO : s.heap.get? TO = some (tupO xs0)) (st : ∀ k, k < m → St k i s.heap) (hend : i = n 0)
    (hE : ∀ h' tk e, (∀ c o, c ≠ z → c ≠ TO → (∀ j, j < m → c ≠ it j) → s.heap.get? c = some o → h'.get? c = some o) → (∃ o, h'.get? e = some o ∧ o.cls = .type "StopIteration") → E (.ref e) { s with heap := h', toks := tk }) :
    wpAny (model prog w) A (Builtin.«zip.__next__» ⟨[.ref z], []⟩) Q E s := by
  obtain ⟨hp, g, d, tk0, os⟩ := s
  have ne : (itRefs m it).toArray.isEmpty = false := by
    simp [itRefs]
    omega
  show wpAny _ _ (field (.ref z) 2 >>= _) _ _ _
  refine wpAny_bind (wpAny_field hz rfl (x := .bool false) rfl ?_)
  show wpAny _ _ (field (.ref z) 3 >>= _) _ _ _
  refine wpAny_bind (wpAny_field hz rfl (x := .ref TI) rfl ?_)
  refine wpAny_bind (wpAny_seqItems hTI rfl ?_)
  simp only [ne, Bool.false_eq_true, if_false]
  refine wpAny_bind ?_
  refine hfr _ _ ?_
  simp only [if_true]
  refine wpAny_bind (wpAny_rule ?_)
  refine wpAny_bind (wpAny_field hz rfl (x := .ref TO) rfl ?_)
  refine wpAny_bind (wpAny_setField_rec hz (by simp) fun g0 hz0 hs0 => ?_)
  replace hz0 : IsZ5 g0 z TI TO .ellipsis b0 := hz0
  replace hs0 : Heap.SameBut z hp g0 := hs0
  refine wpAny_bind ?_
  rw [zipIdx_refs]
  have hd : (List.range m).map (fun k => (Value.ref (it k), k)) = (Value.ref (it 0), 0) :: ((List.range m).map fun k => (Value.ref (it k), k)).drop 1 := by
    have := List.drop_eq_getElem_cons (l := (List.range m).map fun k => (Value.ref (it k), k)) (i := 0) (by simp; exact hm)
    rw [List.drop_zero] at this
    rw [this]
    simp
  rw [hd, List.forIn_cons]
  refine wpAny_bind (wpAny_bind (wpAny_onRaise ?_))
  show wpAny _ _ (Builtin.SmallTypes.nextOf (.ref (it 0)) >>= _) _ _ ⟨g0, g, d, tk0, os⟩
  refine wpAny_bind ((D 0 hm).done ⟨g0, g, d, tk0, os⟩ _ _ (by rw [← hend]; exact (D 0 hm).over (st 0 hm) hs0 (S.zf 0 hm)) fun q e hq he => ?_)
  replace hq : Heap.ExtBut (it 0) g0 q := hq
  obtain ⟨oe, hoe, hce⟩ := he
  replace hoe : q.get? e = some oe := hoe
  have hzq : IsZ5 q z TI TO .ellipsis b0 := hq _ _ (S.zi hm) hz0
  have hez : e ≠ z := fun x => by
    subst x
    rw [hzq] at hoe
    cases hoe
    simp at hce
  refine wpAny_setField_rec (s := ⟨q, g, d, tk0, os⟩) hzq (by simp) fun q' _ hq' => ?_
  replace hq' : Heap.SameBut z q q' := hq'
  exact hE q' tk0 e (fun c o cz cT c1 x => hq'.extBut _ _ cz (hq _ _ (c1 0 hm) (hs0.extBut _ _ cz x))) ⟨oe, hq'.extBut _ _ hez hoe, hce⟩
theorem pyNext_zipN_item {xs0 : List Value} {Q : Option Value → Shared → Prop} (hm : 0 < m) (hm2 : m ≤ 1000) (S : SepN m it fp z TI TO) (D : ∀ k, k < m → Draws prog w A.in1 (it k) (fp k) (n k) (Pv k) (St k))
    (hz : IsZ5 s.heap z TI TO x0 b0) (hfr : FreeT prog w A.in1 z s) (hTI : s.heap.get? TI = some (tupO (itRefs m it))) (hTO : s.heap.get? TO = some (tupO xs0)) (hl : xs0.length = m) (st : ∀ k, k < m → St k i s.heap) (hlt : ∀ k, k < m → i < n k)
    (hQ : ∀ (xs : List Value) h' tk, xs.length = m → (∀ j v, xs[j]? = some v → Pv j i v) → IsZip h' z TI TO (rawInt s.heap.objs.size) → h'.get? TO = some (tupO xs) → (∀ k, k < m → St k (i + 1) h') → h'.get? s.heap.objs.size = some (tupO xs) → h'.objs.size = s.heap.objs.size + 1 →
      (∀ c o, c ≠ z → c ≠ TO → (∀ j, j < m → c ≠ it j) → s.heap.get? c = some o → h'.get? c = some o) → Q (some (.ref s.heap.objs.size)) { s with heap := h', toks := tk }) :
    wpAny (model prog w) A (pyNext (.ref z)) Q E s := by
  have hT : s.TypeIs (.ref z) "zip" := ⟨_, hz, rfl⟩
  unfold pyNext
  exact wpAny_bind (wpAny_attempt (wpAny_callSpecial?_slot (name := Str.ofString "__next__") hT PySem.F.slot_zip_next
    (wpAny_call_entry PySem.F.slot_zip_next hT PySem.F.entry_zip_next
      (zipN_next_item hm hm2 S D hz hfr hTI hTO hl st hlt fun xs h' tk y1 y2 b1 b2 d1 b5 b6 b7 => wpAny_pure (hQ xs h' tk y1 y2 b1 b2 d1 b5 b6 b7)) (PySem.F.args_zip_next_1 _))))
theorem pyNext_zipN_end {xs0 : List Value} {Q : Option Value → Shared → Prop} (hm : 0 < m) (S : SepN m it fp z TI TO) (D : ∀ k, k < m → Draws prog w A.in1 (it k) (fp k) (n k) (Pv k) (St k))
    (hz : IsZ5 s.heap z TI TO x0 b0) (hfr : FreeT prog w A.in1 z s) (hTI : s.heap.get? TI = some (tupO (itRefs m it))) (hTO : s.heap.get? TO = some (tupO xs0)) (st : ∀ k, k < m → St k i s.heap) (hend : i = n 0)
    (hQ : ∀ h' tk, (∀ c o, c ≠ z → c ≠ TO → (∀ j, j < m → c ≠ it j) → s.heap.get? c = some o → h'.get? c = some o) → Q none { s with heap := h', toks := tk }) : wpAny (model prog w) A (pyNext (.ref z)) Q E s := by
  have hT : s.TypeIs (.ref z) "zip" := ⟨_, hz, rfl⟩
  unfold pyNext
  refine wpAny_bind (wpAny_attempt (wpAny_callSpecial?_slot (name := Str.ofString "__next__") hT PySem.F.slot_zip_next
    (wpAny_call_entry PySem.F.slot_zip_next hT PySem.F.entry_zip_next (zipN_next_end hm S D hz hfr hTI hTO st hend fun h' tk e hk he => ?_) (PySem.F.args_zip_next_1 _))))
  obtain ⟨o, ho, hc⟩ := he
  refine wpAny_bind (wpAny_isInstance (T := "StopIteration") (b := true) ⟨o, ho, hc⟩ isSubtype_stop ?_)
  exact wpAny_pure (hQ _ _ hk)
end
end L2X
/-! zip of any number of things: it begins -/
namespace L2X
open PySem PySem.Spec PyProof.Rows L2
def pushAll (h : Heap) (os : List Obj) : Heap := os.foldl (fun h o => h.push o) h
theorem pushAll_size : ∀ (os : List Obj) (h : Heap), (pushAll h os).objs.size = h.objs.size + os.length
  | [], h => rfl
  | o :: os, h => by
    have e : pushAll h (o :: os) = pushAll (h.push o) os := rfl
    rw [e, pushAll_size os, Heap.size_push, List.length_cons]
    omega
theorem pushAll_snoc (h : Heap) (os : List Obj) (o : Obj) : pushAll h (os ++ [o]) = (pushAll h os).push o := by
  unfold pushAll
  rw [List.foldl_append]
  rfl
theorem pushAll_keep : ∀ (os : List Obj) {h : Heap} {b : Addr} {o : Obj}, h.get? b = some o → (pushAll h os).get? b = some o
  | [], _, _, _, e => e
  | _ :: os, _, _, _, e => pushAll_keep os (Heap.get?_push_of_some _ e)
theorem pushAll_get : ∀ (os : List Obj) (h : Heap) (k : Nat) (o : Obj), os[k]? = some o → o.isFreed = false → (pushAll h os).get? (h.objs.size + k) = some o
  | [], _, _, _, e, _ => nomatch e
  | p :: os, h, 0, o, e, f => by
    cases e
    exact pushAll_keep os (Heap.get?_push_size _ f)
  | p :: os, h, k + 1, o, e, f => by
    have q := pushAll_get os (h.push p) k o e f
    rw [Heap.size_push] at q
    have e2 : h.objs.size + (k + 1) = h.objs.size + 1 + k := by omega
    rw [e2]
    exact q
def newRefs (N k : Nat) : List Value := (List.range k).map fun j => Value.ref (N + j)
section
variable {prog : Program} {w : World} {A : Around} {E : Value → Shared → Prop} {s : Shared}
theorem iterAll_begins {l : List (Value × Obj)} (B : ∀ p ∈ l, Begins p.1 p.2 fun _ => True) {Q : List Value → Shared → Prop} (h : Q (newRefs s.heap.objs.size l.length) { s with heap := pushAll s.heap (l.map (·.2)) }) :
    wpAny (model prog w) A (Builtin.SmallTypes.iterAll (l.map (·.1))) Q E s := by
  unfold Builtin.SmallTypes.iterAll
  refine wpAny_bind (wpAny_forIn_list _ (fun rest (b : Array Value) s' => ∃ k, k ≤ l.length ∧ rest = (l.map (·.1)).drop k ∧ b = (newRefs s.heap.objs.size k).toArray ∧ s' = { s with heap := pushAll s.heap ((l.map (·.2)).take k) }) _ ?_ ?_ _ _ ⟨0, Nat.zero_le _, rfl, rfl, rfl⟩)
  · rintro x rest b s' ⟨k, hk, hr, rfl, rfl⟩
    have hkl : k < l.length := by
      rcases Nat.lt_or_ge k l.length with q | q
      · exact q
      · rw [List.drop_eq_nil_of_le (by simpa using q)] at hr
        cases hr
    have hd : (l.map (·.1)).drop k = l[k].1 :: (l.map (·.1)).drop (k + 1) := by
      rw [List.drop_eq_getElem_cons (by simpa using hkl)]
      simp
    rw [hd] at hr
    have e1 := (List.cons.inj hr).1
    have e2 := (List.cons.inj hr).2
    subst e1
    refine wpAny_bind (wpAny_holding ?_)
    refine (B l[k] (List.getElem_mem hkl)).iter _ _ _ _ _ _ trivial ?_
    refine wpAny_pure ⟨k + 1, hkl, e2, ?_, ?_⟩
    · show (newRefs s.heap.objs.size k).toArray.push (.ref (pushAll s.heap ((l.map (·.2)).take k)).objs.size) = _
      rw [pushAll_size, List.length_take, List.length_map, Nat.min_eq_left hk]
      unfold newRefs
      rw [List.range_succ, List.map_append]
      simp
    · have ek : (l.map (·.2))[k]? = some l[k].2 := by simp [hkl]
      have : (l.map (·.2)).take (k + 1) = (l.map (·.2)).take k ++ [l[k].2] := by
        rw [List.take_add_one, ek]
        rfl
      rw [this, pushAll_snoc]
  · rintro b s' ⟨k, hk, hr, rfl, rfl⟩
    have hkl : k = l.length := by
      rcases Nat.lt_or_ge k l.length with q | q
      · rw [List.drop_eq_getElem_cons (by simpa using q)] at hr
        cases hr
      · omega
    subst hkl
    refine wpAny_pure ?_
    have : (l.map (·.2)).take l.length = l.map (·.2) := List.take_of_length_le (by simp)
    rw [this]
    simpa using h
end
/-- where zip(v1, .., vm) begins -/
abbrev gzTN (h : Heap) (os : List Obj) : Heap := (pushAll h os).push (tupO (newRefs h.objs.size os.length))
abbrev gzON (h : Heap) (os : List Obj) : Heap := (gzTN h os).push (tupO (List.replicate os.length .none))
abbrev gzZN (h : Heap) (os : List Obj) : Heap := (gzON h os).push { cls := .type "zip", data := .fields #[.none, .bool false, .bool false, .ref (pushAll h os).objs.size, .ref (gzTN h os).objs.size] }
theorem meets_zip_newN {l : List (Value × Obj)} (hl : l.length ≤ 1000) (B : ∀ p ∈ l, Begins p.1 p.2 fun _ => True) :
    Meets (Builtin.«zip.__new__» ⟨.type "zip" :: l.map (·.1), []⟩) (fun _ R s =>
      R (.ok (.ret (.ref (gzON s.heap (l.map (·.2))).objs.size))) { s with heap := gzZN s.heap (l.map (·.2)) }) :=
  .of_wp fun prog w A R s h => by
    obtain ⟨hp, g, d, tk, os⟩ := s
    have hsub := sub_zip
    have q1 : ∀ {A' : Around} {E : Value → Shared → Prop} {Q : List Value → Shared → Prop}, Q (newRefs hp.objs.size l.length) ⟨pushAll hp (l.map (·.2)), g, d, tk, os⟩ → wpAny (model prog w) A' (Builtin.SmallTypes.iterAll (l.map (·.1))) Q E ⟨hp, g, d, tk, os⟩ :=
      fun q => iterAll_begins (s := ⟨hp, g, d, tk, os⟩) B q
    have len : (newRefs hp.objs.size l.length).length = l.length := by simp [newRefs]
    have z1 : (newRefs hp.objs.size l.length).length ≤ sizeLine := by
      rw [len]
      exact Nat.le_of_lt (small1000 hl)
    have q2 : ∀ {A' : Around} {E : Value → Shared → Prop} {Q : Value → Shared → Prop} {s : Shared}, Q (.ref s.heap.objs.size) { s with heap := s.heap.push (tupO (newRefs hp.objs.size l.length)) } → wpAny (model prog w) A' (newTuple (newRefs hp.objs.size l.length)) Q E s :=
      fun q => wpAny_newTuple q (by simpa using z1)
    have en : (newRefs hp.objs.size l.length).map (fun _ => Value.none) = List.replicate l.length .none := by
      rw [List.map_const', len]
    have q3 : ∀ {A' : Around} {E : Value → Shared → Prop} {Q : Value → Shared → Prop} {s : Shared}, Q (.ref s.heap.objs.size) { s with heap := s.heap.push (tupO (List.replicate l.length .none)) } → wpAny (model prog w) A' (newTuple ((newRefs hp.objs.size l.length).map (fun _ => Value.none))) Q E s :=
      fun q => by
        rw [en]
        exact wpAny_newTuple q (by simp; exact Nat.le_of_lt (small1000 hl))
    wp_walk using q1, q2, q3
    refine ⟨_, rfl, ?_⟩
    have e : (l.map (·.2)).length = l.length := List.length_map _
    unfold gzZN gzON gzTN at h
    rw [e] at h
    exact h
theorem zt1 (r : List Value) : checkTypeCall "zip" ⟨r, []⟩ = pure () := by kernel_rfl
theorem zt2 (a : Value) (r : List Value) : checkBuiltinCall "zip.__new__" ⟨.type "zip" :: a :: r, []⟩ = pure () := by kernel_rfl
theorem zt3 (obj : Value) (r : List Value) : argsOk "object.__init__" ⟨obj :: r, []⟩ := by
  unfold argsOk
  kernel_rfl
section
variable {prog : Program} {w : World} {A : Around} {E : Value → Shared → Prop} {s : Shared}
/-- zip of many: its new cells -/
theorem zip_beginsN {l : List (Value × Obj)} {Q : Value → Shared → Prop} (hl0 : 0 < l.length) (hl : l.length ≤ 1000) (B : ∀ p ∈ l, Begins p.1 p.2 fun _ => True)
    (h : ∀ h', IsZip h' (s.heap.objs.size + l.length + 2) (s.heap.objs.size + l.length) (s.heap.objs.size + l.length + 1) .none → h'.get? (s.heap.objs.size + l.length) = some (tupO (newRefs s.heap.objs.size l.length)) →
      h'.get? (s.heap.objs.size + l.length + 1) = some (tupO (List.replicate l.length .none)) → (∀ k p, l[k]? = some p → h'.get? (s.heap.objs.size + k) = some p.2) → h'.objs.size = s.heap.objs.size + l.length + 3 →
      (∀ c o, s.heap.get? c = some o → h'.get? c = some o) → Q (.ref (s.heap.objs.size + l.length + 2)) { s with heap := h' }) :
    wpAny (model prog w) A (call (.type "zip") (l.map (·.1))) Q E s := by
  have hn : checkBuiltinCall "zip.__new__" ⟨.type "zip" :: l.map (·.1), []⟩ = pure () := by
    cases l with
    | nil => exact absurd hl0 (Nat.lt_irrefl _)
    | cons p r => exact zt2 _ _
  refine callType_new PySem.F.called_zip (by decide) (zt1 _) hn (fun obj => zt3 obj _) PySem.F.entry_zip_new (meets_zip_newN hl B) ?_
  have e : (l.map (·.2)).length = l.length := List.length_map _
  have z0 : (pushAll s.heap (l.map (·.2))).objs.size = s.heap.objs.size + l.length := by rw [pushAll_size, e]
  have zT : (gzTN s.heap (l.map (·.2))).objs.size = s.heap.objs.size + l.length + 1 := by rw [Heap.size_push, z0]
  have zO : (gzON s.heap (l.map (·.2))).objs.size = s.heap.objs.size + l.length + 2 := by rw [Heap.size_push, zT]
  have zZ : (gzZN s.heap (l.map (·.2))).objs.size = s.heap.objs.size + l.length + 3 := by rw [Heap.size_push, zO]
  have gZ : (gzZN s.heap (l.map (·.2))).get? (gzON s.heap (l.map (·.2))).objs.size = some { cls := .type "zip", data := .fields #[.none, .bool false, .bool false, .ref (pushAll s.heap (l.map (·.2))).objs.size, .ref (gzTN s.heap (l.map (·.2))).objs.size] } := Heap.get?_push_size _ rfl
  have gO : (gzZN s.heap (l.map (·.2))).get? (gzTN s.heap (l.map (·.2))).objs.size = some (tupO (List.replicate (l.map (·.2)).length .none)) := Heap.get?_push_of_some _ (Heap.get?_push_size _ rfl)
  have gT : (gzZN s.heap (l.map (·.2))).get? (pushAll s.heap (l.map (·.2))).objs.size = some (tupO (newRefs s.heap.objs.size (l.map (·.2)).length)) := Heap.get?_push_of_some _ (Heap.get?_push_of_some _ (Heap.get?_push_size _ rfl))
  have gk : ∀ k p, l[k]? = some p → (gzZN s.heap (l.map (·.2))).get? (s.heap.objs.size + k) = some p.2 := fun k p hp =>
    Heap.get?_push_of_some _ (Heap.get?_push_of_some _ (Heap.get?_push_of_some _ (pushAll_get _ _ k p.2 (by rw [List.getElem?_map, hp]; rfl) (B p (List.mem_of_getElem? hp)).free)))
  rw [zO, zT, z0] at gZ
  rw [zT, e] at gO
  rw [z0, e] at gT
  show _ ∧ _
  rw [zO]
  exact ⟨⟨_, gZ, rfl⟩, h _ gZ gT gO gk zZ fun c o q => Heap.get?_push_of_some _ (Heap.get?_push_of_some _ (Heap.get?_push_of_some _ (pushAll_keep _ q)))⟩
end
end L2X
/-! zip over any number of iterators: a turn while the tuple given out before is held -/
namespace L2X
open PySem PySem.Spec PyProof.Rows L2
section
variable {prog : Program} {w : World} {A : Around} {E : Value → Shared → Prop} {s : Shared} {z TI TO T : Addr} {m i : Nat} {it : Nat → Addr} {fp : Nat → List Addr} {n : Nat → Nat} {Pv : Nat → Nat → Value → Prop} {St : Nat → Nat → Heap → Prop} {oT : Obj} {f : Bool}
structure Hst (m : Nat) (it : Nat → Addr) (Pv : Nat → Nat → Value → Prop) (St : Nat → Nat → Heap → Prop) (z TI TO T : Addr) (i k : Nat) (xs : List Value) (h0 h : Heap) : Prop where
  zz : IsZipHeld h z TI TO T true
  ln : xs.length = k
  lo : ∀ j v, xs[j]? = some v → Pv j i v
  s1 : ∀ j, j < k → j < m → St j (i + 1) h
  s2 : ∀ j, k ≤ j → j < m → St j i h
  sz : h.objs.size = h0.objs.size
  kp : ∀ c o, c ≠ z → (∀ j, j < m → c ≠ it j) → h0.get? c = some o → h.get? c = some o
theorem zipN_next_held {Q : Value → Shared → Prop} (hm : 0 < m) (hm2 : m ≤ 1000) (S : SepN m it fp z TI TO) (D : ∀ k, k < m → Draws prog w A (it k) (fp k) (n k) (Pv k) (St k))
    (hz : IsZipHeld s.heap z TI TO T f) (hT : s.heap.get? T = some oT) (hTI : s.heap.get? TI = some (tupO (itRefs m it))) (st : ∀ k, k < m → St k i s.heap) (hlt : ∀ k, k < m → i < n k)
    (hQ : ∀ (xs : List Value) h' tk, xs.length = m → (∀ j v, xs[j]? = some v → Pv j i v) → IsZipHeld h' z TI TO T true → (∀ k, k < m → St k (i + 1) h') → h'.get? s.heap.objs.size = some (tupO xs) → h'.objs.size = s.heap.objs.size + 1 →
      (∀ c o, c ≠ z → (∀ j, j < m → c ≠ it j) → s.heap.get? c = some o → h'.get? c = some o) → Q (.ref s.heap.objs.size) { s with heap := h', toks := tk }) :
    wpAny (model prog w) A (Builtin.«zip.__next__» ⟨[.ref z], []⟩) (fun fin s' => ∃ v, fin = .done (.ret v) ∧ Q v s') E s := by
  obtain ⟨hp, g, d, tk0, os⟩ := s
  have ne : (itRefs m it).toArray.isEmpty = false := by
    simp [itRefs]
    omega
  show wpAny _ _ (field (.ref z) 2 >>= _) _ _ _
  refine wpAny_bind (wpAny_field hz rfl (x := .bool false) rfl ?_)
  show wpAny _ _ (field (.ref z) 3 >>= _) _ _ _
  refine wpAny_bind (wpAny_field hz rfl (x := .ref TI) rfl ?_)
  refine wpAny_bind (wpAny_seqItems hTI rfl ?_)
  simp only [ne, Bool.false_eq_true, if_false]
  refine wpAny_bind (wpAny_tupleHeld_zip hz hT fun g0 hz0 hs0 => ?_)
  simp only [Bool.false_eq_true, if_false]
  refine wpAny_bind ?_
  rw [← Array.forIn_toList]
  refine wpAny_forIn_list _ (fun rest b s' => b.1 = none ∧ ∃ (k : Nat) (xs : List Value) (h' : Heap) (tk : Nat), s' = ⟨h', g, d, tk, os⟩ ∧ k ≤ m ∧ rest = (itRefs m it).drop k ∧ b.2 = xs.toArray ∧ Hst m it Pv St z TI TO T i k xs hp h') _ ?_ ?_ _ _ ⟨rfl, 0, [], g0, tk0, rfl, Nat.zero_le _, by simp, rfl, ?_⟩
  · rintro v rest ⟨b1, b2⟩ s' ⟨hb, k, xs, h', tk, rfl, hk, hr, hx2, Z⟩
    have hb' : b1 = none := hb
    have hx2' : b2 = xs.toArray := hx2
    subst hb'
    subst hx2'
    have hlen : (itRefs m it).length = m := by simp [itRefs]
    have hkm : k < m := by
      rcases Nat.lt_or_ge k m with q | q
      · exact q
      · rw [List.drop_eq_nil_of_le (by rw [hlen]; exact q)] at hr
        cases hr
    have hd : (itRefs m it).drop k = Value.ref (it k) :: (itRefs m it).drop (k + 1) := by
      rw [List.drop_eq_getElem_cons (by rw [hlen]; exact hkm)]
      simp [itRefs]
    rw [hd] at hr
    have e1 := (List.cons.inj hr).1
    have e2 := (List.cons.inj hr).2
    subst e1
    refine wpAny_bind (wpAny_holding ?_)
    show wpAny _ _ (Builtin.SmallTypes.nextOf (.ref (it k)) >>= _) _ _ ⟨h', g, d, tk, os⟩
    refine wpAny_bind ((D k hkm).item i _ _ _ (hlt k hkm) (Z.s2 k (Nat.le_refl _) hkm) fun x p tk' hx sn hp' => wpAny_pure ?_)
    replace hp' : Heap.SameBut (it k) h' p := hp'
    refine wpAny_pure ?_
    refine ⟨rfl, k + 1, xs ++ [x], p, tk', rfl, hkm, e2, by simp, ?_⟩
    refine ⟨hp'.extBut _ _ (S.zi hkm) Z.zz, by rw [List.length_append, Z.ln]; rfl, fun q v hv => ?_, fun q hq hqm => ?_, fun q hq hqm => ?_, by rw [hp'.1, Z.sz], fun c o c1 c3 e => hp'.extBut _ _ (c3 k hkm) (Z.kp c o c1 c3 e)⟩
    · by_cases hqk : q < xs.length
      · rw [List.getElem?_append_left hqk] at hv
        exact Z.lo q v hv
      · have hq2 : q = xs.length := by
          have := (List.getElem?_eq_some_iff.mp hv).1
          rw [List.length_append, List.length_singleton] at this
          omega
        subst hq2
        rw [List.getElem?_concat_length] at hv
        cases hv
        rw [Z.ln]
        exact hx
    · by_cases eq : q = k
      · subst eq
        exact sn
      · exact (D q hqm).frame _ _ _ (Z.s1 q (by omega) hqm) fun b hb o e => hp'.extBut _ _ (fun y => S.sep k q hkm hqm (fun r => eq r.symm) (y ▸ hb)) e
    · exact (D q hqm).frame _ _ _ (Z.s2 q (by omega) hqm) fun b hb o e => hp'.extBut _ _ (fun y => S.sep k q hkm hqm (by omega) (y ▸ hb)) e
  · rintro ⟨b1, b2⟩ s' ⟨hb, k, xs, h', tk, rfl, hk, hr, hx2, Z⟩
    have hb' : b1 = none := hb
    have hx2' : b2 = xs.toArray := hx2
    subst hb'
    subst hx2'
    have hlen : (itRefs m it).length = m := by simp [itRefs]
    have hkm : k = m := by
      rcases Nat.lt_or_ge k m with q | q
      · rw [List.drop_eq_getElem_cons (by rw [hlen]; exact q)] at hr
        cases hr
      · omega
    subst hkm
    have zl : xs.length ≤ sizeLine := by
      rw [Z.ln]
      exact Nat.le_of_lt (small1000 hm2)
    refine wpAny_bind (wpAny_newTuple ?_ (by simpa using zl))
    refine wpAny_pure ⟨_, rfl, ?_⟩
    show Q (.ref h'.objs.size) ⟨h'.push (tupO xs), g, d, tk, os⟩
    have hz4 : (h'.push (tupO xs)).objs.size = h'.objs.size + 1 := Heap.size_push ..
    have hp4 : (h'.push (tupO xs)).get? h'.objs.size = some (tupO xs) := Heap.get?_push_size _ rfl
    rw [Z.sz] at hz4 hp4 ⊢
    exact hQ xs _ tk Z.ln Z.lo (Heap.get?_push_of_some _ Z.zz) (fun q hq => (D q hq).frame _ _ _ (Z.s1 q hq hq) fun b hb o e => Heap.get?_push_of_some _ e) hp4 hz4 fun c o c1 c3 e => Heap.get?_push_of_some _ (Z.kp c o c1 c3 e)
  · exact ⟨hz0, rfl, (fun j v h => nomatch h), fun j h => absurd h (Nat.not_lt_zero _), fun j _ hj => (D j hj).over (st j hj) hs0 (S.zf j hj), hs0.1, fun c o c1 c3 e => hs0.extBut _ _ c1 e⟩
theorem zipN_end_held {Q : PySem.Fin → Shared → Prop} (hm : 0 < m) (S : SepN m it fp z TI TO) (D : ∀ k, k < m → Draws prog w A (it k) (fp k) (n k) (Pv k) (St k))
    (hz : IsZipHeld s.heap z TI TO T f) (hT : s.heap.get? T = some oT) (hTI : s.heap.get? TI = some (tupO (itRefs m it))) (st : ∀ k, k < m → St k i s.heap) (hend : i = n 0)
    (hE : ∀ h' tk e, (∀ c o, c ≠ z → c ≠ TO → (∀ j, j < m → c ≠ it j) → s.heap.get? c = some o → h'.get? c = some o) → (∃ o, h'.get? e = some o ∧ o.cls = .type "StopIteration") → E (.ref e) { s with heap := h', toks := tk }) :
    wpAny (model prog w) A (Builtin.«zip.__next__» ⟨[.ref z], []⟩) Q E s := by
  obtain ⟨hp, g, d, tk0, os⟩ := s
  have ne : (itRefs m it).toArray.isEmpty = false := by
    simp [itRefs]
    omega
  show wpAny _ _ (field (.ref z) 2 >>= _) _ _ _
  refine wpAny_bind (wpAny_field hz rfl (x := .bool false) rfl ?_)
  show wpAny _ _ (field (.ref z) 3 >>= _) _ _ _
  refine wpAny_bind (wpAny_field hz rfl (x := .ref TI) rfl ?_)
  refine wpAny_bind (wpAny_seqItems hTI rfl ?_)
  simp only [ne, Bool.false_eq_true, if_false]
  refine wpAny_bind (wpAny_tupleHeld_zip hz hT fun g0 hz0 hs0 => ?_)
  simp only [Bool.false_eq_true, if_false]
  refine wpAny_bind ?_
  rw [← Array.forIn_toList]
  replace hs0 : Heap.SameBut z hp g0 := hs0
  have hd : (itRefs m it).toArray.toList = Value.ref (it 0) :: (itRefs m it).drop 1 := by
    have hlen : (itRefs m it).length = m := by simp [itRefs]
    have := List.drop_eq_getElem_cons (l := itRefs m it) (i := 0) (by rw [hlen]; exact hm)
    rw [List.drop_zero] at this
    simp only
    rw [this]
    simp [itRefs]
  rw [hd, List.forIn_cons]
  refine wpAny_bind (wpAny_bind (wpAny_holding ?_))
  show wpAny _ _ (Builtin.SmallTypes.nextOf (.ref (it 0)) >>= _) _ _ ⟨g0, g, d, tk0, os⟩
  refine wpAny_bind ((D 0 hm).done ⟨g0, g, d, tk0, os⟩ _ _ (by rw [← hend]; exact (D 0 hm).over (st 0 hm) hs0 (S.zf 0 hm)) fun q e hq he => ?_)
  replace hq : Heap.ExtBut (it 0) g0 q := hq
  exact hE q tk0 e (fun c o cz cT c1 x => hq _ _ (c1 0 hm) (hs0.extBut _ _ cz x)) he
theorem pyNext_zipN_item_held {Q : Option Value → Shared → Prop} (hm : 0 < m) (hm2 : m ≤ 1000) (S : SepN m it fp z TI TO) (D : ∀ k, k < m → Draws prog w A.in1 (it k) (fp k) (n k) (Pv k) (St k))
    (hz : IsZipHeld s.heap z TI TO T f) (hT : s.heap.get? T = some oT) (hTI : s.heap.get? TI = some (tupO (itRefs m it))) (st : ∀ k, k < m → St k i s.heap) (hlt : ∀ k, k < m → i < n k)
    (hQ : ∀ (xs : List Value) h' tk, xs.length = m → (∀ j v, xs[j]? = some v → Pv j i v) → IsZipHeld h' z TI TO T true → (∀ k, k < m → St k (i + 1) h') → h'.get? s.heap.objs.size = some (tupO xs) → h'.objs.size = s.heap.objs.size + 1 →
      (∀ c o, c ≠ z → (∀ j, j < m → c ≠ it j) → s.heap.get? c = some o → h'.get? c = some o) → Q (some (.ref s.heap.objs.size)) { s with heap := h', toks := tk }) :
    wpAny (model prog w) A (pyNext (.ref z)) Q E s := by
  have hTy : s.TypeIs (.ref z) "zip" := ⟨_, hz, rfl⟩
  unfold pyNext
  exact wpAny_bind (wpAny_attempt (wpAny_callSpecial?_slot (name := Str.ofString "__next__") hTy PySem.F.slot_zip_next
    (wpAny_call_entry PySem.F.slot_zip_next hTy PySem.F.entry_zip_next
      (zipN_next_held hm hm2 S D hz hT hTI st hlt fun xs h' tk y1 y2 b1 b2 b5 b6 b7 => wpAny_pure (hQ xs h' tk y1 y2 b1 b2 b5 b6 b7)) (PySem.F.args_zip_next_1 _))))
theorem pyNext_zipN_end_held {Q : Option Value → Shared → Prop} (hm : 0 < m) (S : SepN m it fp z TI TO) (D : ∀ k, k < m → Draws prog w A.in1 (it k) (fp k) (n k) (Pv k) (St k))
    (hz : IsZipHeld s.heap z TI TO T f) (hT : s.heap.get? T = some oT) (hTI : s.heap.get? TI = some (tupO (itRefs m it))) (st : ∀ k, k < m → St k i s.heap) (hend : i = n 0)
    (hQ : ∀ h' tk, (∀ c o, c ≠ z → c ≠ TO → (∀ j, j < m → c ≠ it j) → s.heap.get? c = some o → h'.get? c = some o) → Q none { s with heap := h', toks := tk }) : wpAny (model prog w) A (pyNext (.ref z)) Q E s := by
  have hTy : s.TypeIs (.ref z) "zip" := ⟨_, hz, rfl⟩
  unfold pyNext
  refine wpAny_bind (wpAny_attempt (wpAny_callSpecial?_slot (name := Str.ofString "__next__") hTy PySem.F.slot_zip_next
    (wpAny_call_entry PySem.F.slot_zip_next hTy PySem.F.entry_zip_next (zipN_end_held hm S D hz hT hTI st hend fun h' tk e hk he => ?_) (PySem.F.args_zip_next_1 _))))
  obtain ⟨o, ho, hc⟩ := he
  refine wpAny_bind (wpAny_isInstance (T := "StopIteration") (b := true) ⟨o, ho, hc⟩ isSubtype_stop ?_)
  exact wpAny_pure (hQ _ _ hk)
end
end L2X
/-! zip(*texts) -/
namespace L2X
open PySem PySem.Spec PyProof.Rows L2
def sgn (z : Str) (i : Nat) : V := .str ⟨#[(z.cps[i]?).getD 0]⟩
/-- what zip(*zs) tells, at each turn a new tuple -/
def ItzN (zs : List Str) : It :=
  ⟨fun i H => ∀ z ∈ zs, i < z.cps.size, fun i H v H' => ∃ T, v = .ref T ∧ H T = none ∧ H' = upd H T (.tup (zs.map fun z => sgn z i)), fun i H => ∃ z r, zs = z :: r ∧ z.cps.size = i⟩
theorem vals_at : ∀ {l : List V} {us : List Value}, l.length = us.length → (∀ (j : Nat) (x : V) (u : Value), l[j]? = some x → us[j]? = some u → RelV x u) → Vals l us
  | [], [], _, _ => .nil
  | [], _ :: _, h, _ => by cases h
  | _ :: _, [], h, _ => by cases h
  | x :: l, u :: us, h, g => .cons (g 0 x u rfl rfl) (vals_at (Nat.succ.inj h) fun j y v a b => g (j + 1) y v a b)
def fpN (z TI TO : Addr) (m N : Nat) : List Addr := z :: TI :: TO :: (List.range m).map fun k => N + k
theorem fpN_mem {z TI TO c : Addr} {m N : Nat} : c ∈ fpN z TI TO m N ↔ c = z ∨ c = TI ∨ c = TO ∨ ∃ k, k < m ∧ c = N + k := by
  unfold fpN
  rw [List.mem_cons, List.mem_cons, List.mem_cons, List.mem_map]
  constructor
  · rintro (h | h | h | ⟨k, hk, h⟩)
    · exact .inl h
    · exact .inr (.inl h)
    · exact .inr (.inr (.inl h))
    · exact .inr (.inr (.inr ⟨k, List.mem_range.mp hk, h.symm⟩))
  · rintro (h | h | h | ⟨k, hk, h⟩)
    · exact .inl h
    · exact .inr (.inl h)
    · exact .inr (.inr (.inl h))
    · exact .inr (.inr (.inr ⟨k, List.mem_range.mpr hk, h.symm⟩))
def tnN (zs : List Str) (z TI TO N : Addr) : Nat → Heap → Prop := fun i h => (IsZ5 h z TI TO .none (.bool false) ∨ ∃ T f, IsZipHeld h z TI TO T f) ∧ h.get? TI = some (tupO (itRefs zs.length fun k => N + k)) ∧ (∃ xs0 : List Value, xs0.length = zs.length ∧ h.get? TO = some (tupO xs0)) ∧
  ∀ k, k < zs.length → ∃ t, h.IsStrIter (N + k) (strIterType (zs.getD k "")) (zs.getD k "") t i
theorem strIter_at {h h' : Heap} {it : Addr} {T : String} {z : Str} {t : Tok} {i : Nat} (e : h.IsStrIter it T z t i) (k : ∀ o, h.get? it = some o → h'.get? it = some o) : h'.IsStrIter it T z t i := by
  obtain ⟨o, e1, e2, d⟩ := e
  exact ⟨o, k _ e1, e2, d⟩
theorem sepN_new {m N : Nat} : SepN m (fun k => (N + k : Nat)) (fun k => [(N + k : Nat)]) (N + m + 2 : Nat) (N + m : Nat) (N + m + 1 : Nat) where
  TIz := (show ¬ ((N + m : Nat) = N + m + 2) by omega)
  TOz := (show ¬ ((N + m + 1 : Nat) = N + m + 2) by omega)
  TITO := (show ¬ ((N + m : Nat) = N + m + 1) by omega)
  TIi := fun k hk => (show ¬ ((N + m : Nat) = N + k) by omega)
  mem := fun k hk => List.mem_singleton.mpr rfl
  zf := fun k hk h => (show ¬ ((N + m + 2 : Nat) = N + k) by omega) (List.mem_singleton.mp h)
  Tf := fun k hk h => (show ¬ ((N + m + 1 : Nat) = N + k) by omega) (List.mem_singleton.mp h)
  sep := fun j k hj hk hne h => (show ¬ ((N + j : Nat) = N + k) by omega) (List.mem_singleton.mp h)
theorem turn_zipN {P : Program} {w : World} {K : PySem.W.Frag} {nm : Str} {npos : Pos} {zs : List Str} {N z TI TO : Addr} (h0 : 0 < zs.length) (h1 : zs.length ≤ 1000) (S : SepN zs.length (fun k => N + k) (fun k => [N + k]) z TI TO) :
    Turn P w K (.Name nm npos) (ItzN zs) (fpN z TI TO zs.length N) z (tnN zs z TI TO N) where
  mem := by simp [fpN]
  obj := fun i h st c hc => by
    obtain ⟨hz, hTI, ⟨xs0, _, hTO⟩, hk⟩ := st
    rcases fpN_mem.mp hc with q | q | q | ⟨k, hkm, q⟩
    · rcases hz with hz | ⟨T, f, hz⟩
      · rw [q]; exact ⟨_, hz, fun v q => nomatch q⟩
      · rw [q]; exact ⟨_, hz, fun v q => nomatch q⟩
    · rw [q]; exact ⟨_, hTI, fun v q => nomatch q⟩
    · rw [q]; exact ⟨_, hTO, fun v q => nomatch q⟩
    · obtain ⟨t, o, e1, _, d⟩ := hk k hkm
      rw [q]
      exact ⟨o, e1, fun v q => by rw [d] at q; cases q⟩
  keep := fun i h h' st kp => by
    obtain ⟨hz, hTI, ⟨xs0, hl, hTO⟩, hk⟩ := st
    have kz := kp z (fpN_mem.mpr (.inl rfl))
    refine ⟨?_, kp TI (fpN_mem.mpr (.inr (.inl rfl))) _ hTI, ⟨xs0, hl, kp TO (fpN_mem.mpr (.inr (.inr (.inl rfl)))) _ hTO⟩, fun k hkm => ?_⟩
    · rcases hz with hz | ⟨T, f, hz⟩
      · exact .inl (kz _ hz)
      · exact .inr ⟨T, f, kz _ hz⟩
    · obtain ⟨t, e⟩ := hk k hkm
      exact ⟨t, strIter_at e fun o q => kp _ (fpN_mem.mpr (.inr (.inr (.inr ⟨k, hkm, rfl⟩)))) o q⟩
  item := by
    intro X hP hw hK hc i pins s σ H E I hf st hg
    subst hP hw hK
    obtain ⟨hz, hTI, ⟨xs0, hl, hTO⟩, hk⟩ := st
    obtain ⟨tf, htf⟩ : ∃ tf : Nat → Tok, ∀ k, k < zs.length → s.heap.IsStrIter (N + k) (strIterType (zs.getD k "")) (zs.getD k "") (tf k) i := by
      refine ⟨fun k => if h : k < zs.length then (hk k h).choose else 0, fun k hkm => ?_⟩
      simp only [hkm, dif_pos]
      exact (hk k hkm).choose_spec
    have hh := I.ok.hd hc
    have D : ∀ k, k < zs.length → Draws X.prog X.w X.A.in1 (N + k) [N + k] (zs.getD k "").cps.size (fun i v => SignAt (zs.getD k "") i v) (fun i h => h.IsStrIter (N + k) (strIterType (zs.getD k "")) (zs.getD k "") (tf k) i) := fun k _ => Draws.text (A := X.A.in1) hh (N + k) (zs.getD k "") (tf k)
    have hlt : ∀ k, k < zs.length → i < (zs.getD k "").cps.size := fun k hkm => by
      rw [List.getD_eq_getElem?_getD, List.getElem?_eq_getElem hkm]
      exact hg _ (List.getElem_mem hkm)
    have hzl : z < s.heap.objs.size := by
      rcases hz with hz | ⟨T, f, hz⟩
      · exact Heap.lt_size hz
      · exact Heap.lt_size hz
    have fin : ∀ (xs : List Value) h' tk, xs.length = zs.length → (∀ j v, xs[j]? = some v → SignAt (zs.getD j "") i v) → (∃ T f, IsZipHeld h' z TI TO T f) → (∃ xs1 : List Value, xs1.length = zs.length ∧ h'.get? TO = some (tupO xs1)) →
        (∀ k, k < zs.length → h'.IsStrIter (N + k) (strIterType (zs.getD k "")) (zs.getD k "") (tf k) (i + 1)) → h'.get? s.heap.objs.size = some (tupO xs) → h'.objs.size = s.heap.objs.size + 1 →
        (∀ c o, c ≠ z → c ≠ TO → (∀ j, j < zs.length → c ≠ N + j) → s.heap.get? c = some o → h'.get? c = some o) →
        ∃ u, (some (Value.ref s.heap.objs.size)) = some u ∧ wpAny (model X.prog X.w) X.A (letOwnedTupleGo (.Name nm npos) (.ref z) u) (fun _ s2 => ∃ x H', Inv X pins σ H' s2 ∧ RelV x u ∧ (ItzN zs).yld i H x H' ∧ tnN zs z TI TO N (i + 1) s2.heap ∧ ∀ b ∈ fpN z TI TO zs.length N, H' b = none) E { s with heap := h', toks := tk } := by
      intro xs h' tk q1 q2 q3 q4 q5 q6 q7 q8
      refine ⟨_, rfl, ?_⟩
      show wpAny _ _ (pure ()) _ _ _
      refine wpAny_pure ?_
      have rvs : Vals (zs.map fun z => sgn z i) xs := vals_at (by rw [List.length_map, q1]) fun j x u hx hu => by
        rw [List.getElem?_map] at hx
        obtain ⟨zj, hzj, rfl⟩ : ∃ zj, zs[j]? = some zj ∧ x = sgn zj i := by
          cases e : zs[j]? with
          | none =>
            rw [e] at hx
            cases hx
          | some y =>
            rw [e] at hx
            exact ⟨y, rfl, (Option.some.inj hx).symm⟩
        obtain ⟨c, u', e1, e2⟩ := q2 j u hu
        rw [List.getD_eq_getElem?_getD, hzj] at e1
        have e1' : zj.cps[i]? = some c := e1
        refine ⟨u', ?_⟩
        rw [e2, e1']
        rfl
      have new : ObjOk X.prog X.w (upd H s.heap.objs.size (.tup (zs.map fun z => sgn z i))) h' s.heap.objs.size (.tup (zs.map fun z => sgn z i)) :=
        ⟨by rw [List.length_map]; exact Nat.le_of_lt (small1000 h1), xs, rvs, ⟨_, q6, rfl, _, rfl⟩⟩
      have I1 : Inv X pins σ (upd H s.heap.objs.size (.tup (zs.map fun z => sgn z i))) { s with heap := h', toks := tk } :=
        I.turnedNew (t' := tk) (ch := fpN z TI TO zs.length N) (fun c o hb q => q8 c o (fun e => hb (fpN_mem.mpr (.inl e))) (fun e => hb (fpN_mem.mpr (.inr (.inr (.inl e))))) (fun j hj e => hb (fpN_mem.mpr (.inr (.inr (.inr ⟨j, hj, e⟩))))) q) hf (Nat.le_refl _) new
      refine ⟨.ref s.heap.objs.size, _, I1, rfl, ⟨_, rfl, I.hok.fresh (Nat.le_refl _), rfl⟩, ⟨.inr q3, q8 _ _ S.TIz S.TITO (fun j hj => S.TIi j hj) hTI, q4, fun k hkm => ⟨tf k, q5 k hkm⟩⟩, fun c hcm => ?_⟩
      have hlt : c < s.heap.objs.size := by
        rcases fpN_mem.mp hcm with q | q | q | ⟨k, hkm, q⟩
        · rw [q]; exact hzl
        · rw [q]; exact Heap.lt_size hTI
        · rw [q]; exact Heap.lt_size hTO
        · obtain ⟨_, e1, _⟩ := htf k hkm
          rw [q]
          exact Heap.lt_size e1
      rw [upd_ne (Nat.ne_of_lt hlt)]
      exact (hf c hcm).1
    rcases hz with hz | ⟨T, f, hz⟩
    · exact pyNext_zipN_item (n := fun k => (zs.getD k "").cps.size) h0 h1 S D hz (free_none hz) hTI hTO hl htf hlt fun xs h' tk y1 y2 b1 b2 d1 b5 b6 b7 => fin xs h' tk y1 y2 ⟨_, _, b1⟩ ⟨xs, y1, b2⟩ d1 b5 b6 b7
    · cases hT : s.heap.get? T with
      | none => exact pyNext_zipN_item (n := fun k => (zs.getD k "").cps.size) h0 h1 S D hz (free_gone hz hT) hTI hTO hl htf hlt fun xs h' tk y1 y2 b1 b2 d1 b5 b6 b7 => fin xs h' tk y1 y2 ⟨_, _, b1⟩ ⟨xs, y1, b2⟩ d1 b5 b6 b7
      | some oT => exact pyNext_zipN_item_held (n := fun k => (zs.getD k "").cps.size) h0 h1 S D hz hT hTI htf hlt fun xs h' tk y1 y2 b1 d1 b5 b6 b7 => fin xs h' tk y1 y2 ⟨_, _, b1⟩ ⟨xs0, hl, b7 _ _ S.TOz (fun j hj => S.Ti hj) hTO⟩ d1 b5 b6 fun c o c1 _ c3 e => b7 c o c1 c3 e
  done := by
    intro X hP hw hK hc i pins s σ H E I hf st hg
    subst hP hw hK
    obtain ⟨hz, hTI, ⟨xs0, hl, hTO⟩, hk⟩ := st
    obtain ⟨tf, htf⟩ : ∃ tf : Nat → Tok, ∀ k, k < zs.length → s.heap.IsStrIter (N + k) (strIterType (zs.getD k "")) (zs.getD k "") (tf k) i := by
      refine ⟨fun k => if h : k < zs.length then (hk k h).choose else 0, fun k hkm => ?_⟩
      simp only [hkm, dif_pos]
      exact (hk k hkm).choose_spec
    have hh := I.ok.hd hc
    have D : ∀ k, k < zs.length → Draws X.prog X.w X.A.in1 (N + k) [N + k] (zs.getD k "").cps.size (fun i v => SignAt (zs.getD k "") i v) (fun i h => h.IsStrIter (N + k) (strIterType (zs.getD k "")) (zs.getD k "") (tf k) i) := fun k _ => Draws.text (A := X.A.in1) hh (N + k) (zs.getD k "") (tf k)
    have hend : i = (zs.getD 0 "").cps.size := by
      obtain ⟨y, r, e, ez⟩ := hg
      rw [e]
      exact ez.symm
    have fin : ∀ (h' : Heap) (tk : Nat), (∀ c o, c ≠ z → c ≠ TO → (∀ j, j < zs.length → c ≠ N + j) → s.heap.get? c = some o → h'.get? c = some o) → (none : Option Value) = none ∧ Inv X pins σ H { s with heap := h', toks := tk } := fun h' tk hk' =>
      ⟨rfl, I.turnedL (t' := tk) (ch := fpN z TI TO zs.length N) (fun c o hb q => hk' c o (fun e => hb (fpN_mem.mpr (.inl e))) (fun e => hb (fpN_mem.mpr (.inr (.inr (.inl e))))) (fun j hj e => hb (fpN_mem.mpr (.inr (.inr (.inr ⟨j, hj, e⟩))))) q) hf⟩
    rcases hz with hz | ⟨T, f, hz⟩
    · exact pyNext_zipN_end (n := fun k => (zs.getD k "").cps.size) h0 S D hz (free_none hz) hTI hTO htf hend fin
    · cases hT : s.heap.get? T with
      | none => exact pyNext_zipN_end (n := fun k => (zs.getD k "").cps.size) h0 S D hz (free_gone hz hT) hTI hTO htf hend fin
      | some oT => exact pyNext_zipN_end_held (n := fun k => (zs.getD k "").cps.size) h0 S D hz hT hTI htf hend fin
  self := fun A i s Q E st h => by
    rcases st.1 with hz | ⟨T, f, hz⟩
    · exact wpAny_pyIter_zip hz h
    · have hTy : s.TypeIs (.ref z) "zip" := ⟨_, hz, rfl⟩
      refine wpAny_pyIter_slot hTy PySem.F.slot_zip_iter (wpAny_call_entry PySem.F.slot_zip_iter hTy PySem.F.entry_zip_iter ?_ (PySem.F.args_zip_iter_1 _))
      show wpAny _ _ (ret (.ref z)) _ _ s
      exact wpAny_pure ⟨_, rfl, "zip", _, hTy, PySem.F.slot_zip_next.lookup, h⟩
/-- zip(*e), e a tuple or a list of texts -/
def iZipS (K : PySem.W.Frag) (te : TE) : TI := fun σ H R => te σ H fun y H1 => ∃ a zs, y = V.ref a ∧ (SqT K H1 a (zs.map V.str) ∨ SqL K H1 a (zs.map V.str)) ∧ 0 < zs.length ∧ zs.length ≤ 1000 ∧ R (ItzN zs) H1
theorem begin_all : ∀ {zs : List Str} {us : List Value}, Vals (zs.map V.str) us → ∃ l : List (Value × Obj), l.map (·.1) = us ∧ l.length = zs.length ∧ (∀ p ∈ l, Begins p.1 p.2 fun _ => True) ∧
    ∀ (k : Nat) (z : Str), zs[k]? = some z → ∃ p : Value × Obj, l[k]? = some p ∧ ∀ (h' : Heap) (it : Addr), h'.get? it = some p.2 → ∃ t, h'.IsStrIter it (strIterType z) z t 0
  | [], [], _ => ⟨[], rfl, rfl, (fun _ h => nomatch h), fun k z h => nomatch h⟩
  | [], _ :: _, h => nomatch h.length
  | _ :: _, [], h => nomatch h.length
  | z :: zs, u :: us, rv => by
    obtain ⟨r, rr⟩ : RelV (.str z) u ∧ Vals (zs.map V.str) us := by cases rv with | cons r rr => exact ⟨r, rr⟩
    obtain ⟨l, e1, e2, e3, e4⟩ := begin_all rr
    obtain ⟨t, rfl⟩ := r
    obtain ⟨o, B, hit⟩ : ∃ o, Begins (Value.str z t) o (fun _ => True) ∧ ∀ (h' : Heap) (it : Addr), h'.get? it = some o → ∃ t', h'.IsStrIter it (strIterType z) z t' 0 := ⟨_, begins_text z t, fun h' it e => ⟨t, _, e, rfl, rfl⟩⟩
    refine ⟨(Value.str z t, o) :: l, by rw [List.map_cons, e1], by rw [List.length_cons, e2]; rfl, fun p hp => ?_, fun k y hy => ?_⟩
    · rcases List.mem_cons.mp hp with q | q
      · rw [q]
        exact B
      · exact e3 p q
    · cases k with
      | zero =>
        cases hy
        exact ⟨_, rfl, hit⟩
      | succ k => exact e4 k y hy
theorem callWith_typeS {M : Model} {A : Around} {E : Value → Shared → Prop} {s : Shared} {env : Env} {pos p : Pos} {T : String} {e : Expr} {Q : Value → Shared → Prop}
    (h : wpAny M A (eval e env) (fun v s₁ => PySem.W.StarOf M A E v (fun vs s₂ => wpAny M A (call (.type T) vs) Q E s₂) s₁) E s) (he : starEach [.Starred e p] env = [(true, eval e env)]) :
    wpAny M A (callWith pos (.type T) [] (backTo pos (starEach [.Starred e p] env)) []) Q E s := by
  rw [he]
  have h2 := PySem.W.ks_lone (f := .type T) (pos := pos) (Q := fun a s₁ => wpAny M A (call (.type T) ([] ++ a.pos) a.kw) Q E s₁) h
  unfold callWith
  refine wpAny_bind (wpAny_holding (wpAny_mono h2 (fun a s₁ h₁ => wpAny_bind (wpAny_standAt ?_)) fun _ _ x => x))
  refine wpAny_bind (wpAny_pure ?_)
  exact wpAny_bind (wpAny_mono (wpAny_operating h₁) (fun r s₂ hr => wpAny_bind (wpAny_holding (wpAny_point (wpAny_pure hr)))) fun _ _ x => x)
theorem pi_zipS {X : Cx} {e : Expr} {te : TE} {p sp pos npos : Pos} {nm : Str} (hg : Gl X "zip") (hm : X.mg "zip" = none) (he : PE X e te) (hst : starEach [.Starred e sp] X.env = [(true, eval e X.env)] := by rfl) :
    PI X (.Name nm npos) (.Call (.Name "zip" p) [.Starred e sp] [] pos) (iZipS X.K te) := by
  refine ⟨fun pins s σ H R I h => ?_⟩
  refine Call_ (ld_blt I hg hm PyProof.Rows.boot_zip (callWith_typeS (thn (he.run pins s σ H _ I h) fun v s1 ⟨y, H1, I1, ry, a, zs, ey, hx, z0, z1, q⟩ => ?_) hst))
  subst ey
  obtain rfl : v = Value.ref a := ry
  refine StX.star_any I1 hx fun us s2 I2 rv => ?_
  obtain ⟨l, e1, e2, e3, e4⟩ := begin_all rv
  rw [← e1]
  refine zip_beginsN (by omega) (by omega) e3 fun h' hz hTI hTO hk hsz kp => wpAny_pyIter_zip hz ?_
  have I3 : Inv X pins σ H1 { s2 with heap := h' } := I2.kept (t' := s2.toks) kp
  rw [e2] at hz hTI hTO
  refine ⟨_, fpN (s2.heap.objs.size + zs.length + 2) (s2.heap.objs.size + zs.length) (s2.heap.objs.size + zs.length + 1) zs.length s2.heap.objs.size, tnN zs (s2.heap.objs.size + zs.length + 2) (s2.heap.objs.size + zs.length) (s2.heap.objs.size + zs.length + 1) s2.heap.objs.size, _, H1, by rw [e2], I3, turn_zipN z0 z1 sepN_new, ⟨.inl hz, hTI, ⟨_, by rw [List.length_replicate], hTO⟩, fun k hkm => ?_⟩, fun c hcm => ?_, q⟩
  · obtain ⟨p, hp, hit⟩ := e4 k zs[k] (List.getElem?_eq_getElem hkm)
    have z := hit h' _ (hk k p hp)
    rw [List.getD_eq_getElem?_getD, List.getElem?_eq_getElem hkm]
    exact z
  · have hle : s2.heap.objs.size ≤ c := by
      have h3 : ∀ a : Nat, @Eq Nat c (s2.heap.objs.size + a) → s2.heap.objs.size ≤ c := fun a e => by
        have e' : (c : Nat) = s2.heap.objs.size + a := e
        exact e' ▸ Nat.le_add_right _ _
      rcases fpN_mem.mp hcm with z | z | z | ⟨k, _, z⟩
      · exact h3 (zs.length + 2) z
      · exact h3 zs.length z
      · exact h3 (zs.length + 1) z
      · exact h3 k z
    exact I2.fpOk hle (I2.hok.fresh hle)
/-- a comprehension over it -/
theorem lc_zipN {zs : List Str} {n : Nat} {g : TG} {tt : TT} {te : TE} {vs : List Nat} {σ : L2.St} {H1 : Hp} {D : Addr} {Qd : Hp → Prop} (h0 : 0 < zs.length) (hn : ∀ z ∈ zs, z.cps.size = n) (Pv : Nat → Hp → Prop) (hP : Pv 0 (upd H1 D (.lst [])))
    (hs : ∀ i H T, i < n → Pv i H → H T = none → g (.ref T) (wipe σ vs) (upd H T (.tup (zs.map fun z => sgn z i))) fun σ2 H2 => wipe σ2 vs = wipe σ vs ∧ tt σ2 H2 fun b H3 =>
      if b = true then te σ2 H3 fun z H4 => ∃ acc, H4 D = some (.lst acc) ∧ acc.length < sizeLine ∧ Pv (i + 1) (upd H4 D (.lst (acc ++ [z]))) else Pv (i + 1) H3) (hd : ∀ H, Pv n H → Qd H) :
    ∃ W : Nat → Nat → Hp → Prop, (∃ m, W 0 m (upd H1 D (.lst []))) ∧ ∀ i m H, W i m H →
      ((ItzN zs).stop i H ∧ Qd H) ∨ ((ItzN zs).go i H ∧ ∃ Nx : Hp → Prop, (∀ H', Nx H' → ∃ m', m' < m ∧ W (i + 1) m' H') ∧ ∀ x H', (ItzN zs).yld i H x H' → g x (wipe σ vs) H' fun σ2 H2 => wipe σ2 vs = wipe σ vs ∧ tt σ2 H2 fun b H3 =>
        if b = true then te σ2 H3 fun y H4 => ∃ acc, H4 D = some (.lst acc) ∧ acc.length < sizeLine ∧ Nx (upd H4 D (.lst (acc ++ [y]))) else Nx H3) := by
  refine ⟨fun i m H => m = n - i ∧ i ≤ n ∧ Pv i H, ⟨n, by simp, Nat.zero_le _, hP⟩, ?_⟩
  rintro i m H ⟨rfl, hi, p⟩
  by_cases hlt : i < n
  · refine .inr ⟨fun z hz => by rw [hn z hz]; exact hlt, Pv (i + 1), fun H' p' => ⟨n - (i + 1), by omega, rfl, hlt, p'⟩, fun x H' y => ?_⟩
    obtain ⟨T, rfl, nT, rfl⟩ := y
    exact hs i H T hlt p nT
  · have e : i = n := by omega
    subst e
    refine .inl ⟨?_, hd H p⟩
    cases zs with
    | nil => exact absurd h0 (Nat.lt_irrefl _)
    | cons z r => exact ⟨z, r, rfl, hn z List.mem_cons_self⟩
end L2X
/-! fields as a function of the dots, and what holds of them -/
namespace Fl
/-- a box -/
structure Bx where
  t : Nat
  l : Nat
  h : Nat
  w : Nat
deriving DecidableEq
def Bx.flip (b : Bx) : Bx := ⟨b.l, b.t, b.w, b.h⟩
theorem Bx.flip_flip (b : Bx) : b.flip.flip = b := rfl
theorem Bx.flip_inj {a b : Bx} (h : a.flip = b.flip) : a = b := by
  have := congrArg Bx.flip h
  exact this
def Bx.In (b : Bx) (r c : Nat) : Prop := b.t ≤ r ∧ r < b.t + b.h ∧ b.l ≤ c ∧ c < b.l + b.w
def Bx.area (b : Bx) : Nat := b.h * b.w
abbrev Dots := Nat → Nat → Bool
def tr (D : Dots) : Dots := fun c r => D r c
def rowHas (D : Dots) (l w r : Nat) : Bool := (List.range w).any fun j => D r (l + j)
theorem rowHas_iff {D : Dots} {l w r : Nat} : rowHas D l w r = true ↔ ∃ c, l ≤ c ∧ c < l + w ∧ D r c = true := by
  unfold rowHas
  rw [List.any_eq_true]
  constructor
  · rintro ⟨j, hj, h⟩
    have := List.mem_range.mp hj
    exact ⟨l + j, by omega, by omega, h⟩
  · rintro ⟨c, h1, h2, h⟩
    refine ⟨c - l, List.mem_range.mpr (by omega), ?_⟩
    rw [show l + (c - l) = c by omega]
    exact h
/-- the rows that have a dot, from the first one of the box on -/
def dr (D : Dots) (t l h w : Nat) : List Nat := (List.range h).filter fun i => rowHas D l w (t + i)
theorem mem_dr {D : Dots} {t l h w i : Nat} : i ∈ dr D t l h w ↔ i < h ∧ ∃ c, l ≤ c ∧ c < l + w ∧ D (t + i) c = true := by
  unfold dr
  rw [List.mem_filter, List.mem_range, rowHas_iff]
theorem dr_sorted (D : Dots) (t l h w : Nat) : (dr D t l h w).Pairwise (· < ·) := List.pairwise_lt_range.filter _
/-- the numbers that stand together -/
def strR (least : Nat) : Nat → Nat → List Nat → List (Nat × Nat)
  | s, p, [] => [(s, p + 1)]
  | s, p, n :: ns => if n - p > least then (s, p + 1) :: strR least n n ns else strR least s n ns
def stretch (least : Nat) : List Nat → List (Nat × Nat)
  | [] => []
  | n :: ns => strR least n n ns
/-- what is asked of stretches -/
structure StrOk (least : Nat) (ns : List Nat) (ps : List (Nat × Nat)) : Prop where
  ends : ∀ p ∈ ps, p.1 < p.2 ∧ p.1 ∈ ns ∧ p.2 - 1 ∈ ns
  cov : ∀ n ∈ ns, ∃ p ∈ ps, p.1 ≤ n ∧ n < p.2
  gap : ps.Pairwise fun p q => p.2 + least ≤ q.1
  solid : ∀ p ∈ ps, ∀ i ∈ ns, ∀ k ∈ ns, p.1 ≤ i → k < p.2 → i + least < k → ∃ j ∈ ns, i < j ∧ j < k
theorem strR_ok (least : Nat) : ∀ (ns : List Nat) (s p : Nat), s ≤ p → (p :: ns).Pairwise (· < ·) →
    (∀ q ∈ strR least s p ns, s ≤ q.1 ∧ q.1 < q.2 ∧ (q.1 = s ∨ q.1 ∈ ns) ∧ (q.2 - 1 ∈ p :: ns)) ∧
    (∀ n, (s ≤ n ∧ n ≤ p) ∨ n ∈ ns → ∃ q ∈ strR least s p ns, q.1 ≤ n ∧ n < q.2) ∧
    (strR least s p ns).Pairwise (fun a b => a.2 + least ≤ b.1) ∧
    (∀ q ∈ strR least s p ns, ∀ i ∈ p :: ns, ∀ k ∈ p :: ns, q.1 ≤ i → k < q.2 → i + least < k → ∃ j ∈ p :: ns, i < j ∧ j < k)
  | [], s, p, hs, _ => by
    refine ⟨fun q hq => ?_, fun n hn => ?_, List.pairwise_singleton _ _, fun q hq i hi k hk _ _ h => ?_⟩
    · rw [strR, List.mem_singleton] at hq
      subst hq
      exact ⟨Nat.le_refl _, by show s < p + 1; omega, .inl rfl, by show p + 1 - 1 ∈ [p]; simp⟩
    · rcases hn with hn | hn
      · exact ⟨(s, p + 1), by simp [strR], hn.1, by show n < p + 1; omega⟩
      · cases hn
    · rw [List.mem_singleton] at hi hk
      omega
  | n :: ns, s, p, hs, hp => by
    have hpn := (List.pairwise_cons.mp hp).1 n List.mem_cons_self
    have hn := (List.pairwise_cons.mp hp).2
    have hnn := (List.pairwise_cons.mp hn).1
    rw [strR]
    by_cases hg : n - p > least
    · rw [if_pos hg]
      obtain ⟨a1, a2, a3, a4⟩ := strR_ok least ns n n (Nat.le_refl _) hn
      refine ⟨fun q hq => ?_, fun m hm => ?_, List.pairwise_cons.mpr ⟨fun q hq => ?_, a3⟩, fun q hq i hi k hk h1 h2 h3 => ?_⟩
      · rcases List.mem_cons.mp hq with rfl | hq
        · exact ⟨Nat.le_refl _, by show s < p + 1; omega, .inl rfl, by show p + 1 - 1 ∈ _; simp⟩
        · obtain ⟨b1, b2, b3, b4⟩ := a1 q hq
          refine ⟨by omega, b2, .inr ?_, List.mem_cons_of_mem _ b4⟩
          rcases b3 with b3 | b3
          · rw [b3]
            exact List.mem_cons_self
          · exact List.mem_cons_of_mem _ b3
      · rcases hm with hm | hm
        · exact ⟨(s, p + 1), List.mem_cons_self, hm.1, by show m < p + 1; omega⟩
        · obtain ⟨q, hq, h⟩ := a2 m (by
            rcases List.mem_cons.mp hm with rfl | hm
            · exact .inl ⟨Nat.le_refl _, Nat.le_refl _⟩
            · exact .inr hm)
          exact ⟨q, List.mem_cons_of_mem _ hq, h⟩
      · have := (a1 q hq).1
        show p + 1 + least ≤ q.1
        omega
      · rcases List.mem_cons.mp hq with rfl | hq
        · have h1' : s ≤ i := h1
          have h2' : k < p + 1 := h2
          have ek : k = p := by
            rcases List.mem_cons.mp hk with e | hk
            · exact e
            · rcases List.mem_cons.mp hk with rfl | hk
              · omega
              · have := hnn k hk
                omega
          have : p ≤ i := by
            rcases List.mem_cons.mp hi with e | hi
            · omega
            · rcases List.mem_cons.mp hi with rfl | hi
              · omega
              · have := hnn i hi
                omega
          omega
        · have hq1 := (a1 q hq).1
          have hi' : i ∈ n :: ns := by
            rcases List.mem_cons.mp hi with e | hi
            · omega
            · exact hi
          have hk' : k ∈ n :: ns := by
            rcases List.mem_cons.mp hk with e | hk
            · have : n ≤ i := by
                rcases List.mem_cons.mp hi' with e | hi'
                · omega
                · have := hnn i hi'
                  omega
              omega
            · exact hk
          obtain ⟨j, hj, hh⟩ := a4 q hq i hi' k hk' h1 h2 h3
          exact ⟨j, List.mem_cons_of_mem _ hj, hh⟩
    · rw [if_neg hg]
      obtain ⟨a1, a2, a3, a4⟩ := strR_ok least ns s n (by omega) hn
      refine ⟨fun q hq => ?_, fun m hm => ?_, a3, fun q hq i hi k hk h1 h2 h3 => ?_⟩
      · obtain ⟨b1, b2, b3, b4⟩ := a1 q hq
        exact ⟨b1, b2, b3.imp id (List.mem_cons_of_mem _), List.mem_cons_of_mem _ b4⟩
      · refine a2 m ?_
        rcases hm with hm | hm
        · exact .inl ⟨hm.1, by omega⟩
        · rcases List.mem_cons.mp hm with rfl | hm
          · exact .inl ⟨by omega, Nat.le_refl _⟩
          · exact .inr hm
      · by_cases e : i = p
        · subst e
          by_cases ek : k = n
          · omega
          · refine ⟨n, List.mem_cons_of_mem _ List.mem_cons_self, hpn, ?_⟩
            rcases List.mem_cons.mp hk with e2 | hk
            · omega
            · rcases List.mem_cons.mp hk with e2 | hk
              · exact absurd e2 ek
              · exact hnn k hk
        · have hi' : i ∈ n :: ns := by
            rcases List.mem_cons.mp hi with e2 | hi
            · exact absurd e2 e
            · exact hi
          have hk' : k ∈ n :: ns := by
            rcases List.mem_cons.mp hk with e2 | hk
            · have : n ≤ i := by
                rcases List.mem_cons.mp hi' with e | hi'
                · omega
                · have := hnn i hi'
                  omega
              omega
            · exact hk
          obtain ⟨j, hj, hh⟩ := a4 q hq i hi' k hk' h1 h2 h3
          exact ⟨j, List.mem_cons_of_mem _ hj, hh⟩
theorem stretch_ok (least : Nat) {ns : List Nat} (h : ns.Pairwise (· < ·)) : StrOk least ns (stretch least ns) := by
  cases ns with
  | nil => exact ⟨(fun p hp => nomatch hp), (fun n hn => nomatch hn), List.Pairwise.nil, (fun p hp => nomatch hp)⟩
  | cons n ns =>
    obtain ⟨a1, a2, a3, a4⟩ := strR_ok least ns n n (Nat.le_refl _) h
    refine ⟨fun p hp => ?_, fun m hm => ?_, a3, a4⟩
    · obtain ⟨b1, b2, b3, b4⟩ := a1 p hp
      refine ⟨b2, ?_, b4⟩
      rcases b3 with b3 | b3
      · rw [b3]
        exact List.mem_cons_self
      · exact List.mem_cons_of_mem _ b3
    · refine a2 m ?_
      rcases List.mem_cons.mp hm with rfl | hm
      · exact .inl ⟨Nat.le_refl _, Nat.le_refl _⟩
      · exact .inr hm
/-- the part of a stretch of rows, trimmed to its dots -/
def part1 (D : Dots) (t l w : Nat) (p : Nat × Nat) : Bx :=
  ⟨t + p.1, l + (dr (tr D) l (t + p.1) w (p.2 - p.1)).headD 0, p.2 - p.1, (dr (tr D) l (t + p.1) w (p.2 - p.1)).getLastD 0 + 1 - (dr (tr D) l (t + p.1) w (p.2 - p.1)).headD 0⟩
def parted (D : Dots) (least : Nat) (b : Bx) : List Bx := (stretch least (dr D b.t b.l b.h b.w)).map (part1 D b.t b.l b.w)
def stepF (D : Dots) (d a : Nat) (bs : List Bx) : List Bx := (bs.flatMap (parted D d)).flatMap fun p => (parted (tr D) a p.flip).map Bx.flip
/-- the ends of a rising list -/
theorem head_le : ∀ {ns : List Nat}, ns.Pairwise (· < ·) → ∀ n ∈ ns, ns.headD 0 ≤ n
  | [], _, _, h => nomatch h
  | m :: ms, hp, n, h => by
    rcases List.mem_cons.mp h with rfl | h
    · exact Nat.le_refl _
    · exact Nat.le_of_lt ((List.pairwise_cons.mp hp).1 n h)
theorem le_last : ∀ {ns : List Nat}, ns.Pairwise (· < ·) → ∀ n ∈ ns, n ≤ ns.getLastD 0
  | [], _, _, h => nomatch h
  | [m], _, n, h => by
    rw [List.mem_singleton.mp h]
    exact Nat.le_refl _
  | m :: k :: ms, hp, n, h => by
    have hp2 := (List.pairwise_cons.mp hp).2
    show n ≤ (k :: ms).getLastD 0
    rcases List.mem_cons.mp h with rfl | h
    · exact Nat.le_trans (Nat.le_of_lt ((List.pairwise_cons.mp hp).1 k List.mem_cons_self)) (le_last hp2 k List.mem_cons_self)
    · exact le_last hp2 n h
theorem head_mem {ns : List Nat} (h : ns ≠ []) : ns.headD 0 ∈ ns := by
  cases ns with
  | nil => exact absurd rfl h
  | cons n ns => exact List.mem_cons_self
theorem last_mem : ∀ {ns : List Nat}, ns ≠ [] → ns.getLastD 0 ∈ ns
  | [], h => absurd rfl h
  | [m], _ => List.mem_cons_self
  | m :: k :: ms, _ => by
    show (k :: ms).getLastD 0 ∈ _
    exact List.mem_cons_of_mem _ (last_mem (by simp))
/-- all that holds of the parts -/
structure PartOk (D : Dots) (b : Bx) (s e : Nat) (p : Bx) : Prop where
  t : p.t = b.t + s
  h : p.h = e - s
  l : b.l ≤ p.l
  w : 1 ≤ p.w
  r : p.l + p.w ≤ b.l + b.w
  ins : ∀ r c, D r c = true → b.t + s ≤ r → r < b.t + e → b.l ≤ c → c < b.l + b.w → p.l ≤ c ∧ c < p.l + p.w
  le : ∃ r, b.t + s ≤ r ∧ r < b.t + e ∧ D r p.l = true
  re : ∃ r, b.t + s ≤ r ∧ r < b.t + e ∧ D r (p.l + p.w - 1) = true
theorem part1_ok {D : Dots} {b : Bx} {s e : Nat} (hse : s < e) (hs : s ∈ dr D b.t b.l b.h b.w) : PartOk D b s e (part1 D b.t b.l b.w (s, e)) := by
  obtain ⟨_, c, c1, c2, hd⟩ := mem_dr.mp hs
  have hne : dr (tr D) b.l (b.t + s) b.w (e - s) ≠ [] := by
    intro z
    have hm : c - b.l ∈ dr (tr D) b.l (b.t + s) b.w (e - s) := mem_dr.mpr ⟨by omega, b.t + s, by omega, by omega, by
      show D _ _ = true
      rw [show b.l + (c - b.l) = c by omega]
      exact hd⟩
    rw [z] at hm
    cases hm
  have srt := dr_sorted (tr D) b.l (b.t + s) b.w (e - s)
  have hm := head_mem hne
  have lm := last_mem hne
  have hl := le_last srt _ hm
  obtain ⟨h1, r1, h2, h3, h4⟩ := mem_dr.mp hm
  obtain ⟨l1, r2, l2, l3, l4⟩ := mem_dr.mp lm
  have e0 : part1 D b.t b.l b.w (s, e) = ⟨b.t + s, b.l + (dr (tr D) b.l (b.t + s) b.w (e - s)).headD 0, e - s, (dr (tr D) b.l (b.t + s) b.w (e - s)).getLastD 0 + 1 - (dr (tr D) b.l (b.t + s) b.w (e - s)).headD 0⟩ := rfl
  rw [e0]
  refine ⟨rfl, rfl, ?_, ?_, ?_, fun r c hd r1 r2 c1 c2 => ?_, ⟨r1, h2, by omega, h4⟩, ⟨r2, l2, by omega, ?_⟩⟩
  · show b.l ≤ b.l + (dr (tr D) b.l (b.t + s) b.w (e - s)).headD 0
    omega
  · show 1 ≤ (dr (tr D) b.l (b.t + s) b.w (e - s)).getLastD 0 + 1 - (dr (tr D) b.l (b.t + s) b.w (e - s)).headD 0
    omega
  · show b.l + (dr (tr D) b.l (b.t + s) b.w (e - s)).headD 0 + ((dr (tr D) b.l (b.t + s) b.w (e - s)).getLastD 0 + 1 - (dr (tr D) b.l (b.t + s) b.w (e - s)).headD 0) ≤ b.l + b.w
    omega
  · have mm : c - b.l ∈ dr (tr D) b.l (b.t + s) b.w (e - s) := mem_dr.mpr ⟨by omega, r, by omega, by omega, by
      show D _ _ = true
      rw [show b.l + (c - b.l) = c by omega]
      exact hd⟩
    have a := head_le srt _ mm
    have z := le_last srt _ mm
    show b.l + (dr (tr D) b.l (b.t + s) b.w (e - s)).headD 0 ≤ c ∧ c < b.l + (dr (tr D) b.l (b.t + s) b.w (e - s)).headD 0 + ((dr (tr D) b.l (b.t + s) b.w (e - s)).getLastD 0 + 1 - (dr (tr D) b.l (b.t + s) b.w (e - s)).headD 0)
    omega
  · show D r2 (b.l + (dr (tr D) b.l (b.t + s) b.w (e - s)).headD 0 + ((dr (tr D) b.l (b.t + s) b.w (e - s)).getLastD 0 + 1 - (dr (tr D) b.l (b.t + s) b.w (e - s)).headD 0) - 1) = true
    rw [show b.l + (dr (tr D) b.l (b.t + s) b.w (e - s)).headD 0 + ((dr (tr D) b.l (b.t + s) b.w (e - s)).getLastD 0 + 1 - (dr (tr D) b.l (b.t + s) b.w (e - s)).headD 0) - 1 = b.l + (dr (tr D) b.l (b.t + s) b.w (e - s)).getLastD 0 by omega]
    exact l4
/-- the parts of a box -/
structure PtsOk (D : Dots) (least : Nat) (b : Bx) (ps : List Bx) : Prop where
  each : ∀ p ∈ ps, ∃ s e, s < e ∧ e ≤ b.h ∧ s ∈ dr D b.t b.l b.h b.w ∧ e - 1 ∈ dr D b.t b.l b.h b.w ∧ PartOk D b s e p
  cov : ∀ r c, D r c = true → b.In r c → ∃ p ∈ ps, p.In r c
  gap : ps.Pairwise fun p q => p.t + p.h + least ≤ q.t
theorem parted_ok (D : Dots) (least : Nat) (b : Bx) : PtsOk D least b (parted D least b) := by
  have S := stretch_ok least (dr_sorted D b.t b.l b.h b.w)
  refine ⟨fun p hp => ?_, fun r c hd hi => ?_, ?_⟩
  · obtain ⟨⟨s, e⟩, hq, rfl⟩ := List.mem_map.mp hp
    obtain ⟨h1, h2, h3⟩ := S.ends _ hq
    have := (mem_dr.mp h3).1
    exact ⟨s, e, h1, by have h1' : s < e := h1; have t2 : e - 1 < b.h := this; omega, h2, h3, part1_ok h1 h2⟩
  · obtain ⟨i1, i2, i3, i4⟩ := hi
    have hm : r - b.t ∈ dr D b.t b.l b.h b.w := mem_dr.mpr ⟨by omega, c, i3, i4, by
      rw [show b.t + (r - b.t) = r by omega]
      exact hd⟩
    obtain ⟨⟨s, e⟩, hq, q1, q2⟩ := S.cov _ hm
    obtain ⟨h1, h2, h3⟩ := S.ends _ hq
    have q1' : s ≤ r - b.t := q1
    have q2' : r - b.t < e := q2
    have h1' : s < e := h1
    have P : PartOk D b s e (part1 D b.t b.l b.w (s, e)) := part1_ok h1 h2
    refine ⟨part1 D b.t b.l b.w (s, e), List.mem_map.mpr ⟨(s, e), hq, rfl⟩, ?_⟩
    generalize part1 D b.t b.l b.w (s, e) = p at P ⊢
    obtain ⟨w1, w2⟩ := P.ins r c hd (by omega) (by omega) i3 i4
    have ht := P.t
    have hh := P.h
    exact ⟨by omega, by omega, w1, w2⟩
  · unfold parted
    rw [List.pairwise_map]
    refine S.gap.imp_of_mem fun {p q} hp hq h => ?_
    have := (S.ends p hp).1
    show b.t + p.1 + (p.2 - p.1) + least ≤ b.t + q.1
    omega
/-! ### how great they are -/
def areas (bs : List Bx) : Nat := (bs.map Bx.area).sum
theorem areas_app (a b : List Bx) : areas (a ++ b) = areas a + areas b := by
  unfold areas
  rw [List.map_append, List.sum_append]
theorem flip_area (b : Bx) : b.flip.area = b.area := Nat.mul_comm _ _
theorem areas_flip (bs : List Bx) : areas (bs.map Bx.flip) = areas bs := by
  unfold areas
  rw [List.map_map]
  congr 1
  exact List.map_congr_left fun b _ => flip_area b
/-- row ranges one behind another, within so many rows: their heights together, and what it is where nothing lacks -/
theorem heights_le : ∀ (ps : List Bx) (t h w : Nat), (∀ p ∈ ps, t ≤ p.t ∧ p.t + p.h ≤ t + h ∧ p.w ≤ w ∧ 1 ≤ p.h) → ps.Pairwise (fun p q => p.t + p.h + 1 ≤ q.t) → areas ps ≤ h * w
  | [], _, _, _, _, _ => Nat.zero_le _
  | p :: ps, t, h, w, hin, hp => by
    obtain ⟨h1, h2, h3, h4⟩ := hin p List.mem_cons_self
    have hpp := (List.pairwise_cons.mp hp).1
    have ih := heights_le ps (p.t + p.h) (t + h - (p.t + p.h)) w (fun q hq => by
      have a := hpp q hq
      obtain ⟨b1, b2, b3, b4⟩ := hin q (List.mem_cons_of_mem _ hq)
      exact ⟨by omega, by omega, b3, b4⟩) (List.pairwise_cons.mp hp).2
    have e : areas (p :: ps) = p.h * p.w + areas ps := rfl
    rw [e]
    have m1 : p.h * p.w ≤ p.h * w := Nat.mul_le_mul_left _ h3
    have m2 : p.h * w + (t + h - (p.t + p.h)) * w ≤ h * w := by
      rw [← Nat.add_mul]
      exact Nat.mul_le_mul_right _ (by omega)
    omega
theorem parted_area {D : Dots} {least : Nat} {b : Bx} (l1 : 1 ≤ least) : areas (parted D least b) ≤ b.area := by
  have P := parted_ok D least b
  refine heights_le _ b.t b.h b.w (fun p hp => ?_) (P.gap.imp fun h => by omega)
  obtain ⟨s, e, h1, h2, _, _, Q⟩ := P.each p hp
  have := Q.t
  have := Q.h
  have := Q.r
  have := Q.l
  exact ⟨by omega, by omega, by omega, by omega⟩
/-- a box that is parted to as much is parted to itself -/
theorem parted_same {D : Dots} {least : Nat} {b : Bx} (l1 : 1 ≤ least) (h1 : 1 ≤ b.h) (w1 : 1 ≤ b.w) (h : b.area ≤ areas (parted D least b)) : parted D least b = [b] := by
  have P := parted_ok D least b
  have inn : ∀ p ∈ parted D least b, b.t ≤ p.t ∧ p.t + p.h ≤ b.t + b.h ∧ p.w ≤ b.w ∧ 1 ≤ p.h ∧ b.l ≤ p.l ∧ p.l + p.w ≤ b.l + b.w := fun p hp => by
    obtain ⟨s, e, h1, h2, _, _, Q⟩ := P.each p hp
    have := Q.t
    have := Q.h
    have := Q.r
    have := Q.l
    exact ⟨by omega, by omega, by omega, by omega, by omega, by omega⟩
  have gap := P.gap
  generalize parted D least b = ps at h inn gap
  cases ps with
  | nil =>
    have : b.area ≤ 0 := h
    have h2 : 1 * 1 ≤ b.h * b.w := Nat.mul_le_mul h1 w1
    have : b.h * b.w ≤ 0 := this
    omega
  | cons p ps =>
    obtain ⟨i1, i2, i3, i4, i5, i6⟩ := inn p List.mem_cons_self
    have hpp := (List.pairwise_cons.mp gap).1
    have ea : areas (p :: ps) = p.h * p.w + areas ps := rfl
    rw [ea] at h
    have hA : b.area = b.h * b.w := rfl
    rw [hA] at h
    have m1 : p.h * p.w ≤ p.h * b.w := Nat.mul_le_mul_left _ i3
    cases ps with
    | nil =>
      have e0 : areas [] = 0 := rfl
      rw [e0] at h
      have e1 : p.h = b.h := by
        rcases Nat.lt_or_ge p.h b.h with z | z
        · exfalso
          have : (p.h + 1) * b.w ≤ b.h * b.w := Nat.mul_le_mul_right _ z
          rw [Nat.succ_mul] at this
          omega
        · omega
      have e2 : p.w = b.w := by
        rcases Nat.lt_or_ge p.w b.w with z | z
        · exfalso
          have : p.h * (p.w + 1) ≤ p.h * b.w := Nat.mul_le_mul_left _ z
          rw [Nat.mul_succ] at this
          rw [e1] at this h
          omega
        · omega
      have : p = b := by
        cases p
        cases b
        simp only [Bx.mk.injEq] at *
        omega
      rw [this]
    | cons q qs =>
      exfalso
      have hq := hpp q List.mem_cons_self
      obtain ⟨j1, j2, j3, j4, j5, j6⟩ := inn q (List.mem_cons_of_mem _ List.mem_cons_self)
      have rest := heights_le (q :: qs) q.t (b.t + b.h - q.t) b.w (fun x hx => by
        obtain ⟨k1, k2, k3, k4, _, _⟩ := inn x (List.mem_cons_of_mem _ hx)
        refine ⟨?_, by omega, k3, k4⟩
        rcases List.mem_cons.mp hx with rfl | hx
        · exact Nat.le_refl _
        · have := (List.pairwise_cons.mp (List.pairwise_cons.mp gap).2).1 x hx
          omega) ((List.pairwise_cons.mp gap).2.imp fun h => by omega)
      have m2 : p.h * b.w + (b.t + b.h - q.t) * b.w + 1 * b.w ≤ b.h * b.w := by
        rw [← Nat.add_mul, ← Nat.add_mul]
        exact Nat.mul_le_mul_right _ (by omega)
      omega
end Fl
namespace Fl
/-! ### going on till nothing changes -/
def whole (H W : Nat) : Bx := ⟨0, 0, H, W⟩
def it (D : Dots) (d a : Nat) : Nat → List Bx → List Bx
  | 0, bs => bs
  | n + 1, bs => it D d a n (stepF D d a bs)
theorem it_fix {D : Dots} {d a : Nat} {bs : List Bx} (h : stepF D d a bs = bs) : ∀ n, it D d a n bs = bs
  | 0 => rfl
  | n + 1 => by rw [it, h, it_fix h n]
theorem it_add (D : Dots) (d a : Nat) : ∀ (n m : Nat) (bs : List Bx), it D d a (n + m) bs = it D d a m (it D d a n bs)
  | 0, m, bs => by rw [Nat.zero_add]; rfl
  | n + 1, m, bs => by rw [show n + 1 + m = (n + m) + 1 by omega, it, it, it_add D d a n m]
theorem it_succ (D : Dots) (d a n : Nat) (bs : List Bx) : it D d a (n + 1) bs = stepF D d a (it D d a n bs) := by
  rw [it_add D d a n 1 bs]
  rfl
/-- the fields -/
def Flds (D : Dots) (d a H W : Nat) (bs : List Bx) : Prop := stepF D d a bs = bs ∧ ∃ n, bs = it D d a n [whole H W]
theorem Flds.uniq {D : Dots} {d a H W : Nat} {bs cs : List Bx} (h : Flds D d a H W bs) (g : Flds D d a H W cs) : bs = cs := by
  obtain ⟨h1, n, h2⟩ := h
  obtain ⟨g1, m, g2⟩ := g
  rcases Nat.le_total n m with l | l
  · have : it D d a m [whole H W] = bs := by
      rw [show m = n + (m - n) by omega, it_add, ← h2]
      exact it_fix h1 _
    rw [g2, this]
  · have : it D d a n [whole H W] = cs := by
      rw [show n = m + (n - m) by omega, it_add, ← g2]
      exact it_fix g1 _
    rw [h2, this]
theorem flat_area {f : Bx → List Bx} : ∀ (bs : List Bx), (∀ b ∈ bs, areas (f b) ≤ b.area ∧ (b.area ≤ areas (f b) → f b = [b])) → areas (bs.flatMap f) ≤ areas bs ∧ (areas bs ≤ areas (bs.flatMap f) → ∀ b ∈ bs, f b = [b])
  | [], _ => ⟨Nat.le_refl _, fun _ b h => nomatch h⟩
  | b :: bs, h => by
    obtain ⟨h1, h2⟩ := h b List.mem_cons_self
    obtain ⟨i1, i2⟩ := flat_area bs fun c hc => h c (List.mem_cons_of_mem _ hc)
    have e : areas ((b :: bs).flatMap f) = areas (f b) + areas (bs.flatMap f) := by rw [List.flatMap_cons, areas_app]
    have e2 : areas (b :: bs) = b.area + areas bs := rfl
    rw [e, e2]
    refine ⟨by omega, fun hh c hc => ?_⟩
    rcases List.mem_cons.mp hc with rfl | hc
    · exact h2 (by omega)
    · exact i2 (by omega) c hc
theorem flat_same {f : Bx → List Bx} : ∀ (bs : List Bx), (∀ b ∈ bs, f b = [b]) → bs.flatMap f = bs
  | [], _ => rfl
  | b :: bs, h => by
    rw [List.flatMap_cons, h b List.mem_cons_self, flat_same bs fun c hc => h c (List.mem_cons_of_mem _ hc)]
    rfl
/-- of a row and a column at least -/
def Dim (bs : List Bx) : Prop := ∀ b ∈ bs, 1 ≤ b.h ∧ 1 ≤ b.w
theorem parted_dim (D : Dots) (least : Nat) (b : Bx) : Dim (parted D least b) := fun p hp => by
  obtain ⟨s, e, h1, h2, _, _, Q⟩ := (parted_ok D least b).each p hp
  have := Q.h
  exact ⟨by omega, Q.w⟩
theorem flat_dim {f : Bx → List Bx} {bs : List Bx} (h : ∀ b, Dim (f b)) : Dim (bs.flatMap f) := fun p hp => by
  obtain ⟨b, _, hp⟩ := List.mem_flatMap.mp hp
  exact h b p hp
abbrev cols (D : Dots) (a : Nat) : Bx → List Bx := fun p => (parted (tr D) a p.flip).map Bx.flip
theorem cols_dim (D : Dots) (a : Nat) (b : Bx) : Dim (cols D a b) := fun p hp => by
  obtain ⟨q, hq, rfl⟩ := List.mem_map.mp hp
  have := parted_dim (tr D) a b.flip q hq
  exact ⟨this.2, this.1⟩
theorem step_dim (D : Dots) (d a : Nat) (bs : List Bx) : Dim (stepF D d a bs) := flat_dim fun b => cols_dim D a b
theorem row_area {D : Dots} {d : Nat} (d1 : 1 ≤ d) {b : Bx} (h : 1 ≤ b.h ∧ 1 ≤ b.w) : areas (parted D d b) ≤ b.area ∧ (b.area ≤ areas (parted D d b) → parted D d b = [b]) :=
  ⟨parted_area d1, parted_same d1 h.1 h.2⟩
theorem col_area {D : Dots} {a : Nat} (a1 : 1 ≤ a) {b : Bx} (h : 1 ≤ b.h ∧ 1 ≤ b.w) : areas (cols D a b) ≤ b.area ∧ (b.area ≤ areas (cols D a b) → cols D a b = [b]) := by
  obtain ⟨h1, h2⟩ := row_area (D := tr D) a1 (b := b.flip) ⟨h.2, h.1⟩
  refine ⟨by rw [areas_flip, ← flip_area b]; exact h1, fun hh => ?_⟩
  rw [areas_flip, ← flip_area b] at hh
  show (parted (tr D) a b.flip).map Bx.flip = [b]
  rw [h2 hh]
  rfl
theorem step_area {D : Dots} {d a : Nat} (d1 : 1 ≤ d) (a1 : 1 ≤ a) {bs : List Bx} (h : Dim bs) : areas (stepF D d a bs) ≤ areas bs ∧ (areas bs ≤ areas (stepF D d a bs) → ∀ b ∈ bs, parted D d b = [b] ∧ cols D a b = [b]) := by
  have h1 := flat_area (f := parted D d) bs fun b hb => row_area (D := D) d1 (h b hb)
  have dm : Dim (bs.flatMap (parted D d)) := flat_dim fun b => parted_dim D d b
  have h2 := flat_area (f := cols D a) (bs.flatMap (parted D d)) fun b hb => col_area (D := D) a1 (dm b hb)
  have e : stepF D d a bs = (bs.flatMap (parted D d)).flatMap (cols D a) := rfl
  rw [e]
  refine ⟨by omega, fun hh => ?_⟩
  have g1 := h1.2 (by omega)
  have s1 := flat_same bs g1
  have g2 := h2.2 (by omega)
  rw [s1] at g2
  exact fun b hb => ⟨g1 b hb, g2 b hb⟩
theorem step_same {D : Dots} {d a : Nat} {bs : List Bx} (h : ∀ b ∈ bs, parted D d b = [b] ∧ cols D a b = [b]) : stepF D d a bs = bs := by
  have e : stepF D d a bs = (bs.flatMap (parted D d)).flatMap (cols D a) := rfl
  rw [e, flat_same bs fun b hb => (h b hb).1, flat_same bs fun b hb => (h b hb).2]
theorem fix_each {D : Dots} {d a : Nat} (d1 : 1 ≤ d) (a1 : 1 ≤ a) {bs : List Bx} (h : stepF D d a bs = bs) : ∀ b ∈ bs, parted D d b = [b] ∧ cols D a b = [b] := by
  have dm : Dim bs := h ▸ step_dim D d a bs
  exact (step_area d1 a1 dm).2 (by rw [h]; exact Nat.le_refl _)
/-! ### each dot in just one -/
def Apart (b q : Bx) : Prop := b.t + b.h ≤ q.t ∨ q.t + q.h ≤ b.t ∨ b.l + b.w ≤ q.l ∨ q.l + q.w ≤ b.l
def Sub (p b : Bx) : Prop := b.t ≤ p.t ∧ p.t + p.h ≤ b.t + b.h ∧ b.l ≤ p.l ∧ p.l + p.w ≤ b.l + b.w
theorem Sub.refl (b : Bx) : Sub b b := ⟨Nat.le_refl _, Nat.le_refl _, Nat.le_refl _, Nat.le_refl _⟩
theorem Sub.trans {a b c : Bx} (h : Sub a b) (g : Sub b c) : Sub a c := by
  obtain ⟨h1, h2, h3, h4⟩ := h
  obtain ⟨g1, g2, g3, g4⟩ := g
  exact ⟨by omega, by omega, by omega, by omega⟩
theorem Apart.sub {a b p q : Bx} (h : Apart a b) (hp : Sub p a) (hq : Sub q b) : Apart p q := by
  obtain ⟨p1, p2, p3, p4⟩ := hp
  obtain ⟨q1, q2, q3, q4⟩ := hq
  unfold Apart at *
  omega
structure Cut (D : Dots) (f : Bx → List Bx) : Prop where
  sub : ∀ b, ∀ p ∈ f b, Sub p b
  apart : ∀ b, (f b).Pairwise Apart
  cov : ∀ b r c, D r c = true → b.In r c → ∃ p ∈ f b, p.In r c
theorem cut_rows (D : Dots) (d : Nat) : Cut D (parted D d) := by
  refine ⟨fun b p hp => ?_, fun b => (parted_ok D d b).gap.imp fun h => .inl (by omega), fun b => (parted_ok D d b).cov⟩
  obtain ⟨s, e, h1, h2, _, _, Q⟩ := (parted_ok D d b).each p hp
  have := Q.t
  have := Q.h
  have := Q.r
  have := Q.l
  exact ⟨by omega, by omega, by omega, by omega⟩
theorem cut_cols (D : Dots) (a : Nat) : Cut D (cols D a) := by
  have C := cut_rows (tr D) a
  refine ⟨fun b p hp => ?_, fun b => ?_, fun b r c hd hi => ?_⟩
  · obtain ⟨q, hq, rfl⟩ := List.mem_map.mp hp
    obtain ⟨h1, h2, h3, h4⟩ := C.sub b.flip q hq
    exact ⟨h3, h4, h1, h2⟩
  · unfold cols
    rw [List.pairwise_map]
    refine (C.apart b.flip).imp fun {p q} h => ?_
    rcases h with h | h | h | h
    · exact .inr (.inr (.inl h))
    · exact .inr (.inr (.inr h))
    · exact .inl h
    · exact .inr (.inl h)
  · obtain ⟨i1, i2, i3, i4⟩ := hi
    obtain ⟨p, hp, j1, j2, j3, j4⟩ := C.cov b.flip c r hd ⟨i3, i4, i1, i2⟩
    exact ⟨p.flip, List.mem_map.mpr ⟨p, hp, rfl⟩, j3, j4, j1, j2⟩
/-- boxes within one box, apart, all its dots in them -/
structure Lay (D : Dots) (B : Bx) (bs : List Bx) : Prop where
  sub : ∀ b ∈ bs, Sub b B
  apart : bs.Pairwise Apart
  cov : ∀ r c, D r c = true → B.In r c → ∃ b ∈ bs, b.In r c
theorem flat_apart {f : Bx → List Bx} (hs : ∀ b, ∀ p ∈ f b, Sub p b) (ha : ∀ b, (f b).Pairwise Apart) : ∀ {bs : List Bx}, bs.Pairwise Apart → (bs.flatMap f).Pairwise Apart
  | [], _ => List.Pairwise.nil
  | b :: bs, h => by
    obtain ⟨h1, h2⟩ := List.pairwise_cons.mp h
    rw [List.flatMap_cons, List.pairwise_append]
    refine ⟨ha b, flat_apart hs ha h2, fun p hp q hq => ?_⟩
    obtain ⟨c, hc, hq⟩ := List.mem_flatMap.mp hq
    exact (h1 c hc).sub (hs b p hp) (hs c q hq)
theorem Lay.cut {D : Dots} {B : Bx} {bs : List Bx} {f : Bx → List Bx} (L : Lay D B bs) (C : Cut D f) : Lay D B (bs.flatMap f) := by
  refine ⟨fun p hp => ?_, flat_apart C.sub C.apart L.apart, fun r c hd hi => ?_⟩
  · obtain ⟨b, hb, hp⟩ := List.mem_flatMap.mp hp
    exact (C.sub b p hp).trans (L.sub b hb)
  · obtain ⟨b, hb, hi⟩ := L.cov r c hd hi
    obtain ⟨p, hp, hi⟩ := C.cov b r c hd hi
    exact ⟨p, List.mem_flatMap.mpr ⟨b, hb, hp⟩, hi⟩
theorem Lay.step {D : Dots} {B : Bx} {bs : List Bx} (d a : Nat) (L : Lay D B bs) : Lay D B (stepF D d a bs) := (L.cut (cut_rows D d)).cut (cut_cols D a)
theorem Lay.it {D : Dots} {B : Bx} (d a : Nat) : ∀ (n : Nat) {bs : List Bx}, Lay D B bs → Lay D B (it D d a n bs)
  | 0, _, L => L
  | n + 1, _, L => Lay.it d a n (L.step d a)
theorem Lay.one (D : Dots) (B : Bx) : Lay D B [B] := ⟨fun b hb => by rw [List.mem_singleton.mp hb]; exact Sub.refl B, List.pairwise_singleton _ _, fun r c _ hi => ⟨B, List.mem_singleton.mpr rfl, hi⟩⟩
theorem Flds.lay {D : Dots} {d a H W : Nat} {bs : List Bx} (h : Flds D d a H W bs) : Lay D (whole H W) bs := by
  obtain ⟨_, n, rfl⟩ := h
  exact Lay.it d a n (Lay.one D _)
/-- dots at all edges -/
structure Edg (D : Dots) (b : Bx) : Prop where
  h : 1 ≤ b.h
  w : 1 ≤ b.w
  top : ∃ c, b.l ≤ c ∧ c < b.l + b.w ∧ D b.t c = true
  bot : ∃ c, b.l ≤ c ∧ c < b.l + b.w ∧ D (b.t + b.h - 1) c = true
  lft : ∃ r, b.t ≤ r ∧ r < b.t + b.h ∧ D r b.l = true
  rgt : ∃ r, b.t ≤ r ∧ r < b.t + b.h ∧ D r (b.l + b.w - 1) = true
theorem edg_of {D : Dots} {d : Nat} {b : Bx} (h : parted D d b = [b]) : Edg D b := by
  obtain ⟨s, e, h1, h2, h3, h4, Q⟩ := (parted_ok D d b).each b (by rw [h]; exact List.mem_singleton.mpr rfl)
  have ht := Q.t
  have hh := Q.h
  obtain rfl : s = 0 := by omega
  obtain ⟨m1, c, m2, m3, m4⟩ := mem_dr.mp h3
  obtain ⟨k1, c2, k2, k3, k4⟩ := mem_dr.mp h4
  refine ⟨by omega, Q.w, ⟨c, m2, m3, m4⟩, ⟨c2, k2, k3, ?_⟩, ?_, ?_⟩
  · rw [show b.t + b.h - 1 = b.t + (e - 1) by omega]
    exact k4
  · obtain ⟨r, r1, r2, r3⟩ := Q.le
    exact ⟨r, by omega, by omega, r3⟩
  · obtain ⟨r, r1, r2, r3⟩ := Q.re
    exact ⟨r, by omega, by omega, r3⟩
/-! ### with greater bounds -/
/-- so many rows without a dot lie nowhere between -/
def Solid (D : Dots) (d : Nat) (b : Bx) : Prop := ∀ i ∈ dr D b.t b.l b.h b.w, ∀ k ∈ dr D b.t b.l b.h b.w, i + d < k → ∃ j ∈ dr D b.t b.l b.h b.w, i < j ∧ j < k
theorem solid_of {D : Dots} {d : Nat} {b : Bx} (h : parted D d b = [b]) : Solid D d b := by
  have S := stretch_ok d (dr_sorted D b.t b.l b.h b.w)
  unfold parted at h
  generalize stretch d (dr D b.t b.l b.h b.w) = st at S h
  obtain ⟨q, rfl⟩ : ∃ q, st = [q] := by
    cases st with
    | nil => cases h
    | cons q qs =>
      cases qs with
      | nil => exact ⟨q, rfl⟩
      | cons _ _ =>
        have := congrArg List.length h
        simp at this
  intro i hi k hk hik
  obtain ⟨p, hp, c1, c2⟩ := S.cov i hi
  obtain ⟨p2, hp2, c3, c4⟩ := S.cov k hk
  rw [List.mem_singleton.mp hp] at c1
  rw [List.mem_singleton.mp hp2] at c4
  exact S.solid q (List.mem_singleton.mpr rfl) i hi k hk c1 c4 hik
/-- all dots of one box are in the other -/
def DSub (D : Dots) (F B : Bx) : Prop := ∀ r c, D r c = true → F.In r c → B.In r c
theorem dsub_part {D : Dots} {d d' : Nat} {F B : Bx} (hd : d ≤ d') (S : Solid D d F) (E : Edg D F) (h : DSub D F B) : ∃ p ∈ parted D d' B, DSub D F p := by
  have P := parted_ok D d' B
  obtain ⟨c0, t1, t2, t3⟩ := E.top
  have hF := E.h
  have i0 : F.In F.t c0 := ⟨Nat.le_refl _, by omega, t1, t2⟩
  obtain ⟨p, hp, ip⟩ := P.cov _ _ t3 (h _ _ t3 i0)
  refine ⟨p, hp, ?_⟩
  -- rows of parts are apart
  have two : ∀ q ∈ parted D d' B, q = p ∨ p.t + p.h + d' ≤ q.t ∨ q.t + q.h + d' ≤ p.t := by
    intro q hq
    have g := P.gap
    clear P
    generalize parted D d' B = ps at hp hq g
    induction ps with
    | nil => cases hq
    | cons x xs ih =>
      obtain ⟨g1, g2⟩ := List.pairwise_cons.mp g
      rcases List.mem_cons.mp hq with rfl | hq
      · rcases List.mem_cons.mp hp with rfl | hp
        · exact .inl rfl
        · exact .inr (.inr (g1 p hp))
      · rcases List.mem_cons.mp hp with rfl | hp
        · exact .inr (.inl (g1 q (by assumption)))
        · exact ih hp (by assumption) g2
  have rows : ∀ n i, i ≤ n → i ∈ dr D F.t F.l F.h F.w → p.t ≤ F.t + i ∧ F.t + i < p.t + p.h := by
    intro n
    induction n with
    | zero =>
      intro i hi him
      obtain rfl : i = 0 := by omega
      exact ⟨ip.1, ip.2.1⟩
    | succ n ih =>
      intro i hi him
      by_cases hle : i ≤ n
      · exact ih i hle him
      · have hpos : 0 < i := by omega
        -- the last one ahead
        have z0 : 0 ∈ dr D F.t F.l F.h F.w := mem_dr.mpr ⟨by omega, c0, t1, t2, t3⟩
        have prev : ∃ j ∈ dr D F.t F.l F.h F.w, j < i ∧ i ≤ j + d := by
          have key : ∀ m j, i - j ≤ m → j ∈ dr D F.t F.l F.h F.w → j < i → ∃ j ∈ dr D F.t F.l F.h F.w, j < i ∧ i ≤ j + d := by
            intro m
            induction m with
            | zero => intro j h1 h2 h3; omega
            | succ m ih2 =>
              intro j h1 h2 h3
              by_cases hg : i ≤ j + d
              · exact ⟨j, h2, h3, hg⟩
              · obtain ⟨k, k1, k2, k3⟩ := S j h2 i him (by omega)
                exact ih2 k (by omega) k1 k3
          exact key (i - 0) 0 (Nat.le_refl _) z0 hpos
        obtain ⟨j, hj, j1, j2⟩ := prev
        have pj := ih j (by omega) hj
        obtain ⟨im, c, cc1, cc2, cd⟩ := mem_dr.mp him
        obtain ⟨q, hq, iq⟩ := P.cov _ _ cd (h _ _ cd ⟨by omega, by omega, cc1, cc2⟩)
        obtain ⟨q1, q2, _, _⟩ := iq
        rcases two q hq with rfl | e | e
        · exact ⟨q1, q2⟩
        · omega
        · omega
  intro r c hdot hi
  obtain ⟨i1, i2, i3, i4⟩ := hi
  have him : r - F.t ∈ dr D F.t F.l F.h F.w := mem_dr.mpr ⟨by omega, c, i3, i4, by rw [show F.t + (r - F.t) = r by omega]; exact hdot⟩
  have pr := rows _ _ (Nat.le_refl _) him
  obtain ⟨q, hq, iq⟩ := P.cov _ _ hdot (h _ _ hdot ⟨i1, i2, i3, i4⟩)
  have iq' := iq
  obtain ⟨q1, q2, _, _⟩ := iq
  rcases two q hq with rfl | e | e
  · exact iq'
  · omega
  · omega
theorem dsub_flip {D : Dots} {F B : Bx} (h : DSub D F B) : DSub (tr D) F.flip B.flip := fun r c hd hi => by
  obtain ⟨i1, i2, i3, i4⟩ := hi
  obtain ⟨j1, j2, j3, j4⟩ := h c r hd ⟨i3, i4, i1, i2⟩
  exact ⟨j3, j4, j1, j2⟩
theorem dsub_step {D : Dots} {d d' a a' : Nat} {F : Bx} (hd : d ≤ d') (ha : a ≤ a') (h1 : parted D d F = [F]) (h2 : cols D a F = [F]) {bs : List Bx} (h : ∃ B ∈ bs, DSub D F B) : ∃ B ∈ stepF D d' a' bs, DSub D F B := by
  obtain ⟨B, hB, h⟩ := h
  obtain ⟨p, hp, h⟩ := dsub_part hd (solid_of h1) (edg_of h1) h
  have h3 : parted (tr D) a F.flip = [F.flip] := by
    have e := congrArg (List.map Bx.flip) (show (parted (tr D) a F.flip).map Bx.flip = [F] from h2)
    rw [List.map_map, show Bx.flip ∘ Bx.flip = id from rfl, List.map_id] at e
    exact e
  obtain ⟨q, hq, h⟩ := dsub_part ha (solid_of h3) (edg_of h3) (dsub_flip h)
  refine ⟨q.flip, List.mem_flatMap.mpr ⟨p, List.mem_flatMap.mpr ⟨B, hB, hp⟩, List.mem_map.mpr ⟨q, hq, rfl⟩⟩, ?_⟩
  exact dsub_flip h
theorem dsub_it {D : Dots} {d d' a a' : Nat} {F : Bx} (hd : d ≤ d') (ha : a ≤ a') (h1 : parted D d F = [F]) (h2 : cols D a F = [F]) : ∀ (n : Nat) {bs : List Bx}, (∃ B ∈ bs, DSub D F B) → ∃ B ∈ it D d' a' n bs, DSub D F B
  | 0, _, h => h
  | n + 1, _, h => dsub_it hd ha h1 h2 n (dsub_step hd ha h1 h2 h)
theorem inj_len {R : Bx → Bx → Prop} (inj : ∀ b b' f, R b f → R b' f → b = b') : ∀ (cs fs : List Bx), cs.Nodup → (∀ b ∈ cs, ∃ f ∈ fs, R b f) → cs.length ≤ fs.length
  | [], _, _, _ => Nat.zero_le _
  | b :: cs, fs, nd, h => by
    obtain ⟨f, hf, hr⟩ := h b List.mem_cons_self
    obtain ⟨n1, n2⟩ := List.nodup_cons.mp nd
    have ih := inj_len inj cs (fs.erase f) n2 fun b' hb' => by
      obtain ⟨f', hf', hr'⟩ := h b' (List.mem_cons_of_mem _ hb')
      refine ⟨f', ?_, hr'⟩
      have ne : f' ≠ f := by
        rintro rfl
        have := inj b b' f' hr hr'
        exact n1 (this ▸ hb')
      exact (List.mem_erase_of_ne ne).mpr hf'
    have := List.length_erase_of_mem hf
    have hpos : 0 < fs.length := List.length_pos_of_mem hf
    rw [List.length_cons]
    omega
theorem apart_eq {b q : Bx} {r c : Nat} (hb : b.In r c) (hq : q.In r c) : ¬ Apart b q := by
  obtain ⟨b1, b2, b3, b4⟩ := hb
  obtain ⟨q1, q2, q3, q4⟩ := hq
  unfold Apart
  omega
theorem one_of {bs : List Bx} (h : bs.Pairwise Apart) {b q : Bx} (hb : b ∈ bs) (hq : q ∈ bs) {r c : Nat} (ib : b.In r c) (iq : q.In r c) : b = q := by
  induction bs with
  | nil => cases hb
  | cons x xs ih =>
    obtain ⟨h1, h2⟩ := List.pairwise_cons.mp h
    rcases List.mem_cons.mp hb with rfl | hb
    · rcases List.mem_cons.mp hq with rfl | hq
      · rfl
      · exact absurd (h1 q hq) (apart_eq ib iq)
    · rcases List.mem_cons.mp hq with rfl | hq
      · exact absurd (h1 b (by assumption)) (apart_eq iq ib)
      · exact ih h2 (by assumption) (by assumption)
theorem Flds.fewer {D : Dots} {d d' a a' H W : Nat} (d1 : 1 ≤ d) (a1 : 1 ≤ a) (hd : d ≤ d') (ha : a ≤ a') {fs cs : List Bx} (h : Flds D d a H W fs) (g : Flds D d' a' H W cs) : cs.length ≤ fs.length := by
  have L := h.lay
  have M := g.lay
  have ec := fix_each (by omega) (by omega) g.1
  have ef := fix_each d1 a1 h.1
  -- a dot of the coarse one, the fine one that it is in
  refine inj_len (R := fun b f => f ∈ fs ∧ b ∈ cs ∧ ∃ r c, D r c = true ∧ b.In r c ∧ f.In r c) ?_ cs fs ?_ ?_
  · rintro b b' f ⟨hf, hb, r, c, hdot, ib, iF⟩ ⟨_, hb', r', c', hdot', ib', iF'⟩
    obtain ⟨n, hn⟩ := g.2
    obtain ⟨B, hB, hs⟩ := dsub_it hd ha (ef f hf).1 (ef f hf).2 n (bs := [whole H W]) ⟨whole H W, List.mem_singleton.mpr rfl, fun r c _ hi => by
      obtain ⟨s1, s2, s3, s4⟩ := L.sub f hf
      obtain ⟨i1, i2, i3, i4⟩ := hi
      exact ⟨by omega, by omega, by omega, by omega⟩⟩
    rw [← hn] at hB
    have e1 := one_of M.apart hb hB ib (hs r c hdot iF)
    have e2 := one_of M.apart hb' hB ib' (hs r' c' hdot' iF')
    rw [e1, e2]
  · refine M.apart.imp_of_mem fun {b q} hb hq hap e => ?_
    subst e
    have E := edg_of (ec b hb).1
    have := E.h
    have := E.w
    unfold Apart at hap
    omega
  · intro b hb
    obtain ⟨c, c1, c2, c3⟩ := (edg_of (ec b hb).1).top
    have hh := (edg_of (ec b hb).1).h
    obtain ⟨s1, s2, s3, s4⟩ := M.sub b hb
    obtain ⟨f, hf, iF⟩ := L.cov _ _ c3 ⟨by omega, by omega, by omega, by omega⟩
    exact ⟨f, hf, hf, hb, b.t, c, c3, ⟨Nat.le_refl _, by omega, c1, c2⟩, iF⟩
end Fl
namespace Fl
/-! ### moved -/
def Bx.sh (dn ac : Nat) (b : Bx) : Bx := ⟨b.t + dn, b.l + ac, b.h, b.w⟩
theorem sh_inj {dn ac : Nat} {a b : Bx} (h : a.sh dn ac = b.sh dn ac) : a = b := by
  cases a
  cases b
  simp only [Bx.sh, Bx.mk.injEq] at *
  omega
/-- the dots of D, moved, within a region -/
def Agr (D' D : Dots) (dn ac H W : Nat) : Prop := ∀ r c, r < H → c < W → D' (r + dn) (c + ac) = D r c
theorem Agr.tr {D' D : Dots} {dn ac H W : Nat} (h : Agr D' D dn ac H W) : Agr (tr D') (tr D) ac dn W H := fun r c hr hc => h c r hc hr
theorem dr_sh {D' D : Dots} {dn ac H W t l h w : Nat} (A : Agr D' D dn ac H W) (ht : t + h ≤ H) (hl : l + w ≤ W) : dr D' (t + dn) (l + ac) h w = dr D t l h w := by
  unfold dr
  apply List.filter_congr
  intro i hi
  have hi' := List.mem_range.mp hi
  unfold rowHas
  have : ∀ j ∈ List.range w, D' (t + dn + i) (l + ac + j) = D (t + i) (l + j) := fun j hj => by
    have hj' := List.mem_range.mp hj
    rw [show t + dn + i = (t + i) + dn by omega, show l + ac + j = (l + j) + ac by omega]
    exact A _ _ (by omega) (by omega)
  apply Bool.eq_iff_iff.mpr
  rw [List.any_eq_true, List.any_eq_true]
  constructor
  · rintro ⟨j, hj, h⟩
    exact ⟨j, hj, by rw [← this j hj]; exact h⟩
  · rintro ⟨j, hj, h⟩
    exact ⟨j, hj, by rw [this j hj]; exact h⟩
theorem part1_sh {D' D : Dots} {dn ac H W t l w s e : Nat} (A : Agr D' D dn ac H W) (ht : t + e ≤ H) (hl : l + w ≤ W) (hse : s < e) : part1 D' (t + dn) (l + ac) w (s, e) = (part1 D t l w (s, e)).sh dn ac := by
  have e1 : dr (tr D') (l + ac) (t + dn + s) w (e - s) = dr (tr D) l (t + s) w (e - s) := by
    rw [show t + dn + s = (t + s) + dn by omega]
    exact dr_sh A.tr hl (by omega)
  have e0 : part1 D' (t + dn) (l + ac) w (s, e) = ⟨t + dn + s, l + ac + (dr (tr D') (l + ac) (t + dn + s) w (e - s)).headD 0, e - s, (dr (tr D') (l + ac) (t + dn + s) w (e - s)).getLastD 0 + 1 - (dr (tr D') (l + ac) (t + dn + s) w (e - s)).headD 0⟩ := rfl
  rw [e0, e1]
  show (⟨_, _, _, _⟩ : Bx) = ⟨t + s + dn, l + (dr (tr D) l (t + s) w (e - s)).headD 0 + ac, e - s, (dr (tr D) l (t + s) w (e - s)).getLastD 0 + 1 - (dr (tr D) l (t + s) w (e - s)).headD 0⟩
  rw [show t + dn + s = t + s + dn by omega, show l + ac + (dr (tr D) l (t + s) w (e - s)).headD 0 = l + (dr (tr D) l (t + s) w (e - s)).headD 0 + ac by omega]
theorem parted_sh {D' D : Dots} {dn ac H W least : Nat} {b : Bx} (A : Agr D' D dn ac H W) (ht : b.t + b.h ≤ H) (hl : b.l + b.w ≤ W) : parted D' least (b.sh dn ac) = (parted D least b).map (Bx.sh dn ac) := by
  unfold parted
  have e1 : dr D' (b.sh dn ac).t (b.sh dn ac).l (b.sh dn ac).h (b.sh dn ac).w = dr D b.t b.l b.h b.w := dr_sh A ht hl
  rw [e1, List.map_map]
  have S := stretch_ok least (dr_sorted D b.t b.l b.h b.w)
  apply List.map_congr_left
  rintro ⟨s, e⟩ hp
  obtain ⟨h1, h2, h3⟩ := S.ends _ hp
  have h1' : s < e := h1
  have h3' : e - 1 < b.h := (mem_dr.mp h3).1
  exact part1_sh A (by omega) hl h1'
theorem cols_sh {D' D : Dots} {dn ac H W a : Nat} {b : Bx} (A : Agr D' D dn ac H W) (ht : b.t + b.h ≤ H) (hl : b.l + b.w ≤ W) : cols D' a (b.sh dn ac) = (cols D a b).map (Bx.sh dn ac) := by
  have e := parted_sh (least := a) (b := b.flip) A.tr hl ht
  show (parted (tr D') a (b.sh dn ac).flip).map Bx.flip = _
  have e1 : (b.sh dn ac).flip = b.flip.sh ac dn := rfl
  rw [e1, e, List.map_map]
  show _ = ((parted (tr D) a b.flip).map Bx.flip).map _
  rw [List.map_map]
  rfl
theorem flat_map_sh {f g : Bx → List Bx} {m : Bx → Bx} : ∀ (bs : List Bx), (∀ b ∈ bs, f (m b) = (g b).map m) → (bs.map m).flatMap f = (bs.flatMap g).map m
  | [], _ => rfl
  | b :: bs, h => by
    rw [List.map_cons, List.flatMap_cons, List.flatMap_cons, List.map_append, h b List.mem_cons_self, flat_map_sh bs fun c hc => h c (List.mem_cons_of_mem _ hc)]
theorem step_sh {D' D : Dots} {dn ac H W d a : Nat} {bs : List Bx} (A : Agr D' D dn ac H W) (h : ∀ b ∈ bs, Sub b (whole H W)) : stepF D' d a (bs.map (Bx.sh dn ac)) = (stepF D d a bs).map (Bx.sh dn ac) := by
  have e : ∀ (D : Dots) bs, stepF D d a bs = (bs.flatMap (parted D d)).flatMap (cols D a) := fun _ _ => rfl
  rw [e, e, flat_map_sh (g := parted D d) bs fun b hb => ?_, flat_map_sh (g := cols D a) _ fun b hb => ?_]
  · obtain ⟨c, hc, hb⟩ := List.mem_flatMap.mp hb
    obtain ⟨s1, s2, s3, s4⟩ := ((cut_rows D d).sub c b hb).trans (h c hc)
    exact cols_sh A (by have : (whole H W).t + (whole H W).h = 0 + H := rfl; omega) (by have : (whole H W).l + (whole H W).w = 0 + W := rfl; omega)
  · obtain ⟨s1, s2, s3, s4⟩ := h b hb
    exact parted_sh A (by have : (whole H W).t + (whole H W).h = 0 + H := rfl; omega) (by have : (whole H W).l + (whole H W).w = 0 + W := rfl; omega)
/-- a field cut out is one field -/
theorem Flds.cut {D D2 : Dots} {d a H W : Nat} {bs : List Bx} (d1 : 1 ≤ d) (a1 : 1 ≤ a) (h : Flds D d a H W bs) {b : Bx} (hb : b ∈ bs) (A : Agr D D2 b.t b.l b.h b.w) : Flds D2 d a b.h b.w [whole b.h b.w] := by
  obtain ⟨h1, h2⟩ := fix_each d1 a1 h.1 b hb
  have eb : (whole b.h b.w).sh b.t b.l = b := by
    cases b
    simp [Bx.sh, whole]
  have w1 : (whole b.h b.w).t + (whole b.h b.w).h ≤ b.h := by show 0 + b.h ≤ b.h; omega
  have w2 : (whole b.h b.w).l + (whole b.h b.w).w ≤ b.w := by show 0 + b.w ≤ b.w; omega
  have k1 := parted_sh (least := d) (b := whole b.h b.w) A w1 w2
  have k2 := cols_sh (a := a) (b := whole b.h b.w) A w1 w2
  rw [eb, h1] at k1
  rw [eb, h2] at k2
  have one : ∀ ps : List Bx, [b] = ps.map (Bx.sh b.t b.l) → ps = [whole b.h b.w] := fun ps e => by
    cases ps with
    | nil => cases e
    | cons p qs =>
      cases qs with
      | nil =>
        rw [List.map_cons, List.map_nil] at e
        have e2 : b = p.sh b.t b.l := by injection e
        have : p = whole b.h b.w := sh_inj (dn := b.t) (ac := b.l) (by rw [← e2, eb])
        rw [this]
      | cons _ _ =>
        have := congrArg List.length e
        simp at this
  refine ⟨step_same fun c hc => ?_, 0, rfl⟩
  rw [List.mem_singleton.mp hc]
  exact ⟨one _ k1, one _ k2⟩
/-! ### a page in a greater white one -/
theorem srt_ext : ∀ {a b : List Nat}, a.Pairwise (· < ·) → b.Pairwise (· < ·) → (∀ n, n ∈ a ↔ n ∈ b) → a = b
  | [], [], _, _, _ => rfl
  | [], n :: _, _, _, h => by have := (h n).mpr List.mem_cons_self; cases this
  | n :: _, [], _, _, h => by have := (h n).mp List.mem_cons_self; cases this
  | n :: a, m :: b, ha, hb, h => by
    obtain ⟨a1, a2⟩ := List.pairwise_cons.mp ha
    obtain ⟨b1, b2⟩ := List.pairwise_cons.mp hb
    have e : n = m := by
      rcases List.mem_cons.mp ((h n).mp List.mem_cons_self) with e | e
      · exact e
      · rcases List.mem_cons.mp ((h m).mpr List.mem_cons_self) with e2 | e2
        · exact e2.symm
        · have := b1 n e
          have := a1 m e2
          omega
    subst e
    rw [srt_ext a2 b2 fun k => ?_]
    constructor
    · intro hk
      rcases List.mem_cons.mp ((h k).mp (List.mem_cons_of_mem _ hk)) with e | e
      · have := a1 k hk
        omega
      · exact e
    · intro hk
      rcases List.mem_cons.mp ((h k).mpr (List.mem_cons_of_mem _ hk)) with e | e
      · have := b1 k hk
        omega
      · exact e
theorem strR_add (least m : Nat) : ∀ (ns : List Nat) (s p : Nat), strR least (s + m) (p + m) (ns.map (· + m)) = (strR least s p ns).map fun q => (q.1 + m, q.2 + m)
  | [], s, p => by
    show [(s + m, p + m + 1)] = [(s + m, p + 1 + m)]
    rw [show p + m + 1 = p + 1 + m by omega]
  | n :: ns, s, p => by
    rw [List.map_cons, strR, strR]
    rw [show n + m - (p + m) = n - p by omega]
    by_cases hg : n - p > least
    · rw [if_pos hg, if_pos hg, List.map_cons, strR_add least m ns n n]
      show (s + m, p + m + 1) :: _ = (s + m, p + 1 + m) :: _
      rw [show p + m + 1 = p + 1 + m by omega]
    · rw [if_neg hg, if_neg hg, strR_add least m ns s n]
theorem stretch_add (least m : Nat) (ns : List Nat) : stretch least (ns.map (· + m)) = (stretch least ns).map fun q => (q.1 + m, q.2 + m) := by
  cases ns with
  | nil => rfl
  | cons n ns => exact strR_add least m ns n n
theorem head_add {m : Nat} : ∀ {ns : List Nat}, ns ≠ [] → (ns.map (· + m)).headD 0 = ns.headD 0 + m
  | [], h => absurd rfl h
  | _ :: _, _ => rfl
theorem last_add {m : Nat} : ∀ {ns : List Nat}, ns ≠ [] → (ns.map (· + m)).getLastD 0 = ns.getLastD 0 + m
  | [], h => absurd rfl h
  | [_], _ => rfl
  | n :: k :: ns, _ => by
    show ((k :: ns).map (· + m)).getLastD 0 = (k :: ns).getLastD 0 + m
    exact last_add (by simp)
/-- all dots of the greater one are those of the page, moved -/
structure Mov (D' D : Dots) (dn ac H W H' W' : Nat) : Prop where
  agr : Agr D' D dn ac H W
  out : ∀ r c, D' r c = true → dn ≤ r ∧ r < dn + H ∧ ac ≤ c ∧ c < ac + W
  h : dn + H ≤ H'
  w : ac + W ≤ W'
theorem Mov.dots {D' D : Dots} {dn ac H W H' W' : Nat} (M : Mov D' D dn ac H W H' W') {r c : Nat} (h : D' r c = true) : ∃ r0 c0, r = r0 + dn ∧ c = c0 + ac ∧ r0 < H ∧ c0 < W ∧ D r0 c0 = true := by
  obtain ⟨h1, h2, h3, h4⟩ := M.out r c h
  refine ⟨r - dn, c - ac, by omega, by omega, by omega, by omega, ?_⟩
  rw [← M.agr (r - dn) (c - ac) (by omega) (by omega), show r - dn + dn = r by omega, show c - ac + ac = c by omega]
  exact h
theorem dr_mov {D' D : Dots} {dn ac H W H' W' s h : Nat} (M : Mov D' D dn ac H W H' W') (hs : s + h ≤ W) : dr (tr D') 0 (s + ac) H' h = (dr (tr D) 0 s H h).map (· + dn) → True := fun _ => trivial
theorem rows_mov {D' D : Dots} {dn ac H W H' W' : Nat} (M : Mov D' D dn ac H W H' W') : dr D' 0 0 H' W' = (dr D 0 0 H W).map (· + dn) := by
  refine srt_ext (dr_sorted _ _ _ _ _) ((List.pairwise_map).mpr ((dr_sorted D 0 0 H W).imp fun h => by omega)) fun n => ?_
  rw [mem_dr, List.mem_map]
  constructor
  · rintro ⟨h1, c, _, _, hd⟩
    rw [Nat.zero_add] at hd
    obtain ⟨r0, c0, e1, e2, e3, e4, e5⟩ := M.dots hd
    exact ⟨r0, mem_dr.mpr ⟨e3, c0, by omega, by omega, by rw [Nat.zero_add]; exact e5⟩, e1.symm⟩
  · rintro ⟨r, hr, rfl⟩
    obtain ⟨h1, c, _, h3, hd⟩ := mem_dr.mp hr
    rw [Nat.zero_add] at hd
    have := M.h
    have := M.w
    refine ⟨by omega, c + ac, by omega, by omega, ?_⟩
    rw [Nat.zero_add, M.agr r c (by omega) (by omega)]
    exact hd
theorem cols_mov {D' D : Dots} {dn ac H W H' W' s n : Nat} (M : Mov D' D dn ac H W H' W') (hs : s + n ≤ H) : dr (tr D') 0 (0 + (s + dn)) W' n = (dr (tr D) 0 (0 + s) W n).map (· + ac) := by
  refine srt_ext (dr_sorted _ _ _ _ _) ((List.pairwise_map).mpr ((dr_sorted (tr D) 0 (0 + s) W n).imp fun h => by omega)) fun k => ?_
  rw [mem_dr, List.mem_map]
  constructor
  · rintro ⟨h1, r, r1, r2, hd⟩
    rw [Nat.zero_add] at hd
    obtain ⟨r0, c0, e1, e2, e3, e4, e5⟩ := M.dots (show D' r k = true from hd)
    exact ⟨c0, mem_dr.mpr ⟨e4, r0, by omega, by omega, by rw [Nat.zero_add]; exact e5⟩, e2.symm⟩
  · rintro ⟨c, hc, rfl⟩
    obtain ⟨h1, r, r1, r2, hd⟩ := mem_dr.mp hc
    rw [Nat.zero_add] at hd
    have := M.h
    have := M.w
    refine ⟨by omega, r + dn, by omega, by omega, ?_⟩
    rw [Nat.zero_add]
    show D' (r + dn) (c + ac) = true
    rw [M.agr r c (by omega) (by omega)]
    exact hd
theorem parted_mov {D' D : Dots} {dn ac H W H' W' least : Nat} (M : Mov D' D dn ac H W H' W') : parted D' least (whole H' W') = (parted D least (whole H W)).map (Bx.sh dn ac) := by
  have S := stretch_ok least (dr_sorted D 0 0 H W)
  show (stretch least (dr D' 0 0 H' W')).map (part1 D' 0 0 W') = ((stretch least (dr D 0 0 H W)).map (part1 D 0 0 W)).map (Bx.sh dn ac)
  rw [rows_mov M, stretch_add, List.map_map, List.map_map]
  apply List.map_congr_left
  rintro ⟨s, e⟩ hp
  obtain ⟨h1, h2, h3⟩ := S.ends _ hp
  have h1' : s < e := h1
  have h3' : e - 1 < H := (mem_dr.mp h3).1
  obtain ⟨_, c, c1, c2, hd⟩ := mem_dr.mp h2
  have hd' : D (0 + s) c = true := hd
  have ne : dr (tr D) 0 (0 + s) W (e - s) ≠ [] := by
    intro z
    have hm : c ∈ dr (tr D) 0 (0 + s) W (e - s) := mem_dr.mpr ⟨by omega, 0 + s, by omega, by omega, by rw [Nat.zero_add]; exact hd'⟩
    rw [z] at hm
    cases hm
  have ec := cols_mov M (s := s) (n := e - s) (by omega)
  have e0 : part1 D' 0 0 W' (s + dn, e + dn) = ⟨0 + (s + dn), 0 + (dr (tr D') 0 (0 + (s + dn)) W' (e + dn - (s + dn))).headD 0, e + dn - (s + dn), (dr (tr D') 0 (0 + (s + dn)) W' (e + dn - (s + dn))).getLastD 0 + 1 - (dr (tr D') 0 (0 + (s + dn)) W' (e + dn - (s + dn))).headD 0⟩ := rfl
  show part1 D' 0 0 W' (s + dn, e + dn) = (part1 D 0 0 W (s, e)).sh dn ac
  rw [e0, show e + dn - (s + dn) = e - s by omega, ec, head_add ne, last_add ne]
  show (⟨_, _, _, _⟩ : Bx) = ⟨0 + s + dn, 0 + (dr (tr D) 0 (0 + s) W (e - s)).headD 0 + ac, e - s, (dr (tr D) 0 (0 + s) W (e - s)).getLastD 0 + 1 - (dr (tr D) 0 (0 + s) W (e - s)).headD 0⟩
  generalize (dr (tr D) 0 (0 + s) W (e - s)).headD 0 = x
  generalize (dr (tr D) 0 (0 + s) W (e - s)).getLastD 0 = y
  have a1 : 0 + (s + dn) = 0 + s + dn := by omega
  have a2 : 0 + (x + ac) = 0 + x + ac := by omega
  have a3 : y + ac + 1 - (x + ac) = y + 1 - x := by omega
  rw [a1, a2, a3]
theorem step_mov {D' D : Dots} {dn ac H W H' W' d a : Nat} (M : Mov D' D dn ac H W H' W') : stepF D' d a [whole H' W'] = (stepF D d a [whole H W]).map (Bx.sh dn ac) := by
  have e : ∀ (D : Dots) b, stepF D d a [b] = (parted D d b).flatMap (cols D a) := fun D b => by
    show ([b].flatMap (parted D d)).flatMap (cols D a) = _
    rw [List.flatMap_cons, List.flatMap_nil, List.append_nil]
  rw [e, e, parted_mov M, flat_map_sh (g := cols D a) _ fun b hb => ?_]
  obtain ⟨s1, s2, s3, s4⟩ := (cut_rows D d).sub _ b hb
  exact cols_sh M.agr (by have : (whole H W).t + (whole H W).h = 0 + H := rfl; omega) (by have : (whole H W).l + (whole H W).w = 0 + W := rfl; omega)
theorem it_sh {D' D : Dots} {dn ac H W d a : Nat} (A : Agr D' D dn ac H W) : ∀ (n : Nat) {bs : List Bx}, Lay D (whole H W) bs → it D' d a n (bs.map (Bx.sh dn ac)) = (it D d a n bs).map (Bx.sh dn ac)
  | 0, _, _ => rfl
  | n + 1, bs, L => by
    rw [it, it, step_sh A L.sub, it_sh A n (L.step d a)]
theorem Flds.mov {D' D : Dots} {dn ac H W H' W' d a : Nat} {bs : List Bx} (M : Mov D' D dn ac H W H' W') (h : Flds D d a H W bs) : Flds D' d a H' W' (bs.map (Bx.sh dn ac)) := by
  have L := h.lay
  obtain ⟨h1, n, h2⟩ := h
  refine ⟨by rw [step_sh M.agr L.sub, h1], n + 1, ?_⟩
  have e : bs = it D d a (n + 1) [whole H W] := by rw [it_succ, ← h2, h1]
  rw [e, it, it, step_mov M, it_sh M.agr n ((Lay.one D (whole H W)).step d a)]
end Fl
namespace L2X
open PySem PySem.Spec PyProof.Rows L2
theorem op_neDK {X : Cx} {K : PySem.W.Frag} (hK : X.K = K) (hu : X.A.units + 64 < cLine) : OpR X (compareOp .NotEq) (rNeD K) := by
  subst hK
  exact op_neD hu
end L2X
namespace Dt
open PySem PySem.Spec PyProof.Rows L2 L2X
open SX (S)
/-- tuples of whole numbers, in a row -/
structure Tin (K : PySem.W.Frag) (H : Hp) (xs : List V) (bs : List (List Int)) : Prop where
  len : xs.length = bs.length
  at_ : ∀ (i : Nat) (x : V) (b : List Int), xs[i]? = some x → bs[i]? = some b → ∃ t, x = .ref t ∧ H t = some (.tup (b.map V.int))
theorem Tin.same {K : PySem.W.Frag} {H H' : Hp} {xs : List V} {bs : List (List Int)} (h : Tin K H xs bs) (s : Same H H') : Tin K H' xs bs :=
  ⟨h.len, fun i x b a e => let ⟨t, e1, e2⟩ := h.at_ i x b a e; ⟨t, e1, s _ _ e2⟩⟩
theorem Tin.updl {K : PySem.W.Frag} {H : Hp} {xs : List V} {bs : List (List Int)} {l : Addr} {ys zs : List V} (h : Tin K H xs bs) (hl : H l = some (.lst ys)) : Tin K (upd H l (.lst zs)) xs bs :=
  ⟨h.len, fun i x b a e => let ⟨t, e1, e2⟩ := h.at_ i x b a e; ⟨t, e1, by rw [upd_ne (ne_of e2 hl (by intro z; cases z))]; exact e2⟩⟩
theorem Tin.nil {K : PySem.W.Frag} {H : Hp} : Tin K H [] [] := ⟨rfl, fun i x b h => nomatch h⟩
theorem Tin.add {K : PySem.W.Frag} {H : Hp} {xs : List V} {bs : List (List Int)} {t : Addr} {b : List Int} (h : Tin K H xs bs) (ht : H t = some (.tup (b.map V.int))) : Tin K H (xs ++ [.ref t]) (bs ++ [b]) := by
  refine ⟨by rw [List.length_append, List.length_append, h.len]; rfl, fun i y s' hy hs => ?_⟩
  by_cases hi : i < xs.length
  · rw [List.getElem?_append_left hi] at hy
    rw [List.getElem?_append_left (by rw [← h.len]; exact hi)] at hs
    exact h.at_ i y s' hy hs
  · rw [List.getElem?_append_right (by omega)] at hy
    rw [List.getElem?_append_right (by rw [← h.len]; omega), ← h.len] at hs
    have e0 : i - xs.length = 0 := by
      have := (List.getElem?_eq_some_iff.mp hy).1
      rw [List.length_singleton] at this
      omega
    rw [e0] at hy hs
    cases hy
    cases hs
    exact ⟨t, rfl, ht⟩
def iD (b : List Int) : PyData := .tuple (b.map .int)
theorem dp_ints {K : PySem.W.Frag} {H : Hp} : ∀ b : List Int, DpAll K H (b.map V.int) (b.map PyData.int)
  | [] => .nil
  | i :: r => .cons (.int i) (dp_ints r)
theorem dp_tin {K : PySem.W.Frag} {H : Hp} : ∀ {xs : List V} {bs : List (List Int)}, Tin K H xs bs → DpAll K H xs (bs.map iD)
  | [], [], _ => .nil
  | [], _ :: _, h => by have := h.len; simp at this
  | _ :: _, [], h => by have := h.len; simp at this
  | x :: xs, b :: bs, h => by
    obtain ⟨t, e, ht⟩ := h.at_ 0 x b rfl rfl
    subst e
    exact .cons (.tup (SqT.of ht) (dp_ints b)) (dp_tin ⟨Nat.succ.inj h.len, fun i y q a b => h.at_ (i + 1) y q a b⟩)
theorem lay_ints : ∀ b : List Int, PyData.canLayAll0 (b.map PyData.int) = true ∧ PyData.depthAll (b.map PyData.int) ≤ 1
  | [] => ⟨by simp [PyData.canLayAll0], by simp [PyData.depthAll]⟩
  | p :: r => by
    obtain ⟨h1, h2⟩ := lay_ints r
    refine ⟨?_, ?_⟩
    · rw [List.map_cons]
      simp [PyData.canLayAll0, PyData.canLay0, h1]
    · rw [List.map_cons]
      simp only [PyData.depthAll, PyData.depth]
      omega
theorem lay_tins : ∀ bs : List (List Int), PyData.canLayAll0 (bs.map iD) = true ∧ PyData.depthAll (bs.map iD) ≤ 3
  | [] => ⟨by simp [PyData.canLayAll0], by simp [PyData.depthAll]⟩
  | p :: r => by
    obtain ⟨h1, h2⟩ := lay_tins r
    obtain ⟨h3, h4⟩ := lay_ints p
    refine ⟨?_, ?_⟩
    · rw [List.map_cons]
      simp [PyData.canLayAll0, PyData.canLay0, iD, h1, h3]
    · rw [List.map_cons]
      simp only [PyData.depthAll, PyData.depth, iD]
      omega
theorem shaped_ints (b : List Int) : SeqAt.shaped (.list (b.map PyData.int)) = true := by
  obtain ⟨h1, h2⟩ := lay_ints b
  unfold SeqAt.shaped
  rw [Bool.and_eq_true, decide_eq_true_iff]
  refine ⟨by simp [PyData.canLay0, h1], ?_⟩
  simp only [PyData.depth]
  omega
theorem shaped_tins (bs : List (List Int)) : SeqAt.shaped (.list (bs.map iD)) = true := by
  obtain ⟨h1, h2⟩ := lay_tins bs
  unfold SeqAt.shaped
  rw [Bool.and_eq_true, decide_eq_true_iff]
  refine ⟨by simp [PyData.canLay0, h1], ?_⟩
  simp only [PyData.depth]
  omega
theorem eqv_ints : ∀ b : List Int, PyData.eqvAll (b.map PyData.int) (b.map PyData.int) = true
  | [] => by simp [PyData.eqvAll]
  | i :: r => by rw [List.map_cons]; simp [PyData.eqvAll, PyData.eqv, eqv_ints r]
theorem eqv_tins : ∀ bs : List (List Int), PyData.eqvAll (bs.map iD) (bs.map iD) = true
  | [] => by simp [PyData.eqvAll]
  | b :: r => by rw [List.map_cons]; simp [PyData.eqvAll, PyData.eqv, iD, eqv_ints b, eqv_tins r]
theorem strB_of {t m n : Nat} (h1 : 1 ≤ m) (h2 : t + m ≤ n) : strB (.int t) (.int m) (n : Int) = true := by
  show (decide (1 ≤ (m : Int)) && betw (.int t) 0 ((n : Int) - m)) = true
  rw [betw_int, decide_eq_true (by omega), decide_eq_true (by omega), decide_eq_true (by omega)]
  rfl
theorem passX0 {X : Cx} : Passes (L2.CX X.prog X.w) X E0 := fun _ _ _ _ _ _ _ h => by
  obtain ⟨_, _, _, _, _, _, _, _, _, _, _, _, z⟩ := h
  exact z.elim
end Dt
namespace Dt
open PySem PySem.Spec PyProof.Rows L2 L2X
open SX (S)
/-- rows of signs, of any size that may come -/
structure BigR (high wide : Nat) (rs : List (List Nat)) : Prop where
  r : RowsR high wide rs
  h0 : 1 ≤ high
  h1 : high ≤ 120
  w0 : 1 ≤ wide
  w1 : wide ≤ 120
theorem PicR.big {high wide : Nat} {rs : List (List Nat)} (p : PicR high wide rs) : BigR high wide rs := ⟨p.rows, p.h0, Nat.le_trans p.h1 (by decide), p.w0, p.w1⟩
theorem BigR.head {high wide : Nat} {rs : List (List Nat)} (b : BigR high wide rs) : (rs.headD []).length = wide := by
  cases rs with
  | nil =>
    have := b.r.len
    have := b.h0
    simp at *
    omega
  | cons l r => exact (b.r.row l List.mem_cons_self).len
theorem getD_mem {l : List Nat} {c : Nat} (h : c < l.length) : l.getD c 0 ∈ l := by
  rw [getD_at (List.getElem?_eq_getElem h)]
  exact List.getElem_mem h
def colsW (w : Nat) (rs : List (List Nat)) : List (List Nat) := (List.range w).map fun c => rs.map fun l => l.getD c 0
abbrev sCO : Stmt := topS 18
theorem scCO : FnScope ["rows", "signs"] ["rows"] (defScope sCO) := ⟨rfl, rfl, rfl, by decide +kernel, rfl, by decide +kernel, by decide +kernel⟩
def spCO : Sp := fun vs H Q _ => ∃ (a : Addr) (high wide : Nat) (rs : List (List Nat)), vs = [.ref a] ∧ H a = some (.tup (rs.map rv)) ∧ BigR high wide rs ∧ ∀ p H', Same H H' → H p = none → H' p = some (.lst ((colsW wide rs).map rv)) → Q (.ref p) H'
section
variable {P : Program} {w : World} {K : PySem.W.Frag} {mg : Str → Option Value} {base : Heap} {C CP : Addr}
theorem sgn_S (l : List Nat) (i : Nat) : sgn (S l) i = .str ⟨#[l.getD i 0]⟩ := by
  unfold sgn
  rw [List.getD_eq_getElem?_getD]
  simp [S]
theorem ok_CO {f : Addr} {fd : FuncData} {k : Nat} (F : Fun K "columns_of" "columns_of" sCO f fd) (X : Tx mg) (hz : mg "zip" = none) : FnOk P w K mg base CX0 (k + 1) f fd ["rows"] spCO := by
  refine F.ok scCO (fun vs H Q E h => ?_) (fun cdv A outer s H vs Q E hr h => ?_)
  · obtain ⟨a, _, _, _, rfl, _⟩ := h
    rfl
  · obtain ⟨a, high, wide, rs, rfl, ha, b, q⟩ := h
    have nd := scCO.nd
    refine ⟨_, pss_one (ps_ret (pe_lc (own := [("signs", 1)]) (g := gName 1) (tt := tYes) rfl nd (pi_zipS (by rfl) hz (pv 0)) (blkOk_by (N := ["rows", "signs"]) (sc := defScope sCO) (by decide +kernel)) (fun _ _ _ _ _ => pg_name (i := 1) nd rfl (Or.inl rfl)) (fun _ _ _ _ _ => pts_nil)
        (fun _ _ _ _ _ => pe_joinK (K := K) rfl pe_str (pv 1)))), ?_⟩
    have hp1 : H a = some (.tup ((rs.map S).map V.str)) := by
      rw [ha, List.map_map]
      rfl
    have hlen := b.r.len
    have h0 := b.h0
    have h1 := b.h1
    have w1 := b.w1
    have cl : (colsW wide rs).length = wide := by unfold colsW; rw [List.length_map, List.length_range]
    refine ⟨.ref a, rfl, a, rs.map S, rfl, .inl (SqT.of hp1), by rw [List.length_map]; omega, by rw [List.length_map]; omega, fun D hD => lc_zipN (n := wide) (by rw [List.length_map]; omega) (fun z hz' => ?_)
      (fun i H2 => Same H H2 ∧ H2 D = some (.lst (((colsW wide rs).take i).map rv))) ⟨same_upd hD, upd_same⟩ ?_ ?_⟩
    · obtain ⟨l, hl, rfl⟩ := List.mem_map.mp hz'
      have := (b.r.row l hl).len
      show (S l).length = wide
      rw [SX.S_len, this]
    · rintro i H2 T hi ⟨sm, h2⟩ nT
      have sT := same_upd (o := .tup ((rs.map S).map fun z => sgn z i)) nT
      have el : (colsW wide rs)[i]? = some (rs.map fun l => l.getD i 0) := by
        unfold colsW
        rw [List.getElem?_map, List.getElem?_range hi]
        rfl
      refine ⟨rfl, ⟨"", rfl⟩, .ref T, rfl, "", T, (rs.map fun l => l.getD i 0).map fun c => (⟨#[c]⟩ : Str), rfl, rfl, .inr (SqT.of ?_), ?_, ?_⟩
      · rw [upd_same, List.map_map, List.map_map, List.map_map]
        congr 2
        apply List.map_congr_left
        intro l _
        exact sgn_S l i
      · rw [lens_rows, List.length_map]
        show rs.length + _ * 0 ≤ 16777216
        omega
      · rw [join_row]
        refine ⟨_, sT _ _ h2, ?_, same_over (sm.trans sT) hD, ?_⟩
        · rw [List.length_map, List.length_take]
          exact smallT (by omega)
        · rw [upd_same, take_snoc el, List.map_append]
          rfl
    · rintro H2 ⟨sm, h2⟩
      have e : (colsW wide rs).take wide = colsW wide rs := List.take_of_length_le (by rw [cl]; exact Nat.le_refl _)
      rw [e] at h2
      exact q D _ sm hD h2
end
theorem getD_some {l : List Nat} {c : Nat} (h : c < l.length) : l[c]? = some (l.getD c 0) := by
  rw [getD_at (List.getElem?_eq_getElem h)]
  exact List.getElem?_eq_getElem h
open Builtin Builtin.Str in
theorem at_one {l : List Nat} {i : Nat} : StrLaws.At (S l) (S [35]) (S l).length i ↔ i < l.length ∧ l.getD i 0 = 35 := by
  have e := StrLaws.subAt_one (S l) 35 i
  have e2 : StrLaws.At (S l) (S [35]) (S l).length i ↔ (S l).cps.toList[i]? = some 35 := e
  rw [e2]
  have e3 : (S l).cps.toList = l := by simp [S]
  rw [e3]
  constructor
  · intro h
    have hi := (List.getElem?_eq_some_iff.mp h).1
    exact ⟨hi, getD_at h⟩
  · rintro ⟨hi, h⟩
    rw [getD_some hi, h]
theorem rfind_end {l : List Nat} (h : 35 ∈ l) : ∃ r : Nat, Txt.rfind (S l) (S [35]) = (r : Int) ∧ r < l.length ∧ l.getD r 0 = 35 ∧ ∀ c, r < c → c < l.length → l.getD c 0 ≠ 35 := by
  obtain ⟨i, hi⟩ := List.mem_iff_getElem?.mp h
  have hil := (List.getElem?_eq_some_iff.mp hi).1
  rcases StrLaws.last_spec (S l) (S [35]) with ⟨_, z⟩ | ⟨r, e, a, m⟩
  · exact absurd (at_one.mpr ⟨hil, getD_at hi⟩) (z i)
  · obtain ⟨a1, a2⟩ := at_one.mp a
    refine ⟨r, ?_, a1, a2, fun c hc hl hd => m c hc (at_one.mpr ⟨hl, hd⟩)⟩
    unfold Txt.rfind
    rw [e]
theorem find_end {l : List Nat} (h : 35 ∈ l) : ∃ f : Nat, Txt.find (S l) (S [35]) = (f : Int) ∧ f < l.length ∧ l.getD f 0 = 35 ∧ ∀ c, c < f → l.getD c 0 ≠ 35 := by
  obtain ⟨i, hi⟩ := List.mem_iff_getElem?.mp h
  have hil := (List.getElem?_eq_some_iff.mp hi).1
  rcases StrLaws.occ_head (S l) (S [35]) 1 (Nat.le_refl _) with ⟨_, z⟩ | ⟨f, r, e, a, m⟩
  · exact absurd (at_one.mpr ⟨hil, getD_at hi⟩) (z i)
  · obtain ⟨a1, a2⟩ := at_one.mp a
    refine ⟨f, ?_, a1, a2, fun c hc hd => m c hc (at_one.mpr ⟨by omega, hd⟩)⟩
    unfold Txt.find
    rw [e]
end Dt
namespace Fl
/-! ### stretches as the program tells them -/
def cF (ns : List Nat) (least j : Nat) : Bool := decide (ns.getD j 0 - ns.getD (j - 1) 0 > least)
def cutsF (ns : List Nat) (least j n : Nat) : List Nat := (List.range' j n).filter (cF ns least)
def strG (ns : List Nat) (p : Nat × Nat) : Nat × Nat := (ns.getD p.1 0, ns.getD (p.2 - 1) 0 + 1)
theorem cutsF_succ (ns : List Nat) (least j n : Nat) : cutsF ns least j (n + 1) = cutsF ns least j n ++ if cF ns least (j + n) = true then [j + n] else [] := by
  unfold cutsF
  rw [List.range'_1_concat, List.filter_append, List.filter_cons, List.filter_nil]
theorem cutsF_mem {ns : List Nat} {least j n c : Nat} (h : c ∈ cutsF ns least j n) : j ≤ c ∧ c < j + n := by
  have := (List.mem_filter.mp h).1
  rw [List.mem_range'_1] at this
  exact this
theorem cutsF_len (ns : List Nat) (least j n : Nat) : (cutsF ns least j n).length ≤ n := by
  have := List.length_filter_le (cF ns least) (List.range' j n)
  rw [List.length_range'] at this
  exact this
theorem strR_zip (L : List Nat) (least : Nat) : ∀ (n i st : Nat), i + 1 + n = L.length →
    strR least (L.getD st 0) (L.getD i 0) (L.drop (i + 1)) = ((st :: cutsF L least (i + 1) n).zip (cutsF L least (i + 1) n ++ [L.length])).map (strG L)
  | 0, i, st, h => by
    have e : L.drop (i + 1) = [] := List.drop_eq_nil_of_le (by omega)
    rw [e]
    show [(L.getD st 0, L.getD i 0 + 1)] = [strG L (st, L.length)]
    unfold strG
    rw [show ((st, L.length) : Nat × Nat).2 - 1 = i by show L.length - 1 = i; omega]
  | n + 1, i, st, h => by
    have hl : i + 1 < L.length := by omega
    have e : L.drop (i + 1) = L.getD (i + 1) 0 :: L.drop (i + 2) := by
      rw [List.drop_eq_getElem_cons hl, List.getD_eq_getElem?_getD, List.getElem?_eq_getElem hl]
      rfl
    have ec : cutsF L least (i + 1) (n + 1) = if cF L least (i + 1) = true then (i + 1) :: cutsF L least (i + 2) n else cutsF L least (i + 2) n := by
      unfold cutsF
      rw [List.range'_succ, List.filter_cons]
    rw [e, strR, ec]
    by_cases hg : L.getD (i + 1) 0 - L.getD i 0 > least
    · have hc : cF L least (i + 1) = true := decide_eq_true (by rw [Nat.add_sub_cancel]; exact hg)
      rw [if_pos hg, if_pos hc, strR_zip L least n (i + 1) (i + 1) (by omega), List.cons_append, List.zip_cons_cons, List.map_cons]
      rfl
    · have hc : ¬ cF L least (i + 1) = true := fun z => hg (by
        have := of_decide_eq_true z
        rw [Nat.add_sub_cancel] at this
        exact this)
      rw [if_neg hg, if_neg hc, strR_zip L least n (i + 1) st (by omega)]
theorem stretch_zip {ns : List Nat} (least : Nat) (h : ns ≠ []) : stretch least ns = ((0 :: cutsF ns least 1 (ns.length - 1)).zip (cutsF ns least 1 (ns.length - 1) ++ [ns.length])).map (strG ns) := by
  cases ns with
  | nil => exact absurd rfl h
  | cons n r => exact strR_zip (n :: r) least r.length 0 0 (by rw [List.length_cons]; omega)
end Fl
namespace Dt
open PySem PySem.Spec PyProof.Rows L2 L2X
open SX (S)
open Fl
abbrev nI (ns : List Nat) : List V := ns.map fun n : Nat => V.int (n : Int)
def pI (p : Nat × Nat) : List Int := [(p.1 : Int), (p.2 : Int)]
abbrev sST : Stmt := topS 24
abbrev nST : List Str := ["numbers", "least", "cuts", "at", "start", "behind"]
theorem scST : FnScope nST ["numbers", "least"] (defScope sST) := ⟨rfl, rfl, rfl, by decide +kernel, rfl, by decide +kernel, by decide +kernel⟩
def spST (K : PySem.W.Frag) : Sp := fun vs H Q _ => ∃ (a : Addr) (ns : List Nat) (least : Nat), vs = [.ref a, .int least] ∧ H a = some (.lst (nI ns)) ∧ ns.length ≤ 120 ∧
  ∀ (l : Addr) (xs : List V) H', Same H H' → H l = none → H' l = some (.lst xs) → Tin K H' xs ((stretch least ns).map pI) → Q (.ref l) H'
theorem nI_at {ns : List Nat} {j : Nat} (h : j < ns.length) : (nI ns)[j]? = some (V.int ((ns.getD j 0 : Nat) : Int)) := by
  rw [List.getElem?_map, getD_some h]
  rfl
section
variable {P : Program} {w : World} {K : PySem.W.Frag} {mg : Str → Option Value} {base : Heap} {C CP : Addr}
theorem ok_st {f : Addr} {fd : FuncData} {k : Nat} (F : Fun K "_stretches" "_stretches" sST f fd) (T : Tx mg) (hz : mg "zip" = none) : FnOk P w K mg base CX0 (k + 1) f fd ["numbers", "least"] (spST K) := by
  refine F.ok scST (fun vs H Q E h => ?_) (fun cdv A outer s H vs Q E hr h => ?_)
  · obtain ⟨a, _, _, rfl, _⟩ := h
    rfl
  · obtain ⟨a, ns, least, rfl, ha, l1, q⟩ := h
    have nd := scST.nd
    refine ⟨_, pss_cons (ps_if (pt_not (pt_truth (pv 0) (fun _ => rfl))) (pss_one (ps_ret (pe_lst pa_nil))) pss_nil)
      (C8.pss_cut (ps_setLc (i := 2) (own := [("at", 3)]) (g := gName 3) (by rfl) nd rfl rfl (sw_true rfl rfl rfl (by decide +kernel)) (pi_range2 rfl T.range (pa_cons pe_int (pa_cons (pe_callB call_len_seq (by rfl) T.len PySem.boot_len (pa_cons (pv 0) pa_nil)) pa_nil))) (blkOk_by (N := nST) (sc := defScope sST) (by decide +kernel)) (fun _ _ _ _ _ => pg_name (i := 3) nd rfl (Or.inl rfl))
          (fun _ _ _ _ _ => pts_one (pt_cmpR op_gt (pe_op op_sub (pe_ix (r := rIxL K) ix_list (pv 0) (pv 3) (fun _ _ => rfl)) (pe_ix (r := rIxL K) ix_list (pv 0) (pe_op op_sub (pv 3) pe_int) (fun _ _ => rfl))) (pv 1) (nomark _))) (fun _ _ _ _ _ => pv 3))
      (pss_one (ps_ret (pe_lc (own := [("start", 4), ("behind", 5)]) (g := gTup K 2 (gCons (gName 4) (gCons (gName 5) gNil))) (tt := tYes) rfl nd (pi_zipG (by rfl) hz (pa_cons (pe_op op_cat (pe_lst (pa_cons pe_int pa_nil)) (pv 2)) (pa_cons (pe_op op_cat (pv 2) (pe_lst (pa_cons (pe_callB call_len_seq (by rfl) T.len PySem.boot_len (pa_cons (pv 0) pa_nil)) pa_nil))) pa_nil))) (blkOk_by (N := nST) (sc := defScope sST) (by decide +kernel))
          (fun _ _ _ _ _ => pg_tup rfl (pgs_cons (pg_name (i := 4) nd rfl (Or.inl rfl)) (pgs_cons (pg_name (i := 5) nd rfl (Or.inl rfl)) pgs_nil))) (fun _ _ _ _ _ => pts_nil)
          (fun _ _ _ _ _ => pe_tup (pa_cons (pe_ix (r := rIxL K) ix_list (pv 0) (pv 4) (fun _ _ => rfl)) (pa_cons (pe_op op_add (pe_ix (r := rIxL K) ix_list (pv 0) (pe_op op_sub (pv 5) pe_int) (fun _ _ => rfl)) pe_int) pa_nil))))))), ?_⟩
    by_cases hne : ns = []
    · subst hne
      exact ⟨.ref a, rfl, false, .inl ⟨[], SqL.of ha, rfl⟩, iteT ⟨by show 0 ≤ sizeLine; decide, fun D hD => q D [] _ (same_upd hD) hD upd_same Tin.nil⟩⟩
    have hpos : 0 < ns.length := List.length_pos_iff.mpr hne
    refine ⟨.ref a, rfl, true, .inl ⟨_, SqL.of ha, ?_⟩, iteF ?_⟩
    · cases ns with
      | nil => exact absurd rfl hne
      | cons _ _ => rfl
    have el : (nI ns).length = ns.length := List.length_map _
    refine ⟨fun σ' H' => ∃ C : Addr, σ' = [some (.ref a), some (.int least), some (.ref C), none, none, none] ∧ Same H H' ∧ H' C = some (.lst (nI (cutsF ns least 1 (ns.length - 1)))), ?_, ?_⟩
    · refine ⟨.ref a, rfl, a, _, rfl, .inl (SqL.of ha), 1, _, rfl, ⟨by omega, by omega, by omega, by omega⟩, ?_⟩
      rw [el, show ((ns.length : Int) - 1).toNat = ns.length - 1 by omega]
      refine fun D hD => lc_range (lo := 1) (n := ns.length - 1) (fun i H2 => Same H H2 ∧ H2 D = some (.lst (nI (cutsF ns least 1 i)))) ⟨same_upd hD, upd_same⟩ ?_ ?_
      · rintro i H2 hi ⟨sm, h2⟩
        have e1 : (1 : Int) + (i : Nat) = ((1 + i : Nat) : Int) := by omega
        have e2 : ((1 + i : Nat) : Int) - 1 = ((1 + i - 1 : Nat) : Int) := by omega
        rw [e1]
        have ha2 := SqL.of (K := K) (sm _ _ ha)
        refine ⟨rfl, .ref a, rfl, .int ((1 + i : Nat) : Int), rfl, a, _, _, _, rfl, rfl, ha2, atI_nat (nI_at (j := 1 + i) (by omega)), ?_⟩
        refine ⟨.ref a, rfl, .int ((1 + i : Nat) : Int), rfl, _, 1, rfl, rfl, a, _, _, _, rfl, rfl, ha2, by rw [e2]; exact atI_nat (nI_at (j := 1 + i - 1) (by omega)), ?_⟩
        refine ⟨_, _, rfl, rfl, .int least, rfl, _, _, rfl, rfl, _, rfl, ?_⟩
        have es := cutsF_succ ns least 1 i
        have eb : decide ((least : Int) < ((ns.getD (1 + i) 0 : Nat) : Int) - ((ns.getD (1 + i - 1) 0 : Nat) : Int)) = cF ns least (1 + i) := by
          unfold cF
          apply Bool.eq_iff_iff.mpr
          rw [decide_eq_true_iff, decide_eq_true_iff]
          omega
        rw [eb]
        cases ec : cF ns least (1 + i) with
        | true =>
          rw [ec, if_pos rfl] at es
          refine iteT ⟨.int ((1 + i : Nat) : Int), rfl, _, h2, ?_, same_over sm hD, ?_⟩
          · rw [List.length_map]
            have := cutsF_len ns least 1 i
            exact small1000 (by omega)
          · rw [upd_same, es]
            show _ = some (HO.lst (List.map _ _))
            rw [List.map_append]
            rfl
        | false =>
          rw [ec, if_neg (by decide), List.append_nil] at es
          refine iteF ⟨sm, ?_⟩
          rw [es]
          exact h2
      · rintro H2 ⟨sm, h2⟩
        exact ⟨D, rfl, sm, h2⟩
    rintro _ H1 ⟨C, rfl, s1, hC⟩
    have cl := cutsF_len ns least 1 (ns.length - 1)
    generalize ecs : cutsF ns least 1 (ns.length - 1) = cs at hC cl
    have ez := stretch_zip (ns := ns) least hne
    rw [ecs] at ez
    have hcs : ∀ c ∈ cs, 1 ≤ c ∧ c < ns.length := fun c hc => by
      rw [← ecs] at hc
      have := cutsF_mem hc
      omega
    refine ⟨by show 1 ≤ sizeLine; decide, fun z1 hz1 => ⟨.ref C, rfl, z1, C, _, _, rfl, rfl, upd_same, same_upd hz1 _ _ hC, ?_, fun z2 hz2 => ?_⟩⟩
    · rw [List.length_map]
      exact Nat.le_of_lt (small1000 (show [V.int 0].length + cs.length ≤ 1000 by show 1 + cs.length ≤ 1000; omega))
    have sA := (same_upd (o := .lst [V.int 0]) hz1).trans (same_upd (o := .lst ([V.int 0] ++ nI cs)) hz2)
    have h2z : (upd (upd H1 z1 (.lst [V.int 0])) z2 (.lst ([V.int 0] ++ nI cs))) z2 = some (.lst (nI (0 :: cs))) := upd_same
    generalize upd (upd H1 z1 (.lst [V.int 0])) z2 (.lst ([V.int 0] ++ nI cs)) = H2 at sA h2z
    refine ⟨.ref C, rfl, .ref a, rfl, a, _, rfl, .inl (SqL.of (sA _ _ (s1 _ _ ha))), by show 1 ≤ sizeLine; decide, fun z3 hz3 => ?_⟩
    rw [el]
    refine ⟨C, z3, _, _, rfl, rfl, same_upd hz3 _ _ (sA _ _ hC), upd_same, ?_, fun z4 hz4 => ?_⟩
    · rw [List.length_map]
      exact Nat.le_of_lt (small1000 (show cs.length + [V.int (ns.length : Int)].length ≤ 1000 by show cs.length + 1 ≤ 1000; omega))
    have sB := (same_upd (o := .lst [V.int (ns.length : Int)]) hz3).trans (same_upd (o := .lst (nI cs ++ [V.int (ns.length : Int)])) hz4)
    have h4z : (upd (upd H2 z3 (.lst [V.int (ns.length : Int)])) z4 (.lst (nI cs ++ [V.int (ns.length : Int)]))) z4 = some (.lst (nI (cs ++ [ns.length]))) := by
      rw [upd_same]
      show _ = some (HO.lst (List.map _ _))
      rw [List.map_append]
      rfl
    generalize upd (upd H2 z3 (.lst [V.int (ns.length : Int)])) z4 (.lst (nI cs ++ [V.int (ns.length : Int)])) = H3 at sB h4z
    have h2z3 := sB _ _ h2z
    have s13 := (s1.trans sA).trans sB
    have ha3 := s13 _ _ ha
    have lz : (List.zip (0 :: cs) (cs ++ [ns.length])).length = cs.length + 1 := by
      rw [List.length_zip, List.length_append, List.length_cons]
      simp
    refine ⟨.lst z2, .lst z4, _, _, rfl, SqL.of h2z3, SqL.of h4z, fun D hD => lc_zipG (K := K) (A := .lst z2) (B := .lst z4) (xs := nI (0 :: cs)) (ys := nI (cs ++ [ns.length])) (by simp) (fun i H4 => ∃ xs, Same H3 H4 ∧ H4 D = some (.lst xs) ∧ xs.length ≤ i ∧ Tin K H4 xs (((stretch least ns).take i).map pI)) ?_ ?_ ?_ ?_⟩
    · exact ⟨[], same_upd hD, upd_same, Nat.le_refl _, Tin.nil⟩
    · rintro i H4 _ ⟨xs, sm, _⟩
      exact ⟨SqL.of (sm _ _ h2z3), SqL.of (sm _ _ h4z)⟩
    · rintro i x y H4 TT hx hy ⟨xs, sm, h4, lx, tn⟩ nT
      obtain ⟨sa, hsa, rfl⟩ := map_at2 hx
      obtain ⟨be, hbe, rfl⟩ := map_at2 hy
      have hil : i < cs.length + 1 := (List.getElem?_eq_some_iff.mp hsa).1
      have hA : sa < ns.length := by
        rcases List.mem_cons.mp (List.mem_of_getElem? hsa) with e | e
        · omega
        · exact (hcs _ e).2
      have hB : 1 ≤ be ∧ be ≤ ns.length := by
        rcases List.mem_append.mp (List.mem_of_getElem? hbe) with e | e
        · have := hcs _ e
          omega
        · rw [List.mem_singleton.mp e]
          omega
      have sT := same_upd (o := .tup [V.int (sa : Int), V.int (be : Int)]) nT
      have ei : (stretch least ns)[i]? = some (strG ns (sa, be)) := by
        rw [ez, List.getElem?_map, (List.getElem?_zip_eq_some (z := (sa, be))).mpr ⟨hsa, hbe⟩]
        rfl
      have ha4 := SqL.of (K := K) (sT _ _ (sm _ _ ha3))
      have eb : (be : Int) - 1 = ((be - 1 : Nat) : Int) := by omega
      refine ⟨TT, _, rfl, SqT.of upd_same, rfl, _, _, rfl, _, _, rfl, rfl, rfl, ?_⟩
      refine ⟨.ref a, rfl, .int sa, rfl, a, _, _, _, rfl, rfl, ha4, atI_nat (nI_at hA), .ref a, rfl, .int be, rfl, _, 1, rfl, rfl, a, _, _, _, rfl, rfl, ha4, by rw [eb]; exact atI_nat (nI_at (j := be - 1) (by omega)), _, 1, rfl, rfl, by show 2 ≤ sizeLine; decide, fun t ht => ?_⟩
      have h4' := sT _ _ h4
      have st := same_upd (o := .tup [V.int ((ns.getD sa 0 : Nat) : Int), V.int (((ns.getD (be - 1) 0 : Nat) : Int) + 1)]) ht
      refine ⟨xs, st _ _ h4', small1000 (by omega), xs ++ [.ref t], same_over (sm.trans (sT.trans st)) hD, upd_same, by rw [List.length_append]; exact Nat.add_le_add_right lx 1, ?_⟩
      rw [take_snoc ei, List.map_append]
      refine Tin.add ((tn.same (sT.trans st)).updl (st _ _ h4')) ?_
      rw [upd_ne (ne_of_none h4' ht).symm, upd_same]
      rfl
    · rintro H4 ⟨xs, sm, h4, lx, tn⟩
      have e : (stretch least ns).take (nI (0 :: cs)).length = stretch least ns := List.take_of_length_le (by rw [ez, List.length_map, lz, List.length_map]; exact Nat.le_refl _)
      rw [e] at tn
      exact q D xs H4 (s13.trans sm) (s13.free hD) h4 tn
end
end Dt
namespace Dt
open PySem PySem.Spec PyProof.Rows L2 L2X
open SX (S)
open Fl
/-- the dots of rows -/
def DR (rs : List (List Nat)) : Dots := fun r c => decide ((rs.getD r []).getD c 0 = 35)
theorem DR_iff {rs : List (List Nat)} {r c : Nat} : DR rs r c = true ↔ (rs.getD r []).getD c 0 = 35 := decide_eq_true_iff
theorem getDl {rs : List (List Nat)} {r : Nat} (h : r < rs.length) : rs.getD r [] = rs[r] := by
  rw [List.getD_eq_getElem?_getD, List.getElem?_eq_getElem h]
  rfl
theorem RowsR.at_len {high wide : Nat} {rs : List (List Nat)} (R : RowsR high wide rs) {r : Nat} (h : r < high) : (rs.getD r []).length = wide := by
  have hr : r < rs.length := by rw [R.len]; exact h
  rw [getDl hr]
  exact (R.row _ (List.getElem_mem hr)).len
theorem getD_out {l : List Nat} {c : Nat} (h : l.length ≤ c) : l.getD c 0 = 0 := by
  rw [List.getD_eq_getElem?_getD, List.getElem?_eq_none h]
  rfl
theorem DR_in {high wide : Nat} {rs : List (List Nat)} (R : RowsR high wide rs) {r c : Nat} (h : DR rs r c = true) : r < high ∧ c < wide := by
  have h' := DR_iff.mp h
  by_cases hr : r < high
  · refine ⟨hr, ?_⟩
    by_cases hc : c < wide
    · exact hc
    · rw [getD_out (by rw [R.at_len hr]; omega)] at h'
      cases h'
  · have e : rs.getD r [] = [] := by
      rw [List.getD_eq_getElem?_getD, List.getElem?_eq_none (by rw [R.len]; omega)]
      rfl
    rw [e, getD_out (by show 0 ≤ c; omega)] at h'
    cases h'
theorem cols_at {w : Nat} {rs : List (List Nat)} {c : Nat} (h : c < w) : (colsW w rs).getD c [] = rs.map fun l => l.getD c 0 := by
  unfold colsW
  rw [List.getD_eq_getElem?_getD, List.getElem?_map, List.getElem?_range h]
  rfl
theorem DR_cols {high wide : Nat} {rs : List (List Nat)} (R : RowsR high wide rs) : DR (colsW wide rs) = tr (DR rs) := by
  funext c r
  apply Bool.eq_iff_iff.mpr
  show DR (colsW wide rs) c r = true ↔ DR rs r c = true
  constructor
  · intro h
    have h' := DR_iff.mp h
    by_cases hc : c < wide
    · rw [cols_at hc] at h'
      by_cases hr : r < rs.length
      · rw [DR_iff, getDl hr]
        rw [List.getD_eq_getElem?_getD, List.getElem?_map, List.getElem?_eq_getElem hr] at h'
        exact h'
      · rw [getD_out (by rw [List.length_map]; omega)] at h'
        cases h'
    · have e : (colsW wide rs).getD c [] = [] := by
        rw [List.getD_eq_getElem?_getD, List.getElem?_eq_none (by unfold colsW; rw [List.length_map, List.length_range]; omega)]
        rfl
      rw [e, getD_out (by show 0 ≤ r; omega)] at h'
      cases h'
  · intro h
    obtain ⟨hr, hc⟩ := DR_in R h
    have hr' : r < rs.length := by rw [R.len]; exact hr
    have h' := DR_iff.mp h
    rw [DR_iff, cols_at hc, List.getD_eq_getElem?_getD, List.getElem?_map, List.getElem?_eq_getElem hr']
    rw [getDl hr'] at h'
    exact h'
theorem BigR.cols {high wide : Nat} {rs : List (List Nat)} (b : BigR high wide rs) : BigR wide high (colsW wide rs) := by
  refine ⟨⟨?_, fun l hl => ?_⟩, b.w0, b.w1, b.h0, b.h1⟩
  · unfold colsW
    rw [List.length_map, List.length_range]
  · unfold colsW at hl
    obtain ⟨c, hc, rfl⟩ := List.mem_map.mp hl
    have hc' := List.mem_range.mp hc
    refine ⟨by rw [List.length_map, b.r.len], fun x hx => ?_⟩
    obtain ⟨m, hm, rfl⟩ := List.mem_map.mp hx
    have rm := b.r.row m hm
    exact rm.sg _ (getD_mem (by rw [rm.len]; exact hc'))
/-! ### parts of rows -/
theorem cutR_at {rs : List (List Nat)} {t l h w k : Nat} (ht : t + h ≤ rs.length) (hk : k < h) : (cutR rs t l h w)[k]? = some (((rs.getD (t + k) []).drop l).take w) := by
  unfold cutR
  rw [List.getElem?_map, List.getElem?_take, if_pos hk, List.getElem?_drop, List.getElem?_eq_getElem (show t + k < rs.length by omega), getDl (show t + k < rs.length by omega)]
  rfl
theorem cutR_len {rs : List (List Nat)} {t l h w : Nat} (ht : t + h ≤ rs.length) : (cutR rs t l h w).length = h := by
  unfold cutR
  rw [List.length_map, List.length_take, List.length_drop]
  omega
theorem cutR_mem {rs : List (List Nat)} {t l h w : Nat} {q : List Nat} (ht : t + h ≤ rs.length) : q ∈ cutR rs t l h w ↔ ∃ k, k < h ∧ q = ((rs.getD (t + k) []).drop l).take w := by
  constructor
  · intro hq
    obtain ⟨k, hk⟩ := List.mem_iff_getElem?.mp hq
    have hl := (List.getElem?_eq_some_iff.mp hk).1
    rw [cutR_len ht] at hl
    rw [cutR_at ht hl] at hk
    exact ⟨k, hl, (Option.some.inj hk).symm⟩
  · rintro ⟨k, hk, rfl⟩
    exact List.mem_of_getElem? (cutR_at ht hk)
theorem cutR_part {rs : List (List Nat)} {t l h w s n : Nat} (h1 : s + n ≤ h) : ((cutR rs t l h w).drop s).take n = cutR rs (t + s) l n w := by
  unfold cutR
  rw [← List.map_drop, ← List.map_take, List.drop_take, List.take_take, List.drop_drop, Nat.min_eq_left (by omega)]
theorem sub_at {x : List Nat} {l w j : Nat} (h : j < w) : ((x.drop l).take w).getD j 0 = x.getD (l + j) 0 := by
  rw [List.getD_eq_getElem?_getD, List.getD_eq_getElem?_getD, List.getElem?_take, if_pos h, List.getElem?_drop]
theorem mem_getD {l : List Nat} : 35 ∈ l ↔ ∃ j, l.getD j 0 = 35 := by
  constructor
  · intro h
    obtain ⟨j, hj⟩ := List.mem_iff_getElem?.mp h
    exact ⟨j, getD_at hj⟩
  · rintro ⟨j, hj⟩
    by_cases h : j < l.length
    · rw [← hj]
      exact getD_mem h
    · rw [getD_out (by omega)] at hj
      cases hj
theorem sub_in {x : List Nat} {l w j : Nat} (h : ((x.drop l).take w).getD j 0 = 35) : j < w := by
  by_cases hj : j < w
  · exact hj
  · rw [getD_out (by rw [List.length_take]; omega)] at h
    cases h
theorem row_has {rs : List (List Nat)} {l w r : Nat} : rowHas (DR rs) l w r = decide (35 ∈ ((rs.getD r []).drop l).take w) := by
  apply Bool.eq_iff_iff.mpr
  rw [rowHas_iff, decide_eq_true_iff, mem_getD]
  constructor
  · rintro ⟨c, h1, h2, h3⟩
    refine ⟨c - l, ?_⟩
    rw [sub_at (by omega), show l + (c - l) = c by omega]
    exact DR_iff.mp h3
  · rintro ⟨j, hj⟩
    have hw := sub_in hj
    rw [sub_at hw] at hj
    exact ⟨l + j, by omega, by omega, DR_iff.mpr hj⟩
/-- first and last column that has a dot -/
structure FL (qs : List (List Nat)) (f r : Nat) : Prop where
  fe : ∃ q ∈ qs, q.getD f 0 = 35
  fm : ∀ q ∈ qs, ∀ c, q.getD c 0 = 35 → f ≤ c
  re : ∃ q ∈ qs, q.getD r 0 = 35
  rm : ∀ q ∈ qs, ∀ c, q.getD c 0 = 35 → c ≤ r
theorem mem_trdr {rs : List (List Nat)} {t l n w m : Nat} (ht : t + n ≤ rs.length) : m ∈ dr (tr (DR rs)) l t w n ↔ ∃ q ∈ cutR rs t l n w, q.getD m 0 = 35 := by
  rw [mem_dr]
  constructor
  · rintro ⟨h1, c, h2, h3, h4⟩
    have h4' := DR_iff.mp (show DR rs c (l + m) = true from h4)
    refine ⟨_, (cutR_mem ht).mpr ⟨c - t, by omega, rfl⟩, ?_⟩
    rw [show t + (c - t) = c by omega, sub_at h1]
    exact h4'
  · rintro ⟨q, hq, h⟩
    obtain ⟨k, hk, rfl⟩ := (cutR_mem ht).mp hq
    have hw := sub_in h
    rw [sub_at hw] at h
    exact ⟨hw, t + k, by omega, by omega, DR_iff.mpr h⟩
theorem FL.head {rs : List (List Nat)} {t l n w f r : Nat} (ht : t + n ≤ rs.length) (F : FL (cutR rs t l n w) f r) : (dr (tr (DR rs)) l t w n).headD 0 = f ∧ (dr (tr (DR rs)) l t w n).getLastD 0 = r := by
  have srt := dr_sorted (tr (DR rs)) l t w n
  have mf := (mem_trdr ht).mpr F.fe
  have mr := (mem_trdr ht).mpr F.re
  have ne : dr (tr (DR rs)) l t w n ≠ [] := by
    intro z
    rw [z] at mf
    cases mf
  obtain ⟨q1, hq1, e1⟩ := (mem_trdr ht).mp (head_mem ne)
  obtain ⟨q2, hq2, e2⟩ := (mem_trdr ht).mp (last_mem ne)
  have a1 := F.fm _ hq1 _ e1
  have a2 := head_le srt _ mf
  have a3 := F.rm _ hq2 _ e2
  have a4 := le_last srt _ mr
  omega
theorem cut_V (xs : List V) (s e : Nat) (h1 : s ≤ e) (h2 : e ≤ xs.length) : cutV xs (some (s : Int)) (some (e : Int)) = (xs.drop s).take (e - s) := by
  unfold cutV
  rw [HT.sIx_nat, HT.sIx_nat, Nat.min_eq_left h2, Nat.min_eq_left (by omega)]
/-! ### boxes as data -/
def bI (b : Bx) : List Int := [(b.t : Int), (b.l : Int), (b.h : Int), (b.w : Int)]
theorem bI_inj {a b : Bx} (h : bI a = bI b) : a = b := by
  cases a
  cases b
  simp only [bI, List.cons.injEq, Int.ofNat_inj] at h
  obtain ⟨rfl, rfl, rfl, rfl, _⟩ := h
  rfl
theorem eqv_bI (a b : Bx) : PyData.eqv (iD (bI a)) (iD (bI b)) = decide (a = b) := by
  apply Bool.eq_iff_iff.mpr
  rw [decide_eq_true_iff]
  constructor
  · intro h
    cases a
    cases b
    simp [iD, bI, PyData.eqv, PyData.eqvAll] at h
    obtain ⟨h1, h2, h3, h4⟩ := h
    simp only [Bx.mk.injEq]
    omega
  · rintro rfl
    unfold iD
    rw [PyData.eqv, eqv_ints]
theorem eqv_bs : ∀ a b : List Bx, PyData.eqvAll ((a.map bI).map iD) ((b.map bI).map iD) = decide (a = b)
  | [], [] => by simp [PyData.eqvAll]
  | [], b :: bs => by simp [PyData.eqvAll]
  | a :: as, [] => by simp [PyData.eqvAll]
  | a :: as, b :: bs => by
    rw [List.map_cons, List.map_cons, List.map_cons, List.map_cons, PyData.eqvAll, eqv_bI, eqv_bs as bs]
    apply Bool.eq_iff_iff.mpr
    rw [Bool.and_eq_true, decide_eq_true_iff, decide_eq_true_iff, decide_eq_true_iff]
    constructor
    · rintro ⟨rfl, rfl⟩
      rfl
    · intro h
      exact ⟨(List.cons.inj h).1, (List.cons.inj h).2⟩
theorem ne_bs (a b : List Bx) : (!PyData.eqv (.list ((a.map bI).map iD)) (.list ((b.map bI).map iD))) = !decide (a = b) := by
  rw [PyData.eqv, eqv_bs]
end Dt
namespace Fl
theorem dim_len : ∀ {bs : List Bx}, Dim bs → bs.length ≤ areas bs
  | [], _ => Nat.zero_le _
  | b :: bs, h => by
    obtain ⟨h1, h2⟩ := h b List.mem_cons_self
    have ih := dim_len (bs := bs) fun c hc => h c (List.mem_cons_of_mem _ hc)
    have e : areas (b :: bs) = b.area + areas bs := rfl
    have : 1 * 1 ≤ b.area := Nat.mul_le_mul h1 h2
    rw [e, List.length_cons]
    omega
theorem whole_dim {H W : Nat} (h : 1 ≤ H) (w : 1 ≤ W) : Dim [whole H W] := fun b hb => by
  rw [List.mem_singleton.mp hb]
  exact ⟨h, w⟩
theorem whole_areas (H W : Nat) : areas [whole H W] = H * W := by
  show H * W + 0 = _
  rfl
theorem parted_len (D : Dots) (least : Nat) (b : Bx) : (parted D least b).length ≤ b.h := by
  have key : ∀ (ns : List Nat) (s p : Nat), (strR least s p ns).length ≤ ns.length + 1 := by
    intro ns
    induction ns with
    | nil => intro s p; exact Nat.le_refl _
    | cons n ns ih =>
      intro s p
      rw [strR]
      split
      · rw [List.length_cons, List.length_cons]
        have := ih n n
        omega
      · have := ih s n
        rw [List.length_cons]
        omega
  have h2 : ∀ ns : List Nat, (stretch least ns).length ≤ ns.length := fun ns => by
    cases ns with
    | nil => exact Nat.le_refl _
    | cons n ns => exact key ns n n
  unfold parted
  rw [List.length_map]
  refine Nat.le_trans (h2 _) ?_
  unfold dr
  have := List.length_filter_le (fun i => rowHas D b.l b.w (b.t + i)) (List.range b.h)
  rw [List.length_range] at this
  exact this
end Fl
namespace Dt
open PySem PySem.Spec PyProof.Rows L2 L2X
open SX (S)
open Fl
abbrev sDC : Stmt := topS 25
abbrev nDC : List Str := ["rows", "dotted", "row"]
theorem scDC : FnScope nDC ["rows"] (defScope sDC) := ⟨rfl, rfl, rfl, by decide +kernel, rfl, by decide +kernel, by decide +kernel⟩
def spDC (K : PySem.W.Frag) : Sp := fun vs H Q _ => ∃ (a : Addr) (qs : List (List Nat)), vs = [.ref a] ∧ SqL K H a (qs.map rv) ∧ qs.length ≤ 120 ∧ (∃ q ∈ qs, 35 ∈ q) ∧
  ∀ (p : Addr) (f r : Nat) H', Same H H' → FL qs f r → H' p = some (.tup [.int f, .int r]) → Q (.ref p) H'
abbrev sFP : Stmt := topS 22
abbrev nFP : List Str := ["box", "top", "left", "high", "wide"]
theorem scFP : FnScope nFP ["box"] (defScope sFP) := ⟨rfl, rfl, rfl, by decide +kernel, rfl, by decide +kernel, by decide +kernel⟩
def spFP : Sp := fun vs H Q _ => ∃ (t : Addr) (b : Bx), vs = [.ref t] ∧ H t = some (.tup ((bI b).map V.int)) ∧
  ∀ p H', Same H H' → H p = none → H' p = some (.tup ((bI b.flip).map V.int)) → Q (.ref p) H'
abbrev sPT : Stmt := topS 23
abbrev nPT : List Str := ["page", "box", "least", "top", "left", "high", "wide", "rows", "row", "parts", "start", "behind", "at", "first", "last"]
theorem scPT : FnScope nPT ["page", "box", "least"] (defScope sPT) := ⟨rfl, rfl, rfl, by decide +kernel, rfl, by decide +kernel, by decide +kernel⟩
/-- a page, a list (true) or a tuple (false) of its rows -/
def pgO (pg : Bool) (xs : List V) : HO := match pg with
  | true => .lst xs
  | false => .tup xs
def spPT (K : PySem.W.Frag) : Sp := fun vs H Q _ => ∃ (pg : Bool) (a t : Addr) (high wide : Nat) (rs : List (List Nat)) (b : Bx) (least : Nat), vs = [.ref a, .ref t, .int least] ∧ H a = some (pgO pg (rs.map rv)) ∧ BigR high wide rs ∧ H t = some (.tup ((bI b).map V.int)) ∧
  b.t + b.h ≤ high ∧ b.l + b.w ≤ wide ∧ ∀ l xs H', Same H H' → H l = none → H' l = some (.lst xs) → Tin K H' xs ((parted (DR rs) least b).map bI) → Q (.ref l) H'
theorem getD35 {l : List Nat} {c : Nat} (h : l.getD c 0 = 35) : c < l.length := by
  by_cases hc : c < l.length
  · exact hc
  · rw [getD_out (by omega)] at h
    cases h
section
variable {P : Program} {w : World} {K : PySem.W.Frag} {mg : Str → Option Value} {base : Heap} {C CP : Addr}
theorem ok_dc {f : Addr} {fd : FuncData} {k : Nat} (F : Fun K "_dotted_columns" "_dotted_columns" sDC f fd) (mi : mg "min" = none) (mx : mg "max" = none) : FnOk P w K mg base CX0 (k + 1) f fd ["rows"] (spDC K) := by
  refine F.ok scDC (fun vs H Q E h => ?_) (fun cdv A outer s H vs Q E hr h => ?_)
  · obtain ⟨a, _, rfl, _⟩ := h
    rfl
  · obtain ⟨a, qs, rfl, ha, ql, qd, q⟩ := h
    have nd := scDC.nd
    refine ⟨_, C8.pss_cut (ps_setLc (i := 1) (own := [("row", 2)]) (g := gName 2) (by rfl) nd rfl rfl (sw_true rfl rfl rfl (by decide +kernel)) (pi_list (pv 0)) (blkOk_by (N := nDC) (sc := defScope sDC) (by decide +kernel)) (fun _ _ _ _ _ => pg_name (i := 2) nd rfl (Or.inl rfl)) (fun _ _ _ _ _ => pts_one (pt_cmpR op_in_sign pe_str (pv 2) (by with_unfolding_all rfl))) (fun _ _ _ _ _ => pv 2))
      (pss_one (ps_ret (pe_tup (pa_cons (pe_callB (cr_min rfl) (by rfl) mi (by decide +kernel) (pa_cons (pe_lc (own := [("row", 2)]) (g := gName 2) (tt := tYes) rfl nd (pi_list (pv 1)) (blkOk_by (N := nDC) (sc := defScope sDC) (by decide +kernel)) (fun _ _ _ _ _ => pg_name (i := 2) nd rfl (Or.inl rfl)) (fun _ _ _ _ _ => pts_nil) (fun _ _ _ _ _ => pe_m1 PySem.F.slot_str_find PySem.F.type_str_find mt_find (pv 2) pe_str)) pa_nil))
        (pa_cons (pe_callB (cr_max rfl) (by rfl) mx (by decide +kernel) (pa_cons (pe_lc (own := [("row", 2)]) (g := gName 2) (tt := tYes) rfl nd (pi_list (pv 1)) (blkOk_by (N := nDC) (sc := defScope sDC) (by decide +kernel)) (fun _ _ _ _ _ => pg_name (i := 2) nd rfl (Or.inl rfl)) (fun _ _ _ _ _ => pts_nil) (fun _ _ _ _ _ => pe_m1 PySem.F.slot_str_rfind PySem.F.type_str_rfind mt_rfind (pv 2) pe_str)) pa_nil)) pa_nil))))), ?_⟩
    refine ⟨fun σ' H' => ∃ D : Addr, σ' = [some (.ref a), some (.ref D), none] ∧ Same H H' ∧ H' D = some (.lst ((qs.filter fun q => decide (35 ∈ q)).map rv)), ?_, ?_⟩
    · refine ⟨.ref a, rfl, a, rfl, ⟨_, ha⟩, fun D hD => lc_list (K := K) (a := a) (xs := qs.map rv) (fun i H2 => Same H H2 ∧ H2 D = some (.lst (((qs.take i).filter fun q => decide (35 ∈ q)).map rv))) ⟨same_upd hD, upd_same⟩ (fun i H2 _ z => z.1.seq ha) ?_ ?_⟩
      · rintro i x H2 hi ⟨sm, h2⟩
        obtain ⟨l, hl, rfl⟩ := map_at2 hi
        have hil : i < qs.length := (List.getElem?_eq_some_iff.mp hl).1
        have e0 : (S l).cps.toList = l := by simp [S]
        refine ⟨rfl, rv l, rfl, 35, S l, congrArg V.str s_hash, rfl, _, rfl, ?_⟩
        rw [e0]
        rw [take_snoc hl, List.filter_append, List.filter_cons, List.filter_nil]
        by_cases hm : 35 ∈ l
        · rw [decide_eq_true hm, if_pos rfl]
          refine iteT ⟨rv l, rfl, _, h2, ?_, same_over sm hD, ?_⟩
          · rw [List.length_map]
            have := List.length_filter_le (fun q : List Nat => decide (35 ∈ q)) (qs.take i)
            rw [List.length_take] at this
            exact small1000 (by omega)
          · rw [upd_same, List.map_append]
            rfl
        · rw [decide_eq_false hm, if_neg (by decide), List.append_nil]
          exact iteF ⟨sm, h2⟩
      · rintro H2 ⟨sm, h2⟩
        rw [List.length_map, List.take_length] at h2
        exact ⟨D, rfl, sm, h2⟩
    rintro _ H1 ⟨D, rfl, s1, hD⟩
    generalize eds : (qs.filter fun q => decide (35 ∈ q)) = ds at hD
    have dm : ∀ q, q ∈ ds ↔ q ∈ qs ∧ 35 ∈ q := fun q => by rw [← eds, List.mem_filter, decide_eq_true_iff]
    have dl : ds.length ≤ 120 := by
      rw [← eds]
      exact Nat.le_trans (List.length_filter_le _ _) ql
    have dpos : 0 < ds.length := by
      obtain ⟨q0, h1, h2⟩ := qd
      exact List.length_pos_of_mem ((dm q0).mpr ⟨h1, h2⟩)
    refine ⟨.ref D, rfl, D, rfl, ⟨_, SqL.of hD⟩, fun E1 hE1 => lc_list (K := K) (a := D) (xs := ds.map rv) (fun i H2 => Same H1 H2 ∧ H2 E1 = some (.lst (((ds.take i).map fun q => Txt.find (S q) (S [35])).map V.int))) ⟨same_upd hE1, upd_same⟩ (fun i H2 _ z => SqL.of (z.1 _ _ hD)) ?_ ?_⟩
    · rintro i x H2 hi ⟨sm, h2⟩
      obtain ⟨l, hl, rfl⟩ := map_at2 hi
      have hil : i < ds.length := (List.getElem?_eq_some_iff.mp hl).1
      refine ⟨rfl, rv l, rfl, ⟨_, rfl⟩, S l, "#", rfl, rfl, ?_⟩
      rw [s_hash]
      refine ⟨_, h2, ?_, same_over sm hE1, ?_⟩
      · rw [List.length_map, List.length_map, List.length_take]
        exact small1000 (by omega)
      · rw [upd_same, take_snoc hl, List.map_append, List.map_append]
        rfl
    rintro H2 ⟨s2, h2⟩
    rw [List.length_map, List.take_length] at h2
    refine ⟨E1, _, rfl, SqL.of h2, by rw [List.length_map]; exact dpos, fun m mm mle => ?_⟩
    have hD2 := s2 _ _ hD
    refine ⟨.ref D, rfl, D, rfl, ⟨_, SqL.of hD2⟩, fun E2 hE2 => lc_list (K := K) (a := D) (xs := ds.map rv) (fun i H3 => Same H2 H3 ∧ H3 E2 = some (.lst (((ds.take i).map fun q => Txt.rfind (S q) (S [35])).map V.int))) ⟨same_upd hE2, upd_same⟩ (fun i H3 _ z => SqL.of (z.1 _ _ hD2)) ?_ ?_⟩
    · rintro i x H3 hi ⟨sm, h3⟩
      obtain ⟨l, hl, rfl⟩ := map_at2 hi
      have hil : i < ds.length := (List.getElem?_eq_some_iff.mp hl).1
      refine ⟨rfl, rv l, rfl, ⟨_, rfl⟩, S l, "#", rfl, rfl, ?_⟩
      rw [s_hash]
      refine ⟨_, h3, ?_, same_over sm hE2, ?_⟩
      · rw [List.length_map, List.length_map, List.length_take]
        exact small1000 (by omega)
      · rw [upd_same, take_snoc hl, List.map_append, List.map_append]
        rfl
    rintro H3 ⟨s3, h3⟩
    rw [List.length_map, List.take_length] at h3
    refine ⟨E2, _, rfl, SqL.of h3, by rw [List.length_map]; exact dpos, fun n nm nle => ?_⟩
    refine ⟨by show 2 ≤ sizeLine; decide, fun p hp => ?_⟩
    obtain ⟨qa, qam, ea⟩ := List.mem_map.mp mm
    obtain ⟨qb, qbm, eb⟩ := List.mem_map.mp nm
    obtain ⟨f0, hf, f1, f2, f3⟩ := find_end ((dm qa).mp qam).2
    obtain ⟨r0, hr0, r1, r2, r3⟩ := rfind_end ((dm qb).mp qbm).2
    rw [hf] at ea
    rw [hr0] at eb
    subst ea
    subst eb
    refine q p f0 r0 _ (((s1.trans s2).trans s3).trans (same_upd hp)) ⟨⟨qa, ((dm qa).mp qam).1, f2⟩, fun x hx c hc => ?_, ⟨qb, ((dm qb).mp qbm).1, r2⟩, fun x hx c hc => ?_⟩ upd_same
    · have hx' := (dm x).mpr ⟨hx, mem_getD.mpr ⟨c, hc⟩⟩
      obtain ⟨f', e1, e2, e3, e4⟩ := find_end (mem_getD.mpr ⟨c, hc⟩)
      have h5 := mle _ (List.mem_map.mpr ⟨x, hx', e1⟩)
      have h6 : ¬ c < f' := fun z => e4 c z hc
      omega
    · have hx' := (dm x).mpr ⟨hx, mem_getD.mpr ⟨c, hc⟩⟩
      obtain ⟨f', e1, e2, e3, e4⟩ := rfind_end (mem_getD.mpr ⟨c, hc⟩)
      have h5 := nle _ (List.mem_map.mpr ⟨x, hx', e1⟩)
      have h6 : ¬ f' < c := fun z => e4 c z (getD35 hc) hc
      omega
theorem ok_fp {f : Addr} {fd : FuncData} {k : Nat} (F : Fun K "_flipped" "_flipped" sFP f fd) : FnOk P w K mg base CX0 (k + 1) f fd ["box"] spFP := by
  refine F.ok scFP (fun vs H Q E h => ?_) (fun cdv A outer s H vs Q E hr h => ?_)
  · obtain ⟨t, _, rfl, _⟩ := h
    rfl
  · obtain ⟨t, b, rfl, ht, q⟩ := h
    have nd := scFP.nd
    refine ⟨_, pss_cons (ps_asg (pv 0) (pg_tup rfl (pgs_cons (pg_name (i := 1) nd rfl (Or.inl rfl)) (pgs_cons (pg_name (i := 2) nd rfl (Or.inl rfl)) (pgs_cons (pg_name (i := 3) nd rfl (Or.inl rfl)) (pgs_cons (pg_name (i := 4) nd rfl (Or.inl rfl)) pgs_nil))))))
      (pss_one (ps_ret (pe_tup (pa_cons (pv 2) (pa_cons (pv 1) (pa_cons (pv 4) (pa_cons (pv 3) pa_nil))))))), ?_⟩
    refine ⟨.ref t, rfl, t, _, rfl, SqT.of ht, rfl, _, _, rfl, _, _, rfl, _, _, rfl, _, _, rfl, rfl, ?_⟩
    refine ⟨.int b.l, rfl, .int b.t, rfl, .int b.w, rfl, .int b.h, rfl, by show 4 ≤ sizeLine; decide, fun p hp => q p _ (same_upd hp) hp upd_same⟩
end
end Dt
namespace Dt
open PySem PySem.Spec PyProof.Rows L2 L2X
open SX (S)
open Fl
section
variable {P : Program} {w : World} {K : PySem.W.Frag} {mg : Str → Option Value} {base : Heap} {C CP : Addr}
theorem ok_pt {f : Addr} {fd : FuncData} {k : Nat} (F : Fun K "_parted" "_parted" sPT f fd) (T : Tx mg) (en : mg "enumerate" = none) (GS : Pm P w K mg base CX0 (k + 1) "_stretches" ["numbers", "least"] (spST K)) (GD : Pm P w K mg base CX0 (k + 1) "_dotted_columns" ["rows"] (spDC K)) :
    FnOk P w K mg base CX0 (k + 2) f fd ["page", "box", "least"] (spPT K) := by
  obtain ⟨fS, fdS, GS, mS, kS, bS⟩ := GS.ex
  obtain ⟨fD, fdD, GD, mD, kD, bD⟩ := GD.ex
  refine F.ok scPT (fun vs H Q E h => ?_) (fun cdv A outer s H vs Q E hr h => ?_)
  · obtain ⟨_, a, t, _, _, _, _, _, rfl, _⟩ := h
    rfl
  · obtain ⟨pg, a, t, high, wide, rs, b, least, rfl, ha, br, ht, bh, bw, q⟩ := h
    have nd := scPT.nd
    refine ⟨_, pss_cons (ps_asg (pv 1) (pg_tup rfl (pgs_cons (pg_name (i := 3) nd rfl (Or.inl rfl)) (pgs_cons (pg_name (i := 4) nd rfl (Or.inr rfl)) (pgs_cons (pg_name (i := 5) nd rfl (Or.inl rfl)) (pgs_cons (pg_name (i := 6) nd rfl (Or.inr rfl)) pgs_nil))))))
      (C8.pss_cut (ps_setLc (i := 7) (own := [("row", 8)]) (g := gName 8) (tt := tYes) (by rfl) nd rfl rfl (sw_true rfl rfl rfl (by decide +kernel)) (L2X.PI.or (pi_list (pe_slice sl_list (pv 0) (po_some (pv 3)) (po_some (pe_op op_add (pv 3) (pv 5))))) (pi_tup (pe_slice sl_tupA (pv 0) (po_some (pv 3)) (po_some (pe_op op_add (pv 3) (pv 5)))))) (blkOk_by (N := nPT) (sc := defScope sPT) (by decide +kernel)) (fun _ _ _ _ _ => pg_name (i := 8) nd rfl (Or.inl rfl)) (fun _ _ _ _ _ => pts_nil)
          (fun _ _ _ _ _ => pe_slice sl_str (pv 8) (po_some (pv 4)) (po_some (pe_op op_add (pv 4) (pv 6)))))
      (pss_cons (ps_set (i := 9) nd rfl (.inl rfl) (pe_lst pa_nil))
      (pss_cons (ps_for PassesOwn.never rfl (pi_list (pe_call GS hr (by rfl) mS kS bS .nil pass0 (pa_cons (pe_lc (own := [("at", 12), ("row", 8)]) (g := gTup K 2 (gCons (gName 12) (gCons (gName 8) gNil))) rfl nd (pi_enumG (by rfl) en (pa_cons (pv 7) pa_nil)) (blkOk_by (N := nPT) (sc := defScope sPT) (by decide +kernel))
            (fun _ _ _ _ _ => pg_tup rfl (pgs_cons (pg_name (i := 12) nd rfl (Or.inl rfl)) (pgs_cons (pg_name (i := 8) nd rfl (Or.inl rfl)) pgs_nil))) (fun _ _ _ _ _ => pts_one (pt_cmpR op_in_sign pe_str (pv 8) (by with_unfolding_all rfl))) (fun _ _ _ _ _ => pv 12)) (pa_cons (pv 2) pa_nil))))
          (pg_tup rfl (pgs_cons (pg_name (i := 10) nd rfl (Or.inl rfl)) (pgs_cons (pg_name (i := 11) nd rfl (Or.inl rfl)) pgs_nil)))
          (pss_cons (ps_asg (pe_call GD hr (by rfl) mD kD bD .nil pass0 (pa_cons (pe_slice sl_list (pv 7) (po_some (pv 10)) (po_some (pv 11))) pa_nil)) (pg_tup rfl (pgs_cons (pg_name (i := 13) nd rfl (Or.inl rfl)) (pgs_cons (pg_name (i := 14) nd rfl (Or.inl rfl)) pgs_nil))))
          (pss_one (ps_expr (pe_bm PySem.F.plainAttrs_list PySem.F.slot_list_append PySem.F.type_list_append mt_append (pv 9) (pa_cons (pe_tup (pa_cons (pe_op op_add (pv 3) (pv 10)) (pa_cons (pe_op op_add (pv 4) (pv 13)) (pa_cons (pe_op op_sub (pv 11) (pv 10)) (pa_cons (pe_op op_sub (pe_op op_add (pv 14) pe_int) (pv 13)) pa_nil))))) pa_nil))))))
      (pss_one (ps_ret (pv 9)))))), ?_⟩
    obtain ⟨bt, bl, bhh, bww⟩ := b
    have lr : rs.length = high := br.r.len
    have h1 := br.h1
    have w1 := br.w1
    have bh' : bt + bhh ≤ high := bh
    have bw' : bl + bww ≤ wide := bw
    have ec : (cutR rs bt bl bhh bww).length = bhh := cutR_len (by omega)
    refine ⟨.ref t, rfl, t, _, rfl, SqT.of ht, rfl, _, _, rfl, _, _, rfl, _, _, rfl, _, _, rfl, rfl, ?_⟩
    refine ⟨fun σ' H' => ∃ D : Addr, σ' = [some (.ref a), some (.ref t), some (.int least), some (.int bt), some (.int bl), some (.int bhh), some (.int bww), some (.ref D), none, none, none, none, none, none, none] ∧ Same H H' ∧ H' D = some (.lst ((cutR rs bt bl bhh bww).map rv)), ?_, ?_⟩
    · have cm : cutV (rs.map rv) (some (bt : Int)) (some ((bt : Int) + bhh)) = ((rs.drop bt).take bhh).map rv := by
        rw [cutV_mid _ _ _ (by rw [List.length_map, lr]; exact bh'), ← List.map_drop, ← List.map_take]
      have rowLen : ∀ (i : Nat) (r : List Nat), ((rs.drop bt).take bhh)[i]? = some r → r.length = wide ∧ i < bhh := fun i r hr0 => by
        have hm : r ∈ rs := List.mem_of_mem_drop (List.mem_of_mem_take (List.mem_of_getElem? hr0))
        have hil := (List.getElem?_eq_some_iff.mp hr0).1
        rw [List.length_take, List.length_drop] at hil
        exact ⟨(br.r.row r hm).len, by omega⟩
      cases pg with
      | true =>
        refine .inl ⟨.ref a, rfl, .int bt, rfl, bt, rfl, .int bt, rfl, .int bhh, rfl, bt, bhh, rfl, rfl, _, rfl, a, _, rfl, SqL.of ha, fun z hz0 => ⟨z, rfl, ⟨_, SqL.of upd_same⟩, fun D hD => ?_⟩⟩
        rw [cm] at hD ⊢
        have s2 := same_upd (o := .lst (((rs.drop bt).take bhh).map rv)) hz0
        have hz : (upd H z (.lst (((rs.drop bt).take bhh).map rv))) z = some (.lst (((rs.drop bt).take bhh).map rv)) := upd_same
        generalize upd H z (.lst (((rs.drop bt).take bhh).map rv)) = H2 at hD s2 hz
        refine lc_list (K := K) (a := z) (xs := ((rs.drop bt).take bhh).map rv) (fun i H3 => Same H2 H3 ∧ H3 D = some (.lst (((((rs.drop bt).take bhh).take i).map fun r => (r.drop bl).take bww).map rv))) ⟨same_upd hD, upd_same⟩ (fun i H3 _ zz => SqL.of (zz.1 _ _ hz)) ?_ ?_
        · rintro i x H3 hi ⟨sm, h3⟩
          obtain ⟨r, hr0, rfl⟩ := map_at2 hi
          obtain ⟨l0, hil⟩ := rowLen i r hr0
          refine ⟨rfl, rv r, rfl, .int bl, rfl, bl, rfl, .int bl, rfl, .int bww, rfl, bl, bww, rfl, rfl, _, rfl, S r, rfl, ?_, ?_⟩
          · rw [SX.S_len]
            exact Nat.le_of_lt (small1000 (by omega))
          · rw [cutS_mid _ _ _ (by omega)]
            refine ⟨_, h3, ?_, same_over sm hD, ?_⟩
            · rw [List.length_map, List.length_map, List.length_take]
              exact small1000 (by omega)
            · rw [upd_same, take_snoc hr0, List.map_append, List.map_append]
              rfl
        · rintro H3 ⟨sm, h3⟩
          rw [List.length_map, List.take_length] at h3
          exact ⟨D, rfl, s2.trans sm, h3⟩
      | false =>
        refine .inr ⟨.ref a, rfl, .int bt, rfl, bt, rfl, .int bt, rfl, .int bhh, rfl, bt, bhh, rfl, rfl, _, rfl, sl_any ha fun z H2 s2 hz => ⟨z, rfl, ⟨_, SqT.of hz⟩, fun D hD => ?_⟩⟩
        rw [cm] at hz
        refine lc_tup (K := K) (a := z) (xs := ((rs.drop bt).take bhh).map rv) (fun i H3 => Same H2 H3 ∧ H3 D = some (.lst (((((rs.drop bt).take bhh).take i).map fun r => (r.drop bl).take bww).map rv))) ⟨same_upd hD, upd_same⟩ (fun i H3 _ zz => SqT.of (zz.1 _ _ hz)) ?_ ?_
        · rintro i x H3 hi ⟨sm, h3⟩
          obtain ⟨r, hr0, rfl⟩ := map_at2 hi
          obtain ⟨l0, hil⟩ := rowLen i r hr0
          refine ⟨rfl, rv r, rfl, .int bl, rfl, bl, rfl, .int bl, rfl, .int bww, rfl, bl, bww, rfl, rfl, _, rfl, S r, rfl, ?_, ?_⟩
          · rw [SX.S_len]
            exact Nat.le_of_lt (small1000 (by omega))
          · rw [cutS_mid _ _ _ (by omega)]
            refine ⟨_, h3, ?_, same_over sm hD, ?_⟩
            · rw [List.length_map, List.length_map, List.length_take]
              exact small1000 (by omega)
            · rw [upd_same, take_snoc hr0, List.map_append, List.map_append]
              rfl
        · rintro H3 ⟨sm, h3⟩
          rw [List.length_map, List.take_length] at h3
          exact ⟨D, rfl, s2.trans sm, h3⟩
    rintro _ H1 ⟨D, rfl, s1, hD⟩
    refine ⟨by show 0 ≤ sizeLine; decide, fun L hL => ?_⟩
    have sL := same_upd (o := .lst []) hL
    have hD' := sL _ _ hD
    have hL' : (upd H1 L (.lst [])) L = some (.lst []) := upd_same
    have s1' := s1.trans sL
    have fL : H L = none := s1.free hL
    generalize upd H1 L (.lst []) = H2 at sL hD' hL' s1'
    refine ⟨.ref D, rfl, .lst D, _, rfl, SqL.of hD', fun N hN => ?_⟩
    have eD : SqL K H2 D ((cutR rs bt bl bhh bww).map rv) := SqL.of hD'
    refine lc_enumG (K := K) (A := .lst D) (xs := (cutR rs bt bl bhh bww).map rv) (fun i H3 => Same H2 H3 ∧ H3 N = some (.lst (nI ((List.range i).filter fun i => rowHas (DR rs) bl bww (bt + i))))) ⟨same_upd hN, upd_same⟩ (fun i H3 _ z => SqL.of (z.1 _ _ hD')) ?_ ?_
    · rintro i x H3 TT hi ⟨sm, h3⟩ nT
      obtain ⟨l, hl, rfl⟩ := map_at2 hi
      have hil : i < bhh := by
        have := (List.getElem?_eq_some_iff.mp hl).1
        rw [ec] at this
        exact this
      have el : l = ((rs.getD (bt + i) []).drop bl).take bww := by
        rw [cutR_at (by omega) hil] at hl
        exact (Option.some.inj hl).symm
      have sT := same_upd (o := .tup [V.int (i : Nat), rv l]) nT
      have e0 : (S l).cps.toList = l := by simp [S]
      refine ⟨TT, _, rfl, SqT.of upd_same, rfl, _, _, rfl, _, _, rfl, rfl, rfl, rv l, rfl, 35, S l, congrArg V.str s_hash, rfl, _, rfl, ?_⟩
      have es : ((List.range (i + 1)).filter fun i => rowHas (DR rs) bl bww (bt + i)) = ((List.range i).filter fun i => rowHas (DR rs) bl bww (bt + i)) ++ if decide (35 ∈ l) = true then [i] else [] := by
        rw [List.range_succ, List.filter_append, List.filter_cons, List.filter_nil, row_has, ← el]
      rw [e0, es]
      clear es
      cases ed : decide (35 ∈ l) with
      | true =>
        refine iteT ⟨.int (i : Nat), rfl, _, sT _ _ h3, ?_, same_over (sm.trans sT) hN, ?_⟩
        · rw [List.length_map]
          have := List.length_filter_le (fun i => rowHas (DR rs) bl bww (bt + i)) (List.range i)
          rw [List.length_range] at this
          exact small1000 (by omega)
        · rw [upd_same]
          show _ = some (HO.lst (List.map _ _))
          rw [List.map_append]
          rfl
      | false => exact iteF ⟨sm.trans sT, by
          rw [if_neg (by decide), List.append_nil]
          exact sT _ _ h3⟩
    rintro H3 ⟨s3, h3⟩
    rw [List.length_map, ec] at h3
    have eN : ((List.range bhh).filter fun i => rowHas (DR rs) bl bww (bt + i)) = dr (DR rs) bt bl bhh bww := rfl
    rw [eN] at h3
    have srt := dr_sorted (DR rs) bt bl bhh bww
    have dl : (dr (DR rs) bt bl bhh bww).length ≤ 120 := by
      have := List.length_filter_le (fun i => rowHas (DR rs) bl bww (bt + i)) (List.range bhh)
      rw [List.length_range] at this
      exact Nat.le_trans this (by omega)
    refine ⟨.int least, rfl, N, dr (DR rs) bt bl bhh bww, least, rfl, h3, dl, fun l xs H4 s4 nl hl tn => ⟨l, rfl, ⟨_, SqL.of hl⟩, ?_⟩⟩
    have S0 := stretch_ok least srt
    generalize est : stretch least (dr (DR rs) bt bl bhh bww) = st at tn S0
    have lst : st.length ≤ 120 := by
      have := parted_len (DR rs) least ⟨bt, bl, bhh, bww⟩
      unfold parted at this
      rw [List.length_map] at this
      have e : stretch least (dr (DR rs) bt bl bhh bww) = st := est
      rw [← e]
      exact Nat.le_trans this (by show bhh ≤ 120; omega)
    have lxs : xs.length = st.length := by rw [tn.len, List.length_map]
    have s24 := s3.trans s4
    have hD4 := s24 _ _ hD'
    have hL4 := s24 _ _ hL'
    have nLl : l ≠ L := (ne_of_none (s3 _ _ hL') nl).symm
    have nDL : D ≠ L := by
      rintro rfl
      rw [hL] at hD
      cases hD
    refine for_list (K := K) (a := l) (xs := xs) (fun i σ H5 => ∃ y8 y10 y11 y12 y13 y14 ys, σ = [some (.ref a), some (.ref t), some (.int least), some (.int bt), some (.int bl), some (.int bhh), some (.int bww), some (.ref D), y8, some (.ref L), y10, y11, y12, y13, y14] ∧ Do L H4 H5 ∧ H5 L = some (.lst ys) ∧ ys.length ≤ i ∧ Tin K H5 ys (((st.take i).map (part1 (DR rs) bt bl bww)).map bI))
      ⟨_, _, _, _, _, _, [], rfl, Do.refl, hL4, Nat.le_refl _, Tin.nil⟩ (fun i σ H5 _ z => by
        obtain ⟨_, _, _, _, _, _, _, _, sm, _⟩ := z
        exact SqL.of (sm _ _ hl nLl)) ?_ ?_
    · rintro i x σ H5 hx ⟨y8, y10, y11, y12, y13, y14, ys, rfl, sm, h5, ly, ty⟩
      have hi : i < st.length := by
        rw [← lxs]
        exact (List.getElem?_eq_some_iff.mp hx).1
      have e1 : st[i]? = some st[i] := List.getElem?_eq_getElem hi
      obtain ⟨w1', w2, w3⟩ := S0.ends st[i] (List.getElem_mem hi)
      generalize st[i] = se at e1 w1' w2 w3
      obtain ⟨sx, ex⟩ := se
      have wse : sx < ex := w1'
      have wex : ex - 1 < bhh := (mem_dr.mp (show ex - 1 ∈ dr (DR rs) bt bl bhh bww from w3)).1
      obtain ⟨_, cx, cx1, cx2, cx3⟩ := mem_dr.mp (show sx ∈ dr (DR rs) bt bl bhh bww from w2)
      obtain ⟨tp, rfl, htp⟩ := tn.at_ i x (pI (sx, ex)) hx (by rw [List.getElem?_map, e1]; rfl)
      have nzT : tp ≠ L := ne_of htp hL4 (by intro z; cases z)
      refine ⟨tp, _, rfl, SqT.of (sm _ _ htp nzT), rfl, _, _, rfl, _, _, rfl, rfl, ?_⟩
      refine ⟨.ref D, rfl, .int sx, rfl, sx, rfl, .int ex, rfl, ex, rfl, D, _, rfl, SqL.of (sm _ _ hD4 nDL), fun z hz => ?_⟩
      have ecut : cutV ((cutR rs bt bl bhh bww).map rv) (some (sx : Int)) (some (ex : Int)) = (cutR rs (bt + sx) bl (ex - sx) bww).map rv := by
        rw [cut_V _ _ _ (by omega) (by rw [List.length_map, ec]; omega), ← List.map_drop, ← List.map_take, cutR_part (by omega)]
      rw [ecut]
      have sz := same_upd (o := .lst ((cutR rs (bt + sx) bl (ex - sx) bww).map rv)) hz
      have lq : (cutR rs (bt + sx) bl (ex - sx) bww).length = ex - sx := cutR_len (by omega)
      refine ⟨z, _, rfl, SqL.of upd_same, by rw [lq]; omega, ⟨_, (cutR_mem (by omega)).mpr ⟨0, by omega, rfl⟩, ?_⟩, fun p f0 r0 H6 s6 fl hp => ?_⟩
      · have := row_has (rs := rs) (l := bl) (w := bww) (r := bt + sx)
        rw [rowHas_iff.mpr ⟨cx, cx1, cx2, cx3⟩] at this
        exact of_decide_eq_true this.symm
      have s56 := sz.trans s6
      have hL6 := s56 _ _ h5
      refine ⟨p, _, rfl, SqT.of hp, rfl, _, _, rfl, _, _, rfl, rfl, ?_⟩
      refine ⟨.ref L, rfl, .inl ⟨rfl, _, SqL.of hL6⟩, .int bt, rfl, .int sx, rfl, bt, sx, rfl, rfl, .int bl, rfl, .int f0, rfl, bl, f0, rfl, rfl, .int ex, rfl, .int sx, rfl, ex, sx, rfl, rfl, .int r0, rfl, r0, 1, rfl, rfl, .int f0, rfl, _, f0, rfl, rfl, by show 4 ≤ sizeLine; decide, fun u hu => ?_⟩
      have su := same_upd (o := .tup [V.int ((bt : Int) + sx), V.int ((bl : Int) + f0), V.int ((ex : Int) - sx), V.int ((r0 : Int) + 1 - f0)]) hu
      have hL7 := su _ _ hL6
      have nuL : u ≠ L := (ne_of_none hL6 hu).symm
      have eb : bI (part1 (DR rs) bt bl bww (sx, ex)) = [((bt : Int) + sx), ((bl : Int) + f0), ((ex : Int) - sx), ((r0 : Int) + 1 - f0)] := by
        obtain ⟨e1, e2⟩ := FL.head (by omega) fl
        have hfr : f0 ≤ r0 := by
          obtain ⟨q0, hq0, e0⟩ := fl.re
          exact fl.fm _ hq0 _ e0
        unfold bI part1
        rw [e1, e2]
        show [((bt + sx : Nat) : Int), ((bl + f0 : Nat) : Int), ((ex - sx : Nat) : Int), ((r0 + 1 - f0 : Nat) : Int)] = _
        rw [show ((bt + sx : Nat) : Int) = (bt : Int) + sx by omega, show ((bl + f0 : Nat) : Int) = (bl : Int) + f0 by omega, show ((ex - sx : Nat) : Int) = (ex : Int) - sx by omega, show ((r0 + 1 - f0 : Nat) : Int) = (r0 : Int) + 1 - f0 by omega]
      refine ⟨L, ys, .ref u, rfl, rfl, hL7, small1000 (by omega), _, _, _, _, _, _, ys ++ [.ref u], rfl, ?_, upd_same, by rw [List.length_append]; exact Nat.add_le_add_right ly 1, ?_⟩
      · intro b o hb nb
        rw [upd_ne nb]
        exact (s56.trans su) _ _ (sm b o hb nb)
      · rw [take_snoc e1, List.map_append, List.map_append]
        refine Tin.add ((ty.same (s56.trans su)).updl hL7) ?_
        rw [upd_ne nuL, upd_same, eb]
        rfl
    · rintro σ H5 ⟨y8, y10, y11, y12, y13, y14, ys, rfl, sm, h5, ly, ty⟩
      have e : st.take xs.length = st := List.take_of_length_le (by rw [lxs]; exact Nat.le_refl _)
      rw [e, ← est] at ty
      exact ⟨.ref L, rfl, q L ys H5 (fun b o hb => sm b o ((s1'.trans s24) b o hb) (ne_of_none hb fL)) fL h5 ty⟩
end
end Dt
namespace L2X
open PySem PySem.Spec PyProof.Rows L2
theorem pi_listK {X : Cx} {K : PySem.W.Frag} {tg l : Expr} {tl : TE} (hK : X.K = K) (hl : PE X l tl) : PI X tg l (iList K tl) := by
  subst hK
  exact pi_list hl
end L2X
namespace Dt
open PySem PySem.Spec PyProof.Rows L2 L2X
open SX (S)
open Fl
abbrev sFI : Stmt := topS 21
abbrev nFI : List Str := ["picture", "rows", "columns", "across", "boxes", "ahead", "by_rows", "box", "part"]
theorem scFI : FnScope nFI ["picture", "rows", "columns"] (defScope sFI) := ⟨rfl, rfl, rfl, by decide +kernel, rfl, by decide +kernel, by decide +kernel⟩
def spFI (K : PySem.W.Frag) : Sp := fun vs H Q _ => ∃ (a : Addr) (d c high wide : Nat) (rs : List (List Nat)), vs = [.ref a, .int d, .int c] ∧ H a = some (.tup (rs.map rv)) ∧ PicR high wide rs ∧ 1 ≤ d ∧ d ≤ 60 ∧ 1 ≤ c ∧ c ≤ 60 ∧
  ∀ (l : Addr) (xs : List V) (bs : List Bx) H', Same H H' → H l = none → H' l = some (.lst xs) → Flds (DR rs) d c high wide bs → Tin K H' xs (bs.map bI) → Q (.ref l) H'
abbrev FnFI (K : PySem.W.Frag) (f : Addr) (fd : FuncData) : Prop := FunD K "fields" "fields" (defArgs sFI) (defBody sFI) (defScope sFI) [] [("rows", .int 2), ("columns", .int 4)] f fd
theorem fi_binds {K : PySem.W.Frag} {f : Addr} {fd : FuncData} (F : FnFI K f fd) : ∃ mv : List Value, KBn K fd ["picture", "rows", "columns"] 1 ["rows", "columns"] (fun us ws => us ++ ws ++ mv.take 0) (fun vs zs => vs ++ zs ++ ([] : List V)) := by
  obtain ⟨mv, h⟩ := F.kbinds0 (ps := ["picture", "rows", "columns"]) 1 ["rows", "columns"] [] (fun us _ ws => us ++ ws) (by simp) (fun q h => nomatch h) (fun r _ z => r.append z)
    (fun D doc pm an cdv ct us mv ws h1 h2 h3 => match us, ws, mv, h1, h3, h2 with
      | [_], [_, _], [], _, _, _ => rfl)
  exact ⟨mv, ⟨fun s us ws X l1 l2 => by rw [List.take_zero, List.append_nil]; exact h.to s us ws X l1 l2, fun r z => by rw [List.take_zero, List.append_nil, List.append_nil]; exact h.rel r z⟩⟩
/-- what stands at each turn -/
structure FiW (K : PySem.W.Frag) (H0 : Hp) (D : Dots) (d c high wide : Nat) (H : Hp) (l la : Addr) (bs cs : List Bx) : Prop where
  sm : Same H0 H
  lx : ∃ xs, H l = some (.lst xs) ∧ Tin K H xs (bs.map bI)
  ly : ∃ ys, H la = some (.lst ys) ∧ Tin K H ys (cs.map bI)
  dim : Dim bs
  ar : areas bs ≤ high * wide
  itn : ∃ n, bs = it D d c n [whole high wide]
  fx : bs = cs → stepF D d c bs = bs
theorem flat_snoc {α β : Type} {f : α → List β} {bs : List α} {i : Nat} {b : α} (h : bs[i]? = some b) : (bs.take (i + 1)).flatMap f = (bs.take i).flatMap f ++ f b := by
  rw [take_snoc h, List.flatMap_append, List.flatMap_cons, List.flatMap_nil, List.append_nil]
section
variable {P : Program} {w : World} {K : PySem.W.Frag} {mg : Str → Option Value} {base : Heap} {C CP : Addr}
theorem ok_fi {f : Addr} {fd : FuncData} {k : Nat} (F : FnFI K f fd) (T : Tx mg) (mb : ∃ t, mg "MOST_BAND" = some (.int 60 t)) (GW : GW P w K mg base C (k + 1)) (GB : Pm P w K mg base CX0 (k + 1) "is_between" ["thing", "least", "most"] (spBetw K))
    (GC : Pm P w K mg base CX0 (k + 1) "columns_of" ["rows"] spCO) (GP : Pm P w K mg base CX0 (k + 1) "_parted" ["page", "box", "least"] (spPT K)) (GF : Pm P w K mg base CX0 (k + 1) "_flipped" ["box"] spFP) :
    FnOk P w K mg base CX0 (k + 2) f fd ["picture", "rows", "columns"] (spFI K) := by
  obtain ⟨fW, fdW, GW, mW, kW, bW⟩ := GW.ex
  obtain ⟨fB, fdB, GB, mB, kB, bB⟩ := GB.ex
  obtain ⟨fC, fdC, GC, mC, kC, bC⟩ := GC.ex
  obtain ⟨fP, fdP, GP, mP, kP, bP⟩ := GP.ex
  obtain ⟨fF, fdF, GF, mF, kF, bF⟩ := GF.ex
  obtain ⟨tb, hmb⟩ := mb
  refine F.ok scFI (fun vs H Q E h => ?_) (fun cdv A outer s H vs Q E hr h => ?_)
  · obtain ⟨a, _, _, _, _, _, rfl, _⟩ := h
    rfl
  · obtain ⟨a, d, c, high, wide, rs, rfl, ha, pr, d1, d60, c1, c60, q⟩ := h
    have nd := scFI.nd
    refine ⟨_, pss_cons (ps_expr (pe_call GW hr (by rfl) mW kW bW .nil passX0 (pa_cons (pv 0) pa_nil)))
      (pss_cons (ps_if (PW.pt (pw_or (pt_not (pt_val (pe_call GB hr (by rfl) mB kB bB .nil pass0 (pa_cons (pv 1) (pa_cons pe_int (pa_cons (pe_glob (v := .int 60) (by rfl) hmb ⟨_, rfl⟩) pa_nil)))))) (pw_or1 (pt_not (pt_val (pe_call GB hr (by rfl) mB kB bB .nil pass0 (pa_cons (pv 2) (pa_cons pe_int (pa_cons (pe_glob (v := .int 60) (by rfl) hmb ⟨_, rfl⟩) pa_nil))))))))) pss_never pss_nil)
      (pss_cons (ps_set (i := 3) nd rfl (.inr rfl) (pe_call GC hr (by rfl) mC kC bC .nil pass0 (pa_cons (pv 0) pa_nil)))
      (pss_cons (ps_set (i := 4) nd rfl (.inl rfl) (pe_lst (pa_cons (pe_tup (pa_cons pe_int (pa_cons pe_int (pa_cons (pe_callB call_len_seq (by rfl) T.len PySem.boot_len (pa_cons (pv 0) pa_nil)) (pa_cons (pe_callB call_len_seq (by rfl) T.len PySem.boot_len (pa_cons (pv 3) pa_nil)) pa_nil))))) pa_nil)))
      (pss_cons (ps_set (i := 5) nd rfl (.inl rfl) (pe_lst pa_nil))
      (pss_cons (ps_while (passes_of rfl) (pt_cmpR (op_neD hr.units) (pv 4) (pv 5) (nomark _))
        (pss_cons (ps_set (i := 5) nd rfl (.inl rfl) (pv 4))
        (C8.pss_cut (ps_setLc2 (i := 6) (own := [("box", 7), ("part", 8)]) (vs1 := [8]) (g := gName 7) (tt := tYes) (g1 := gName 8) (tt1 := tYes) (by rfl) nd rfl rfl (sw_true rfl rfl rfl (by decide +kernel)) (pi_list (pv 4)) (blkOk_by (N := nFI) (sc := defScope sFI) (by decide +kernel)) (by decide)
            (fun _ _ _ _ _ => pg_name (i := 7) nd rfl (Or.inl rfl)) (fun _ _ _ _ _ => pts_nil) (fun _ _ _ _ _ => pi_listK (K := K) rfl (pe_call GP hr (by rfl) mP kP bP .nil pass0 (pa_cons (pv 0) (pa_cons (pv 7) (pa_cons (pv 1) pa_nil)))))
            (fun _ _ _ _ _ => pg_name (i := 8) nd rfl (Or.inl rfl)) (fun _ _ _ _ _ => pts_nil) (fun _ _ _ _ _ => pv 8))
        (pss_one (ps_setLc2 (i := 4) (own := [("box", 7), ("part", 8)]) (vs1 := [8]) (g := gName 7) (tt := tYes) (g1 := gName 8) (tt1 := tYes) (by rfl) nd rfl rfl (sw_true rfl rfl rfl (by decide +kernel)) (pi_list (pv 6)) (blkOk_by (N := nFI) (sc := defScope sFI) (by decide +kernel)) (by decide)
            (fun _ _ _ _ _ => pg_name (i := 7) nd rfl (Or.inl rfl)) (fun _ _ _ _ _ => pts_nil) (fun _ _ _ _ _ => pi_listK (K := K) rfl (pe_call GP hr (by rfl) mP kP bP .nil pass0 (pa_cons (pv 3) (pa_cons (pe_call GF hr (by rfl) mF kF bF .nil pass0 (pa_cons (pv 7) pa_nil)) (pa_cons (pv 2) pa_nil)))))
            (fun _ _ _ _ _ => pg_name (i := 8) nd rfl (Or.inl rfl)) (fun _ _ _ _ _ => pts_nil) (fun _ _ _ _ _ => pe_call GF hr (by rfl) mF kF bF .nil pass0 (pa_cons (pv 8) pa_nil)))))))
      (pss_one (ps_ret (pv 4)))))))), ?_⟩
    have h0 := pr.h0
    have h1 := pr.h1
    have w0 := pr.w0
    have w1 := pr.w1
    have hlen := pr.len
    have br := pr.big
    have b1 : betw (.int d) 1 60 = true := by
      rw [betw_int, decide_eq_true (by omega), decide_eq_true (by omega)]
      rfl
    have b2 : betw (.int c) 1 60 = true := by
      rw [betw_int, decide_eq_true (by omega), decide_eq_true (by omega)]
      rfl
    refine ⟨.ref a, rfl, .ref a, true, rfl, askPic pr ha, fun _ H1 s1 => ?_, fun e => nomatch e⟩
    refine ⟨.int d, rfl, .int d, 1, 60, rfl, kt_int _, _, rfl, ?_⟩
    rw [b1]
    refine iteF ⟨.int c, rfl, .int c, 1, 60, rfl, kt_int _, _, rfl, ?_⟩
    rw [b2]
    refine iteF ⟨.ref a, rfl, a, high, wide, rs, rfl, s1 _ _ ha, br, fun A H2 s2 nA hA => ?_⟩
    have s12 := s1.trans s2
    have ha2 := s12 _ _ ha
    have lw : ((colsW wide rs).map rv).length = wide := by
      rw [List.length_map]
      unfold colsW
      rw [List.length_map, List.length_range]
    have lh : (rs.map rv).length = high := by rw [List.length_map, hlen]
    have brc := br.cols
    have edc := DR_cols br.r
    generalize eD : DR rs = D at edc q
    refine ⟨.ref a, rfl, a, _, rfl, .inr (SqT.of ha2), .ref A, rfl, A, _, rfl, .inl (SqL.of hA), by show 4 ≤ sizeLine; decide, fun t0 ht0 => ⟨by show 1 ≤ sizeLine; decide, fun l0 hl0 => ?_⟩⟩
    rw [lh, lw] at hl0 ⊢
    have sB := (same_upd (o := .tup [V.int 0, V.int 0, V.int (high : Int), V.int (wide : Int)]) ht0).trans (same_upd (o := .lst [V.ref t0]) hl0)
    have hl0' : (upd (upd H2 t0 (.tup [V.int 0, V.int 0, V.int (high : Int), V.int (wide : Int)])) l0 (.lst [V.ref t0])) l0 = some (.lst [V.ref t0]) := upd_same
    have tn0 : Tin K (upd (upd H2 t0 (.tup [V.int 0, V.int 0, V.int (high : Int), V.int (wide : Int)])) l0 (.lst [V.ref t0])) [V.ref t0] ([whole high wide].map bI) := by
      refine Tin.add (xs := []) (bs := []) Tin.nil ?_
      refine same_upd hl0 _ _ ?_
      rw [upd_same]
      rfl
    have nl0 : H l0 = none := (s12.trans (same_upd ht0)).free hl0
    generalize upd (upd H2 t0 (.tup [V.int 0, V.int 0, V.int (high : Int), V.int (wide : Int)])) l0 (.lst [V.ref t0]) = H3 at sB hl0' tn0
    refine ⟨by show 0 ≤ sizeLine; decide, fun la hla => ?_⟩
    have sC := sB.trans (same_upd (o := .lst []) hla)
    have sl := same_upd (o := .lst []) hla
    have hla' : (upd H3 la (.lst [])) la = some (.lst []) := upd_same
    generalize upd H3 la (.lst []) = H4 at sC sl hla'
    refine ⟨fun m σ H' => ∃ (l la : Addr) (y6 : Option V) (bs cs : List Bx), m = areas bs + (if bs = cs then 0 else 1) ∧ σ = [some (.ref a), some (.int d), some (.int c), some (.ref A), some (.ref l), some (.ref la), y6, none, none] ∧ H l = none ∧ FiW K H2 D d c high wide H' l la bs cs, ⟨_, l0, la, none, [whole high wide], [], rfl, rfl, nl0, ⟨sC, ⟨_, sl _ _ hl0', tn0.same sl⟩, ⟨[], hla', Tin.nil⟩, whole_dim h0 w0, by rw [whole_areas]; exact Nat.le_refl _, ⟨0, rfl⟩, fun z => nomatch z⟩⟩, ?_⟩
    rintro m σ H5 ⟨l, la, y6, bs, cs, rfl, rfl, nl, W⟩
    obtain ⟨xs, hl, tn⟩ := W.lx
    obtain ⟨ys, hly, ty⟩ := W.ly
    refine ⟨.ref l, rfl, .ref la, rfl, .list ((bs.map bI).map iD), .list ((cs.map bI).map iD), .lst (SqL.of hl) (dp_tin tn), .lst (SqL.of hly) (dp_tin ty), shaped_tins _, shaped_tins _, _, rfl, ?_⟩
    rw [ne_bs]
    have S5 := s12.trans W.sm
    have ha5 := W.sm _ _ ha2
    have hA5 := W.sm _ _ hA
    have dim := W.dim
    have ar := W.ar
    have fx := W.fx
    obtain ⟨nn, itn⟩ := W.itn
    have sm2 := W.sm
    clear W
    by_cases e : bs = cs
    · rw [decide_eq_true e]
      refine iteF ⟨.ref l, rfl, q l xs bs H5 S5 nl hl ⟨fx e, nn, itn⟩ tn⟩
    rw [decide_eq_false e, if_neg e]
    refine iteT ⟨fun σ' H' => ∃ m', m' < areas bs + 1 ∧ ∃ (l la : Addr) (y6 : Option V) (bs cs : List Bx), m' = areas bs + (if bs = cs then 0 else 1) ∧ σ' = [some (.ref a), some (.int d), some (.int c), some (.ref A), some (.ref l), some (.ref la), y6, none, none] ∧ H l = none ∧ FiW K H2 D d c high wide H' l la bs cs, fun _ _ h => h, ?_⟩
    have lay : Lay D (whole high wide) bs := by
      rw [itn]
      exact (Lay.one D (whole high wide)).it d c nn
    have lbs : bs.length ≤ 7200 := by
      have := dim_len dim
      have h2 : high * wide ≤ 60 * 120 := Nat.mul_le_mul h1 w1
      omega
    have lx : xs.length = bs.length := by rw [tn.len, List.length_map]
    refine ⟨.ref l, rfl, ?_⟩
    refine ⟨fun σ' H' => ∃ (lb : Addr) (zs : List V), σ' = [some (.ref a), some (.int d), some (.int c), some (.ref A), some (.ref l), some (.ref l), some (.ref lb), none, none] ∧ Same H5 H' ∧ H' lb = some (.lst zs) ∧ Tin K H' zs ((bs.flatMap (parted D d)).map bI), ?_, ?_⟩
    · refine ⟨.ref l, rfl, l, rfl, ⟨_, SqL.of hl⟩, fun D0 hD0 => lc2_by bs.length (fun i H4 => Same H5 H4 ∧ ∃ zs, H4 D0 = some (.lst zs) ∧ Tin K H4 zs (((bs.take i).flatMap (parted D d)).map bI) ∧ zs.length ≤ i * 120) ?_ ?_ ?_ ?_ ?_⟩
      · exact ⟨same_upd hD0, [], upd_same, Tin.nil, Nat.zero_le _⟩
      · rintro H6 ⟨sm, _⟩
        exact ⟨_, SqL.of (sm _ _ hl), by rw [lx]; exact Nat.le_refl _⟩
      · rintro i H6 hi ⟨sm, _⟩
        exact ⟨_, _, SqL.of (sm _ _ hl), List.getElem?_eq_getElem (by rw [lx]; exact hi)⟩
      · rintro i x H6 H7 hi ⟨sm, zs, h6, tz, lz⟩ ⟨rfl, hx⟩
        have eb : bs[i]? = some bs[i] := List.getElem?_eq_getElem hi
        have hb : bs[i] ∈ bs := List.getElem_mem hi
        generalize bs[i] = b at eb hb
        obtain ⟨t, rfl, ht⟩ := tn.at_ i x (bI b) (hx _ (SqL.of (sm _ _ hl))) (by rw [List.getElem?_map, eb]; rfl)
        obtain ⟨u1, u2, u3, u4⟩ := lay.sub b hb
        have bh : b.t + b.h ≤ high := by have : (whole high wide).t + (whole high wide).h = 0 + high := rfl; omega
        have bw : b.l + b.w ≤ wide := by have : (whole high wide).l + (whole high wide).w = 0 + wide := rfl; omega
        have pl := parted_len D d b
        refine ⟨rfl, .ref a, rfl, .ref t, rfl, .int d, rfl, false, a, t, high, wide, rs, b, d, rfl, sm _ _ ha5, br, sm _ _ ht, bh, bw, fun l1 ws H8 s8 n8 h8 t8 => ?_⟩
        rw [eD] at t8
        refine ⟨l1, rfl, ⟨_, SqL.of h8⟩, lc2_in (parted D d b).length (fun j H9 => Same H5 H9 ∧ H9 l1 = some (.lst ws) ∧ Tin K H9 ws ((parted D d b).map bI) ∧ ∃ zs, H9 D0 = some (.lst zs) ∧ Tin K H9 zs (((bs.take i).flatMap (parted D d) ++ (parted D d b).take j).map bI) ∧ zs.length ≤ i * 120 + j) ?_ ?_ ?_ ?_ ?_⟩
        · refine ⟨sm.trans s8, h8, t8, zs, s8 _ _ h6, ?_, lz⟩
          rw [List.take_zero, List.append_nil]
          exact tz.same s8
        · rintro H9 ⟨_, h9, t9, _⟩
          exact ⟨_, SqL.of h9, by rw [t9.len, List.length_map]; exact Nat.le_refl _⟩
        · rintro j H9 hj ⟨_, h9, t9, _⟩
          exact ⟨_, _, SqL.of h9, List.getElem?_eq_getElem (by rw [t9.len, List.length_map]; exact hj)⟩
        · rintro j y H9 H10 hj ⟨sm9, h9, t9, zs9, hz9, tz9, lz9⟩ ⟨rfl, hy⟩
          have ep : (parted D d b)[j]? = some (parted D d b)[j] := List.getElem?_eq_getElem hj
          generalize (parted D d b)[j] = p at ep
          obtain ⟨u, rfl, hu⟩ := t9.at_ j y (bI p) (hy _ (SqL.of h9)) (by rw [List.getElem?_map, ep]; rfl)
          have nuD : u ≠ D0 := ne_of hu hz9 (by intro z; cases z)
          have nlD : l1 ≠ D0 := by
            rintro rfl
            rw [n8] at h6
            cases h6
          refine ⟨rfl, .ref u, rfl, zs9, hz9, ?_, same_over sm9 hD0, ?_, t9.updl hz9, zs9 ++ [.ref u], upd_same, ?_, by rw [List.length_append]; exact Nat.add_le_add_right lz9 1⟩
          · rw [sizeLine_eq]
            omega
          · rw [upd_ne nlD]
            exact h9
          · rw [take_snoc ep, ← List.append_assoc, List.map_append]
            refine Tin.add (tz9.updl hz9) ?_
            rw [upd_ne nuD]
            exact hu
        · rintro H9 ⟨sm9, h9, t9, zs9, hz9, tz9, lz9⟩
          rw [List.take_length, ← flat_snoc eb] at tz9
          exact ⟨sm9, zs9, hz9, tz9, by omega⟩
      · rintro H6 ⟨sm, zs, h6, tz, lz⟩
        rw [List.take_length] at tz
        exact ⟨D0, zs, rfl, sm, h6, tz⟩
    rintro _ H6 ⟨lb, zb, rfl, s6, hlb, tb⟩
    have C1 := cut_rows D d
    have layB := lay.cut C1
    have dimB : Dim (bs.flatMap (parted D d)) := flat_dim fun b => parted_dim D d b
    have arB : areas (bs.flatMap (parted D d)) ≤ areas bs := (flat_area bs fun b hb => row_area d1 (dim b hb)).1
    have estep : stepF D d c bs = (bs.flatMap (parted D d)).flatMap (cols D c) := rfl
    generalize bs.flatMap (parted D d) = qs at tb layB dimB arB estep
    have lqs : qs.length ≤ 7200 := by
      have := dim_len dimB
      have h2 : high * wide ≤ 60 * 120 := Nat.mul_le_mul h1 w1
      omega
    have lzb : zb.length = qs.length := by rw [tb.len, List.length_map]
    have hA6 := s6 _ _ hA5
    refine ⟨.ref lb, rfl, lb, rfl, ⟨_, SqL.of hlb⟩, fun D0 hD0 => lc2_by qs.length (fun i H4 => Same H6 H4 ∧ ∃ zs, H4 D0 = some (.lst zs) ∧ Tin K H4 zs (((qs.take i).flatMap (cols D c)).map bI) ∧ zs.length ≤ i * 120) ?_ ?_ ?_ ?_ ?_⟩
    · exact ⟨same_upd hD0, [], upd_same, Tin.nil, Nat.zero_le _⟩
    · rintro H7 ⟨sm, _⟩
      exact ⟨_, SqL.of (sm _ _ hlb), by rw [lzb]; exact Nat.le_refl _⟩
    · rintro i H7 hi ⟨sm, _⟩
      exact ⟨_, _, SqL.of (sm _ _ hlb), List.getElem?_eq_getElem (by rw [lzb]; exact hi)⟩
    · rintro i x H7 H8 hi ⟨sm, zs, h7, tz, lz⟩ ⟨rfl, hx⟩
      have eb : qs[i]? = some qs[i] := List.getElem?_eq_getElem hi
      have hb : qs[i] ∈ qs := List.getElem_mem hi
      generalize qs[i] = b at eb hb
      obtain ⟨t, rfl, ht⟩ := tb.at_ i x (bI b) (hx _ (SqL.of (sm _ _ hlb))) (by rw [List.getElem?_map, eb]; rfl)
      obtain ⟨u1, u2, u3, u4⟩ := layB.sub b hb
      have bh : b.flip.l + b.flip.w ≤ high := by have : (whole high wide).t + (whole high wide).h = 0 + high := rfl; show b.t + b.h ≤ high; omega
      have bw : b.flip.t + b.flip.h ≤ wide := by have : (whole high wide).l + (whole high wide).w = 0 + wide := rfl; show b.l + b.w ≤ wide; omega
      have pl : (cols D c b).length ≤ b.flip.h := by
        show ((parted (tr D) c b.flip).map Bx.flip).length ≤ _
        rw [List.length_map]
        exact parted_len (tr D) c b.flip
      refine ⟨rfl, .ref A, rfl, .ref t, rfl, t, b, rfl, sm _ _ ht, fun p H9 s9 n9 hp => ?_⟩
      refine ⟨.int c, rfl, true, A, p, wide, high, colsW wide rs, b.flip, c, rfl, s9 _ _ (sm _ _ hA6), brc, hp, bw, bh, fun l1 ws H10 s10 n10 h10 t10 => ?_⟩
      rw [edc] at t10
      have s910 := s9.trans s10
      have lcol : (cols D c b).length = (parted (tr D) c b.flip).length := List.length_map _
      refine ⟨l1, rfl, ⟨_, SqL.of h10⟩, lc2_in (cols D c b).length (fun j H9 => Same H6 H9 ∧ H9 l1 = some (.lst ws) ∧ Tin K H9 ws ((parted (tr D) c b.flip).map bI) ∧ ∃ zs, H9 D0 = some (.lst zs) ∧ Tin K H9 zs (((qs.take i).flatMap (cols D c) ++ (cols D c b).take j).map bI) ∧ zs.length ≤ i * 120 + j) ?_ ?_ ?_ ?_ ?_⟩
      · refine ⟨sm.trans s910, h10, t10, zs, s910 _ _ h7, ?_, lz⟩
        rw [List.take_zero, List.append_nil]
        exact tz.same s910
      · rintro H9 ⟨_, h9, t9, _⟩
        exact ⟨_, SqL.of h9, by rw [t9.len, List.length_map, lcol]; exact Nat.le_refl _⟩
      · rintro j H9 hj ⟨_, h9, t9, _⟩
        exact ⟨_, _, SqL.of h9, List.getElem?_eq_getElem (by rw [t9.len, List.length_map, ← lcol]; exact hj)⟩
      · rintro j y H9' H10' hj ⟨sm9, h9, t9, zs9, hz9, tz9, lz9⟩ ⟨rfl, hy⟩
        have ep : (parted (tr D) c b.flip)[j]? = some (parted (tr D) c b.flip)[j] := List.getElem?_eq_getElem (by rw [← lcol]; exact hj)
        generalize (parted (tr D) c b.flip)[j] = p0 at ep
        have ec : (cols D c b)[j]? = some p0.flip := by
          show ((parted (tr D) c b.flip).map Bx.flip)[j]? = _
          rw [List.getElem?_map, ep]
          rfl
        obtain ⟨u, rfl, hu⟩ := t9.at_ j y (bI p0) (hy _ (SqL.of h9)) (by rw [List.getElem?_map, ep]; rfl)
        have nlD : l1 ≠ D0 := by
          rintro rfl
          rw [s9.free n10] at h7
          cases h7
        refine ⟨rfl, .ref u, rfl, u, p0, rfl, hu, fun pf H11 s11 n11 hpf => ?_⟩
        have hz11 := s11 _ _ hz9
        have npD : pf ≠ D0 := (ne_of_none hz9 n11).symm
        refine ⟨zs9, hz11, ?_, same_over (sm9.trans s11) hD0, ?_, (t9.same s11).updl hz11, zs9 ++ [.ref pf], upd_same, ?_, by rw [List.length_append]; exact Nat.add_le_add_right lz9 1⟩
        · rw [sizeLine_eq]
          have : b.flip.h ≤ wide := by omega
          omega
        · rw [upd_ne nlD]
          exact s11 _ _ h9
        · rw [take_snoc ec, ← List.append_assoc, List.map_append]
          refine Tin.add ((tz9.same s11).updl hz11) ?_
          rw [upd_ne npD]
          exact hpf
      · rintro H9' ⟨sm9, h9, t9, zs9, hz9, tz9, lz9⟩
        rw [List.take_length, ← flat_snoc eb] at tz9
        have : b.flip.h ≤ wide := by omega
        exact ⟨sm9, zs9, hz9, tz9, by omega⟩
    · rintro H7 ⟨sm, zs, h7, tz, lz⟩
      rw [List.take_length, ← estep] at tz
      obtain ⟨sa1, sa2⟩ := step_area (D := D) d1 c1 dim
      refine ⟨_, ?_, D0, l, some (.ref lb), stepF D d c bs, bs, rfl, rfl, (S5.trans s6).free hD0, ⟨(sm2.trans s6).trans sm, ⟨zs, h7, tz⟩, ⟨xs, (s6.trans sm) _ _ hl, tn.same (s6.trans sm)⟩, step_dim D d c bs, Nat.le_trans sa1 ar, ⟨nn + 1, by rw [it_succ, ← itn]⟩, fun z => by rw [z, z]⟩⟩
      by_cases es : stepF D d c bs = bs
      · rw [if_pos es, es]
        omega
      · rw [if_neg es]
        have : areas (stepF D d c bs) ≠ areas bs := fun z => es (step_same (sa2 (by omega)))
        omega
end
end Dt
namespace L2X
open PySem PySem.Spec PyProof.Rows L2
section
variable {X : Cx}
/-- l.count(x) of data -/
def rCountD (K : PySem.W.Frag) : V → List V → Hp → VK → Prop := fun x xs H Q => ∃ (a : Addr) (y : V) (d : PyData) (ds : List PyData), x = V.ref a ∧ xs = [y] ∧ Dp K H (V.ref a) (.list ds) ∧ Dp K H y d ∧
  SeqAt.shaped (.list ds) = true ∧ SeqAt.shaped d = true ∧ Q (.int (ds.countP fun z => PyData.eqv z d : Nat)) H
theorem mt_countD (hu : X.A.units + 65 < cLine) : MtR X "list.count" (rCountD X.K) := by
  intro pins s σ H x xs v us Q I rx rxs h
  obtain ⟨a, y, d, ds, rfl, rfl, hl, hy, sl, sd, q⟩ := h
  cases rx
  obtain ⟨uy, rfl, ry⟩ := rxs.one
  obtain ⟨bs, r1⟩ := Dp.reads I d y uy hy ry
  have hxs : PyData.canLayAll0 ds = true := SeqAt.canLay_of_shaped sl
  have hroom : X.A.units + 1 + min (PyData.depthAll ds) d.depth < cLine := room_in_shaped sd hu
  cases hl with
  | lst hs ha =>
    obtain ⟨its, rv, ⟨⟨cls, dd, data, sls⟩, n, ho, hc, hdn, hdt⟩, hlen⟩ := I.list hs
    simp only at hc hdt
    subst hc hdt
    obtain ⟨as, h4⟩ := Dp.readsAll I ds _ its ha rv
    have hmap : its.map (SeqAt.readOf s.heap) = ds := SeqAt.readsAll_map ds its as hxs h4
    refine call_meets PySem.F.slot_list_count ⟨_, ho, rfl⟩ PySem.F.entry_list_count (PySem.F.args_list_count_2 _ _)
      (SeqAt.list_countAt a its.toArray n dd sls uy (fun u => PyData.eqv (SeqAt.readOf s.heap u) d)) ⟨ho, SeqAt.items_eqAt (vs := its.toArray) (show ReadsAll s.heap its.toArray.toList ds as from h4) r1 hxs (SeqAt.canLay_of_shaped sd) hroom, ?_⟩
    have ec : its.toArray.toList.countP (fun u => PyData.eqv (SeqAt.readOf s.heap u) d) = ds.countP fun z => PyData.eqv z d := by
      rw [← hmap, List.countP_map]
      rfl
    refine ⟨.int (ds.countP fun z => PyData.eqv z d : Nat), H, I.tok _, ⟨s.toks, ?_⟩, q⟩
    show Value.int ((its.toArray.toList.countP (fun u => PyData.eqv (SeqAt.readOf s.heap u) d) : Nat) : Int) s.toks = Value.int ((ds.countP fun z => PyData.eqv z d : Nat) : Int) s.toks
    rw [ec]
theorem pe_countK {X : Cx} {o e : Expr} {to te : TE} {pos apos : Pos} {K : PySem.W.Frag} (hK : X.K = K) (hu : X.A.units + 65 < cLine) (ho : PE X o to) (he : PE X e te)
    (hbase : attributeBase o "count" X.env (eval o X.env) = eval o X.env := by rfl)
    (hfew : ((backTo pos (starEach (e :: []) X.env)).all (fun x => !x.1) && (backToKw pos (keywordEach [] X.env)).all (fun x => x.1.isSome)
      && decide ((e :: []).length + ([] : List Keyword).length + (if ([] : List Keyword).isEmpty then 0 else 1) < 30)) = true := by rfl)
    (hline : (apos.endLine == pos.line) = true := by rfl) (hs : starEach (e :: []) X.env = (false, eval e X.env) :: starEach [] X.env := by rfl) (hplain : (backTo pos (starEach [] X.env)).any (·.1) = false := by rfl) :
    PE X (.Call (.Attribute o "count" apos) [e] [] pos) (tBM K "list" (rCountD K) to (tCons te tNil)) := by
  subst hK
  exact pe_bm PySem.F.plainAttrs_list PySem.F.slot_list_count PySem.F.type_list_count (mt_countD hu) ho (pa_cons he pa_nil hs) hbase hfew hline hs hplain
end
theorem for_enumG {K : PySem.W.Frag} {A : Src} {xs : List V} {g : TG} {tb : TS} {D : Ends} {σ : L2.St} {H : Hp} (Pv : Nat → L2.St → Hp → Prop) (h0 : Pv 0 σ H) (hl : ∀ i σ H, i ≤ xs.length → Pv i σ H → A.has K H xs)
    (hs : ∀ i x σ H T, xs[i]? = some x → Pv i σ H → H T = none → g (.ref T) σ (upd H T (.tup [.int (i : Nat), x])) fun σ2 H2 => tb { D with nx := Pv (i + 1), ct := Pv (i + 1), bk := D.nx } σ2 H2) (hd : ∀ σ H, Pv xs.length σ H → D.nx σ H) :
    ∃ W : Nat → Nat → L2.St → Hp → Prop, (∃ m, W 0 m σ H) ∧ ∀ i m σ H, W i m σ H →
      ((IteG K A).stop i H ∧ D.nx σ H) ∨ ((IteG K A).go i H ∧ ∃ N : L2.St → Hp → Prop, (∀ σ' H', N σ' H' → ∃ m', m' < m ∧ W (i + 1) m' σ' H') ∧ ∀ x H', (IteG K A).yld i H x H' → g x σ H' fun σ2 H2 => tb { D with nx := N, ct := N, bk := D.nx } σ2 H2) := by
  refine ⟨fun i m σ H => m = xs.length - i ∧ i ≤ xs.length ∧ Pv i σ H, ⟨xs.length, by simp, Nat.zero_le _, h0⟩, ?_⟩
  rintro i m σ H ⟨rfl, hi, p⟩
  have qx := hl i σ H hi p
  by_cases hlt : i < xs.length
  · have ex : xs[i]? = some xs[i] := List.getElem?_eq_getElem hlt
    refine .inr ⟨⟨xs, _, qx, ex⟩, Pv (i + 1), fun σ' H' p' => ⟨xs.length - (i + 1), by omega, rfl, hlt, p'⟩, fun x H' y => ?_⟩
    obtain ⟨T, u, rfl, nT, rfl, z1⟩ := y
    exact hs i u σ H T (z1 xs qx) p nT
  · have e : i = xs.length := by omega
    subst e
    exact .inl ⟨⟨xs, qx, rfl⟩, hd σ H p⟩
end L2X
namespace Dt
open PySem PySem.Spec PyProof.Rows L2 L2X
open SX (S)
theorem mul_sign' (c n : Nat) : Txt.mul (S [c]) (n : Int) = S (List.replicate n c) := by
  by_cases h : 1 ≤ n
  · exact mul_sign c n h
  · have : n = 0 := by omega
    subst this
    rfl
theorem mul_ok' (c n : Nat) (h2 : n ≤ 120) : MulOk (S [c]) (n : Int) := by
  by_cases h : 1 ≤ n
  · exact mul_ok c n h h2
  · have : n = 0 := by omega
    subst this
    exact ⟨by decide, fun z => absurd (by decide) z, fun z => absurd (by decide) z⟩
theorem app_S (a b : List Nat) : S a ++ S b = S (a ++ b) := by
  show Str.mk _ = Str.mk _
  congr 1
  simp [S]
end Dt
namespace Fl
instance (b : Bx) (r c : Nat) : Decidable (b.In r c) := by
  unfold Bx.In
  infer_instance
theorem count_none {r c : Nat} : ∀ {bs : List Bx}, (∀ b ∈ bs, ¬ b.In r c) → bs.countP (fun b => decide (b.In r c)) = 0
  | [], _ => rfl
  | b :: bs, h => by
    rw [List.countP_cons, count_none fun x hx => h x (List.mem_cons_of_mem _ hx), if_neg]
    intro z
    exact h b List.mem_cons_self (of_decide_eq_true z)
theorem count_one {r c : Nat} : ∀ {bs : List Bx}, bs.Pairwise Apart → (∃ b ∈ bs, b.In r c) → bs.countP (fun b => decide (b.In r c)) = 1
  | [], _, h => by
    obtain ⟨b, hb, _⟩ := h
    cases hb
  | b :: bs, hp, h => by
    obtain ⟨h1, h2⟩ := List.pairwise_cons.mp hp
    rw [List.countP_cons]
    by_cases hb : b.In r c
    · rw [if_pos (decide_eq_true hb), count_none fun x hx z => apart_eq hb z (h1 x hx)]
    · rw [if_neg fun z => hb (of_decide_eq_true z), count_one h2]
      obtain ⟨x, hx, hi⟩ := h
      rcases List.mem_cons.mp hx with rfl | hx
      · exact absurd hi hb
      · exact ⟨x, hx, hi⟩
end Fl
namespace Dt
open PySem PySem.Spec PyProof.Rows L2 L2X
open SX (S)
open Fl
abbrev sSP : Stmt := topS 33
abbrev nSP : List Str := ["picture", "found", "at", "line", "column", "sign"]
theorem scSP : FnScope nSP ["picture"] (defScope sSP) := ⟨rfl, rfl, rfl, by decide +kernel, rfl, by decide +kernel, by decide +kernel⟩
def spSP (K : PySem.W.Frag) : Sp := fun vs H Q _ => ∃ (a : Addr) (high wide : Nat) (rs : List (List Nat)), vs = [.ref a] ∧ H a = some (.tup (rs.map rv)) ∧ PicR high wide rs ∧
  ∀ (l : Addr) (xs : List V) (ps : List (Nat × Nat)) H', Same H H' → H' l = some (.lst xs) → Tin K H' xs (ps.map pI) → (∀ p ∈ ps, DR rs p.1 p.2 = true) → Q (.ref l) H'
abbrev sIN : Stmt := topS 34
abbrev nIN : List Str := ["box", "spot", "top", "left", "deep", "wide"]
theorem scIN : FnScope nIN ["box", "spot"] (defScope sIN) := ⟨rfl, rfl, rfl, by decide +kernel, rfl, by decide +kernel, by decide +kernel⟩
def spIN : Sp := fun vs H Q _ => ∃ (t s : Addr) (b : Bx) (r c : Nat), vs = [.ref t, .ref s] ∧ H t = some (.tup ((bI b).map V.int)) ∧ H s = some (.tup ((pI (r, c)).map V.int)) ∧ Q (.bl (decide (b.In r c))) H
abbrev sME : Stmt := topS 35
theorem scME : FnScope ["one", "other"] ["one", "other"] (defScope sME) := ⟨rfl, rfl, rfl, by decide +kernel, rfl, by decide +kernel, by decide +kernel⟩
def spME : Sp := fun vs H Q _ => ∃ (t s : Addr) (b p : Bx), vs = [.ref t, .ref s] ∧ H t = some (.tup ((bI b).map V.int)) ∧ H s = some (.tup ((bI p).map V.int)) ∧ Fl.Apart b p ∧ Q (.bl false) H
section
variable {P : Program} {w : World} {K : PySem.W.Frag} {mg : Str → Option Value} {base : Heap} {C CP : Addr}
theorem ok_in {f : Addr} {fd : FuncData} {k : Nat} (F : Fun K "_law_inside" "_law_inside" sIN f fd) : FnOk P w K mg base CX0 (k + 1) f fd ["box", "spot"] spIN := by
  refine F.ok scIN (fun vs H Q E h => ?_) (fun cdv A outer s H vs Q E hr h => ?_)
  · obtain ⟨t, s, _, _, _, rfl, _⟩ := h
    rfl
  · obtain ⟨t, s0, b, r, c, rfl, ht, hs, q⟩ := h
    have nd := scIN.nd
    refine ⟨_, pss_cons (ps_asg (pv 0) (pg_tup rfl (pgs_cons (pg_name (i := 2) nd rfl (Or.inl rfl)) (pgs_cons (pg_name (i := 3) nd rfl (Or.inl rfl)) (pgs_cons (pg_name (i := 4) nd rfl (Or.inl rfl)) (pgs_cons (pg_name (i := 5) nd rfl (Or.inl rfl)) pgs_nil))))))
      (pss_one (ps_ret (pe_and (pe_chain op_le op_lt (pv 2) (pe_ix ix_tup (pv 1) pe_int (fun _ _ => rfl)) (pe_op op_add (pv 2) (pv 4))) (pe_one (pe_chain op_le op_lt (pv 3) (pe_ix ix_tup (pv 1) pe_int (fun _ _ => rfl)) (pe_op op_add (pv 3) (pv 5))))))), ?_⟩
    refine ⟨.ref t, rfl, t, _, rfl, SqT.of ht, rfl, _, _, rfl, _, _, rfl, _, _, rfl, _, _, rfl, rfl, ?_⟩
    have q2 : ∀ k : Bool, (k = true ↔ b.In r c) → Q (.bl k) H := fun k e => by
      have : k = decide (b.In r c) := by
        apply Bool.eq_iff_iff.mpr
        rw [decide_eq_true_iff]
        exact e
      rw [this]
      exact q
    refine ⟨.int b.t, rfl, .ref s0, rfl, s0, _, 0, .int r, rfl, rfl, SqT.of hs, rfl, _, _, rfl, rfl, _, rfl, ite2 (fun e1 => ?_) (fun e1 => ?_)⟩
    · refine ⟨.int b.t, rfl, .int b.h, rfl, b.t, b.h, rfl, rfl, _, _, rfl, rfl, _, rfl, ite2 (fun e2 => ?_) (fun e2 => ?_)⟩
      · refine ⟨.int b.l, rfl, .ref s0, rfl, s0, _, 1, .int c, rfl, rfl, SqT.of hs, rfl, _, _, rfl, rfl, _, rfl, ite2 (fun e3 => ?_) (fun e3 => ?_)⟩
        · refine ⟨.int b.l, rfl, .int b.w, rfl, b.l, b.w, rfl, rfl, _, _, rfl, rfl, q2 _ ?_⟩
          have g1 := of_decide_eq_true e1
          have g2 := of_decide_eq_true e2
          have g3 := of_decide_eq_true e3
          rw [decide_eq_true_iff]
          unfold Bx.In
          omega
        · have g3 : ¬ ((b.l : Int) ≤ c) := fun z => e3 (decide_eq_true z)
          refine q2 false ?_
          unfold Bx.In
          constructor
          · intro z; cases z
          · intro z; omega
      · have g3 : ¬ ((r : Int) < (b.t : Int) + b.h) := fun z => e2 (decide_eq_true z)
        refine q2 false ?_
        unfold Bx.In
        constructor
        · intro z; cases z
        · intro z; omega
    · have g3 : ¬ ((b.t : Int) ≤ r) := fun z => e1 (decide_eq_true z)
      have qf : Q (.bl false) H := by
        refine q2 false ?_
        unfold Bx.In
        constructor
        · intro z; cases z
        · intro z; omega
      exact ⟨false, rfl, iteF qf⟩
theorem ok_me {f : Addr} {fd : FuncData} {k : Nat} (F : Fun K "_law_meet" "_law_meet" sME f fd) : FnOk P w K mg base CX0 (k + 1) f fd ["one", "other"] spME := by
  refine F.ok scME (fun vs H Q E h => ?_) (fun cdv A outer s H vs Q E hr h => ?_)
  · obtain ⟨t, s, _, _, rfl, _⟩ := h
    rfl
  · obtain ⟨t, s0, b, p, rfl, ht, hs, ap, q⟩ := h
    have nd := scME.nd
    refine ⟨_, pss_cons (ps_if (PW.pt (pw_or (pt_cmpR op_le (pe_op op_add (pe_ix ix_tup (pv 0) pe_int (fun _ _ => rfl)) (pe_ix ix_tup (pv 0) pe_int (fun _ _ => rfl))) (pe_ix ix_tup (pv 1) pe_int (fun _ _ => rfl)) (nomark _)) (pw_or1 (pt_cmpR op_le (pe_op op_add (pe_ix ix_tup (pv 1) pe_int (fun _ _ => rfl)) (pe_ix ix_tup (pv 1) pe_int (fun _ _ => rfl))) (pe_ix ix_tup (pv 0) pe_int (fun _ _ => rfl)) (nomark _))))) (pss_one (ps_ret pe_bl)) pss_nil)
      (pss_one (ps_ret (pe_and (pe_cmpR op_gt (pe_op op_add (pe_ix ix_tup (pv 0) pe_int (fun _ _ => rfl)) (pe_ix ix_tup (pv 0) pe_int (fun _ _ => rfl))) (pe_ix ix_tup (pv 1) pe_int (fun _ _ => rfl)) (nomark _)) (pe_one (pe_cmpR op_gt (pe_op op_add (pe_ix ix_tup (pv 1) pe_int (fun _ _ => rfl)) (pe_ix ix_tup (pv 1) pe_int (fun _ _ => rfl))) (pe_ix ix_tup (pv 0) pe_int (fun _ _ => rfl)) (nomark _)))))), ?_⟩
    have T0 := SqT.of (K := K) ht
    have S0 := SqT.of (K := K) hs
    refine ⟨.ref t, rfl, t, _, 0, .int b.t, rfl, rfl, T0, rfl, .ref t, rfl, t, _, 2, .int b.h, rfl, rfl, T0, rfl, _, _, rfl, rfl, .ref s0, rfl, s0, _, 0, .int p.t, rfl, rfl, S0, rfl, _, _, rfl, rfl, _, rfl, ite2 (fun e => iteT q) (fun e1 => ?_)⟩
    refine ⟨.ref s0, rfl, s0, _, 0, .int p.t, rfl, rfl, S0, rfl, .ref s0, rfl, s0, _, 2, .int p.h, rfl, rfl, S0, rfl, _, _, rfl, rfl, .ref t, rfl, t, _, 0, .int b.t, rfl, rfl, T0, rfl, _, _, rfl, rfl, _, rfl, ite2 (fun e => q) (fun e2 => ?_)⟩
    have g1 : ¬ ((b.t : Int) + b.h ≤ p.t) := fun z => e1 (decide_eq_true z)
    have g2 : ¬ ((p.t : Int) + p.h ≤ b.t) := fun z => e2 (decide_eq_true z)
    unfold Fl.Apart at ap
    refine ⟨.ref t, rfl, t, _, 1, .int b.l, rfl, rfl, T0, rfl, .ref t, rfl, t, _, 3, .int b.w, rfl, rfl, T0, rfl, _, _, rfl, rfl, .ref s0, rfl, s0, _, 1, .int p.l, rfl, rfl, S0, rfl, _, _, rfl, rfl, _, rfl, ite2 (fun e3 => ?_) (fun e3 => q)⟩
    refine ⟨.ref s0, rfl, s0, _, 1, .int p.l, rfl, rfl, S0, rfl, .ref s0, rfl, s0, _, 3, .int p.w, rfl, rfl, S0, rfl, _, _, rfl, rfl, .ref t, rfl, t, _, 1, .int b.l, rfl, rfl, T0, rfl, _, _, rfl, rfl, ?_⟩
    have g3 := of_decide_eq_true e3
    have g4 : ¬ ((b.l : Int) < (p.l : Int) + p.w) := by omega
    show Q (.bl (decide ((b.l : Int) < (p.l : Int) + p.w))) H
    rw [decide_eq_false g4]
    exact q
theorem ok_sp {f : Addr} {fd : FuncData} {k : Nat} (F : Fun K "_law_spots" "_law_spots" sSP f fd) (en : mg "enumerate" = none) : FnOk P w K mg base CX0 (k + 1) f fd ["picture"] (spSP K) := by
  refine F.ok scSP (fun vs H Q E h => ?_) (fun cdv A outer s H vs Q E hr h => ?_)
  · obtain ⟨a, _, _, _, rfl, _⟩ := h
    rfl
  · obtain ⟨a, high, wide, rs, rfl, ha, pr, q⟩ := h
    have nd := scSP.nd
    refine ⟨_, pss_cons (ps_set (i := 1) nd rfl (.inl rfl) (pe_lst pa_nil))
      (pss_cons (ps_for PassesOwn.never rfl (pi_enumG (by rfl) en (pa_cons (pv 0) pa_nil)) (pg_tup rfl (pgs_cons (pg_name (i := 2) nd rfl (Or.inr rfl)) (pgs_cons (pg_name (i := 3) nd rfl (Or.inl rfl)) pgs_nil)))
        (pss_one (ps_set (i := 1) nd rfl (.inl rfl) (pe_op op_cat (pv 1) (pe_lc (own := [("column", 4), ("sign", 5)]) (g := gTup K 2 (gCons (gName 4) (gCons (gName 5) gNil))) rfl nd (pi_enumG (by rfl) en (pa_cons (pv 3) pa_nil)) (blkOk_by (N := nSP) (sc := defScope sSP) (by decide +kernel))
            (fun _ _ _ _ _ => pg_tup rfl (pgs_cons (pg_name (i := 4) nd rfl (Or.inl rfl)) (pgs_cons (pg_name (i := 5) nd rfl (Or.inl rfl)) pgs_nil))) (fun _ _ _ _ _ => pts_one (pt_cmpR op_eq (pv 5) pe_str (nomark _))) (fun _ _ _ _ _ => pe_tup (pa_cons (pv 2) (pa_cons (pv 4) pa_nil))))))))
      (pss_one (ps_ret (pv 1)))), ?_⟩
    have hlen := pr.len
    have h1' := pr.h1
    have w1 := pr.w1
    refine ⟨by show 0 ≤ sizeLine; decide, fun L hL => ?_⟩
    have sL := same_upd (o := .lst []) hL
    have hL' : (upd H L (.lst [])) L = some (.lst []) := upd_same
    generalize upd H L (.lst []) = H1 at sL hL'
    have ha1 := sL _ _ ha
    refine ⟨.ref a, rfl, .tup a, rs.map rv, rfl, SqT.of ha1, for_enumG (K := K) (A := .tup a) (xs := rs.map rv) (fun i σ H2 => ∃ (y2 y3 : Option V) (l : Addr) (xs : List V) (ps : List (Nat × Nat)), σ = [some (.ref a), some (.ref l), y2, y3, none, none] ∧ Same H1 H2 ∧ H2 l = some (.lst xs) ∧ xs.length ≤ i * 120 ∧ Tin K H2 xs (ps.map pI) ∧ ∀ p ∈ ps, DR rs p.1 p.2 = true)
      ⟨_, _, L, [], [], rfl, Same.refl _, hL', Nat.zero_le _, Tin.nil, fun p hp => (nomatch hp)⟩ (fun i σ H2 _ z => by
        obtain ⟨_, _, _, _, _, _, sm, _⟩ := z
        exact SqT.of (sm _ _ ha1)) ?_ ?_⟩
    · rintro i x σ H2 T0 hi ⟨y2, y3, l, xs, ps, rfl, sm, hl, lx, tn, dd⟩ nT
      obtain ⟨row, hrow, rfl⟩ := map_at2 hi
      have hil : i < rs.length := (List.getElem?_eq_some_iff.mp hrow).1
      have l1 := (pr.row row (List.mem_of_getElem? hrow)).len
      have edr : rs.getD i [] = row := by
        rw [List.getD_eq_getElem?_getD, hrow]
        rfl
      have sT := same_upd (o := .tup [V.int (i : Nat), rv row]) nT
      refine ⟨T0, _, rfl, SqT.of upd_same, rfl, _, _, rfl, _, _, rfl, rfl, ?_⟩
      have hl3 := sT _ _ hl
      have sm3 := sm.trans sT
      have tn3 := tn.same sT
      generalize upd H2 T0 (.tup [V.int (i : Nat), rv row]) = H3 at hl3 sm3 tn3
      refine ⟨.ref l, rfl, rv row, rfl, .txt (S row), chars (S row), rfl, rfl, fun D hD => lc_enumG (K := K) (A := .txt (S row)) (xs := chars (S row)) (fun j H4 => ∃ (ys : List V) (ns : List (Nat × Nat)), Same H3 H4 ∧ H4 D = some (.lst ys) ∧ ys.length ≤ j ∧ Tin K H4 ys (ns.map pI) ∧ ∀ p ∈ ns, DR rs p.1 p.2 = true) ⟨[], [], same_upd hD, upd_same, Nat.le_refl _, Tin.nil, fun p hp => (nomatch hp)⟩ (fun j H4 _ _ => rfl) ?_ ?_⟩
      · rintro j x H4 T2 hx ⟨ys, ns, sm4, h4, ly, ty, dn⟩ nT2
        rw [chars_S] at hx
        obtain ⟨c, hc, rfl⟩ := map_at hx
        have hjl := (List.getElem?_eq_some_iff.mp hc).1
        have sT2 := same_upd (o := .tup [V.int (j : Nat), V.str ⟨#[c]⟩]) nT2
        refine ⟨T2, _, rfl, SqT.of upd_same, rfl, _, _, rfl, _, _, rfl, rfl, rfl, .str ⟨#[c]⟩, rfl, rfl, _, rfl, ?_⟩
        have e1 : decide (V.str ⟨#[c]⟩ = V.str "#") = decide (c = 35) := by
          rw [s_hash]
          exact ch_dec c 35
        rw [e1]
        have h5 := sT2 _ _ h4
        by_cases ec : c = 35
        · rw [decide_eq_true ec]
          refine iteT ⟨.int (i : Nat), rfl, .int (j : Nat), rfl, by show 2 ≤ sizeLine; decide, fun t ht => ⟨ys, ?_, small1000 (by omega), ys ++ [.ref t], ns ++ [(i, j)], same_over (sm4.trans (sT2.trans (same_upd ht))) hD, upd_same, by rw [List.length_append]; exact Nat.add_le_add_right ly 1, ?_, fun p hp => ?_⟩⟩
          · exact same_upd ht _ _ h5
          · rw [List.map_append]
            have st := same_upd (o := .tup [V.int (i : Nat), V.int (j : Nat)]) ht
            refine Tin.add ((ty.same (sT2.trans st)).updl (st _ _ h5)) ?_
            rw [upd_ne (ne_of_none h5 ht).symm, upd_same]
            rfl
          · rcases List.mem_append.mp hp with z | z
            · exact dn p z
            · rw [List.mem_singleton.mp z]
              rw [DR_iff, edr, getD_at hc, ec]
        · rw [decide_eq_false ec]
          exact iteF ⟨ys, ns, sm4.trans sT2, h5, Nat.le_succ_of_le ly, ty.same sT2, dn⟩
      · rintro H4 ⟨ys, ns, sm4, h4, ly, ty, dn⟩
        have lc : (chars (S row)).length = wide := by rw [chars_S, List.length_map, l1]
        rw [lc] at ly
        have hl4 := sm4 _ _ hl3
        refine ⟨l, D, _, _, rfl, rfl, hl4, h4, ?_, fun z hz => ?_⟩
        · rw [sizeLine_eq]
          omega
        · have sz := same_upd (o := .lst (xs ++ ys)) hz
          refine ⟨_, _, z, xs ++ ys, ps ++ ns, rfl, sm3.trans (sm4.trans sz), upd_same, by rw [List.length_append]; omega, ?_, fun p hp => ?_⟩
          · have t1 := (tn3.same sm4).same sz
            have t2 := ty.same sz
            rw [List.map_append]
            refine ⟨by rw [List.length_append, List.length_append, t1.len, t2.len], fun m x b hx hb => ?_⟩
            by_cases hm : m < xs.length
            · rw [List.getElem?_append_left hm] at hx
              rw [List.getElem?_append_left (by rw [← t1.len]; exact hm)] at hb
              exact t1.at_ m x b hx hb
            · rw [List.getElem?_append_right (by omega)] at hx
              rw [List.getElem?_append_right (by rw [← t1.len]; omega), ← t1.len] at hb
              exact t2.at_ _ x b hx hb
          · rcases List.mem_append.mp hp with z | z
            · exact dd p z
            · exact dn p z
    · rintro σ H2 ⟨y2, y3, l, xs, ps, rfl, sm, hl, lx, tn, dd⟩
      exact ⟨.ref l, rfl, q l xs ps H2 (sL.trans sm) hl tn dd⟩
end
end Dt
namespace Dt
open PySem PySem.Spec PyProof.Rows L2 L2X
open SX (S)
open Fl
theorem atI_neg1 {l : List Nat} (h : 1 ≤ l.length) : atI l (-1) = some (l.getD (l.length - 1) 0) := by
  have ne : l ≠ [] := fun z => by
    rw [z] at h
    exact absurd h (by decide)
  have e := List.dropLast_concat_getLast ne
  have e2 : l.getD (l.length - 1) 0 = l.getLast ne := by
    rw [List.getD_eq_getElem?_getD, List.getElem?_eq_getElem (by omega), List.getLast_eq_getElem]
    rfl
  rw [e2]
  have := atI_last l.dropLast (l.getLast ne)
  rw [e] at this
  exact this
theorem atI_zero {l : List Nat} (h : 1 ≤ l.length) : atI l 0 = some (l.getD 0 0) := atI_nat (j := 0) (getD_some h)
theorem atI_negV {xs : List V} (h : 1 ≤ xs.length) : atI xs (-1) = xs[xs.length - 1]? := by
  have ne : xs ≠ [] := fun z => by
    rw [z] at h
    exact absurd h (by decide)
  have e := List.dropLast_concat_getLast ne
  have := atI_last xs.dropLast (xs.getLast ne)
  rw [e] at this
  rw [this, List.getElem?_eq_getElem (by omega), List.getLast_eq_getElem]
abbrev sWH : Stmt := topS 36
abbrev nWH : List Str := ["picture", "box", "top", "left", "deep", "wide", "lines", "line", "sides", "edge"]
theorem scWH : FnScope nWH ["picture", "box"] (defScope sWH) := ⟨rfl, rfl, rfl, by decide +kernel, rfl, by decide +kernel, by decide +kernel⟩
def spWH : Sp := fun vs H Q _ => ∃ (a t : Addr) (high wide : Nat) (rs : List (List Nat)) (b : Bx), vs = [.ref a, .ref t] ∧ H a = some (.tup (rs.map rv)) ∧ PicR high wide rs ∧ H t = some (.tup ((bI b).map V.int)) ∧ b.t + b.h ≤ high ∧ b.l + b.w ≤ wide ∧ Edg (DR rs) b ∧ ∀ H', Same H H' → Q (.bl true) H'
theorem cutR_row {rs : List (List Nat)} {t l h w high wide : Nat} (R : RowsR high wide rs) (ht : t + h ≤ high) (hl : l + w ≤ wide) {q : List Nat} (hq : q ∈ cutR rs t l h w) : q.length = w := by
  obtain ⟨k, hk, rfl⟩ := (cutR_mem (by rw [R.len]; exact ht)).mp hq
  rw [List.length_take, List.length_drop, R.at_len (show t + k < high by omega)]
  omega
section
variable {P : Program} {w : World} {K : PySem.W.Frag} {mg : Str → Option Value} {base : Heap} {C CP : Addr}
theorem ok_wh {f : Addr} {fd : FuncData} {k : Nat} (F : Fun K "_law_whole" "_law_whole" sWH f fd) (al : mg "all" = none) : FnOk P w K mg base CX0 (k + 1) f fd ["picture", "box"] spWH := by
  refine F.ok scWH (fun vs H Q E h => ?_) (fun cdv A outer s H vs Q E hr h => ?_)
  · obtain ⟨a, t, _, _, _, _, rfl, _⟩ := h
    rfl
  · obtain ⟨a, t, high, wide, rs, b, rfl, ha, pr, ht, bh, bw, ed, q⟩ := h
    have nd := scWH.nd
    refine ⟨_, pss_cons (ps_asg (pv 1) (pg_tup rfl (pgs_cons (pg_name (i := 2) nd rfl (Or.inl rfl)) (pgs_cons (pg_name (i := 3) nd rfl (Or.inr rfl)) (pgs_cons (pg_name (i := 4) nd rfl (Or.inl rfl)) (pgs_cons (pg_name (i := 5) nd rfl (Or.inr rfl)) pgs_nil))))))
      (C8.pss_cut (ps_setLc (i := 6) (own := [("line", 7)]) (g := gName 7) (tt := tYes) (by rfl) nd rfl rfl (sw_true rfl rfl rfl (by decide +kernel)) (pi_tup (pe_slice sl_tupA (pv 0) (po_some (pv 2)) (po_some (pe_op op_add (pv 2) (pv 4))))) (blkOk_by (N := nWH) (sc := defScope sWH) (by decide +kernel)) (fun _ _ _ _ _ => pg_name (i := 7) nd rfl (Or.inl rfl)) (fun _ _ _ _ _ => pts_nil)
          (fun _ _ _ _ _ => pe_slice sl_str (pv 7) (po_some (pv 3)) (po_some (pe_op op_add (pv 3) (pv 5)))))
      (C8.pss_cut (ps_set (i := 8) nd rfl (.inl rfl) (pe_lst (pa_cons (pe_joinK (K := K) rfl pe_str (pe_lc (own := [("line", 7)]) (g := gName 7) (tt := tYes) rfl nd (pi_list (pv 6)) (blkOk_by (N := nWH) (sc := defScope sWH) (by decide +kernel)) (fun _ _ _ _ _ => pg_name (i := 7) nd rfl (Or.inl rfl)) (fun _ _ _ _ _ => pts_nil) (fun _ _ _ _ _ => pe_ix ix_str (pv 7) pe_int (fun _ _ => rfl))))
          (pa_cons (pe_joinK (K := K) rfl pe_str (pe_lc (own := [("line", 7)]) (g := gName 7) (tt := tYes) rfl nd (pi_list (pv 6)) (blkOk_by (N := nWH) (sc := defScope sWH) (by decide +kernel)) (fun _ _ _ _ _ => pg_name (i := 7) nd rfl (Or.inl rfl)) (fun _ _ _ _ _ => pts_nil) (fun _ _ _ _ _ => pe_ix ix_str (pv 7) (pe_un un_neg pe_int) (fun _ _ => rfl)))) pa_nil))))
      (pss_one (ps_ret (pe_callB (cr_all rfl) (by rfl) al (by decide +kernel) (pa_cons (pe_lc (own := [("edge", 9)]) (g := gName 9) (tt := tYes) rfl nd (pi_list (pe_op op_cat (pe_lst (pa_cons (pe_ix ix_list (pv 6) pe_int (fun _ _ => rfl)) (pa_cons (pe_ix ix_list (pv 6) (pe_un un_neg pe_int) (fun _ _ => rfl)) pa_nil))) (pv 8))) (blkOk_by (N := nWH) (sc := defScope sWH) (by decide +kernel)) (fun _ _ _ _ _ => pg_name (i := 9) nd rfl (Or.inl rfl)) (fun _ _ _ _ _ => pts_nil)
          (fun _ _ _ _ _ => pe_cmpR op_in_sign pe_str (pv 9) (by with_unfolding_all rfl))) pa_nil)))))), ?_⟩
    obtain ⟨bt, bl, bhh, bww⟩ := b
    have e1 := ed.h
    have e2 := ed.w
    have lr : rs.length = high := pr.len
    have h1 := pr.h1
    have w1 := pr.w1
    have bh' : bt + bhh ≤ high := bh
    have bw' : bl + bww ≤ wide := bw
    have hb1 : 1 ≤ bhh := e1
    have wb1 : 1 ≤ bww := e2
    have ec : (cutR rs bt bl bhh bww).length = bhh := cutR_len (by omega)
    have rl : ∀ q ∈ cutR rs bt bl bhh bww, q.length = bww := fun q hq => cutR_row pr.rows bh' bw' hq
    have at' : ∀ k, k < bhh → ∀ j, j < bww → ((cutR rs bt bl bhh bww)[k]?.getD []).getD j 0 = (rs.getD (bt + k) []).getD (bl + j) 0 := fun k hk j hj => by
      rw [cutR_at (by omega) hk]
      exact sub_at hj
    refine ⟨.ref t, rfl, t, _, rfl, SqT.of ht, rfl, _, _, rfl, _, _, rfl, _, _, rfl, _, _, rfl, rfl, ?_⟩
    refine ⟨fun σ' H' => ∃ D : Addr, σ' = [some (.ref a), some (.ref t), some (.int bt), some (.int bl), some (.int bhh), some (.int bww), some (.ref D), none, none, none] ∧ Same H H' ∧ H' D = some (.lst ((cutR rs bt bl bhh bww).map rv)), ?_, ?_⟩
    · have cm : cutV (rs.map rv) (some (bt : Int)) (some ((bt : Int) + bhh)) = ((rs.drop bt).take bhh).map rv := by
        rw [cutV_mid _ _ _ (by rw [List.length_map, lr]; exact bh'), ← List.map_drop, ← List.map_take]
      refine ⟨.ref a, rfl, .int bt, rfl, bt, rfl, .int bt, rfl, .int bhh, rfl, bt, bhh, rfl, rfl, _, rfl, sl_any ha fun z H2 s2 hz => ⟨z, rfl, ⟨_, SqT.of hz⟩, fun D hD => ?_⟩⟩
      rw [cm] at hz
      refine lc_tup (K := K) (a := z) (xs := ((rs.drop bt).take bhh).map rv) (fun i H3 => Same H2 H3 ∧ H3 D = some (.lst (((((rs.drop bt).take bhh).take i).map fun r => (r.drop bl).take bww).map rv))) ⟨same_upd hD, upd_same⟩ (fun i H3 _ zz => SqT.of (zz.1 _ _ hz)) ?_ ?_
      · rintro i x H3 hi ⟨sm, h3⟩
        obtain ⟨r, hr0, rfl⟩ := map_at2 hi
        have hm : r ∈ rs := List.mem_of_mem_drop (List.mem_of_mem_take (List.mem_of_getElem? hr0))
        have hil := (List.getElem?_eq_some_iff.mp hr0).1
        rw [List.length_take, List.length_drop] at hil
        have l0 := (pr.row r hm).len
        refine ⟨rfl, rv r, rfl, .int bl, rfl, bl, rfl, .int bl, rfl, .int bww, rfl, bl, bww, rfl, rfl, _, rfl, S r, rfl, ?_, ?_⟩
        · rw [SX.S_len]
          exact Nat.le_of_lt (small1000 (by omega))
        · rw [cutS_mid _ _ _ (by omega)]
          refine ⟨_, h3, ?_, same_over sm hD, ?_⟩
          · rw [List.length_map, List.length_map, List.length_take]
            exact small1000 (by omega)
          · rw [upd_same, take_snoc hr0, List.map_append, List.map_append]
            rfl
      · rintro H3 ⟨sm, h3⟩
        rw [List.length_map, List.take_length] at h3
        exact ⟨D, rfl, s2.trans sm, h3⟩
    rintro _ H1 ⟨D, rfl, s1, hD⟩
    generalize ecs : cutR rs bt bl bhh bww = cs at hD ec rl at'
    -- the sides
    refine ⟨fun σ' H' => ∃ E1 : Addr, σ' = [some (.ref a), some (.ref t), some (.int bt), some (.int bl), some (.int bhh), some (.int bww), some (.ref D), none, some (.ref E1), none] ∧ Same H1 H' ∧ H' E1 = some (.lst [rv (cs.map fun q => q.getD 0 0), rv (cs.map fun q => q.getD (bww - 1) 0)]), ?_, ?_⟩
    · refine ⟨⟨"", rfl⟩, .ref D, rfl, D, rfl, ⟨_, SqL.of hD⟩, fun D1 hD1 => lc_list (K := K) (a := D) (xs := cs.map rv) (fun i H3 => Same H1 H3 ∧ H3 D1 = some (.lst ((((cs.take i).map fun q => q.getD 0 0)).map ch))) ⟨same_upd hD1, upd_same⟩ (fun i H3 _ zz => SqL.of (zz.1 _ _ hD)) ?_ ?_⟩
      · rintro i x H3 hi ⟨sm, h3⟩
        obtain ⟨r, hr0, rfl⟩ := map_at2 hi
        have hil := (List.getElem?_eq_some_iff.mp hr0).1
        have l0 := rl r (List.mem_of_getElem? hr0)
        have e0 : (S r).cps.toList = r := by simp [S]
        refine ⟨rfl, rv r, rfl, S r, 0, r.getD 0 0, rfl, rfl, ?_, by rw [e0]; exact atI_zero (by omega), _, h3, ?_, same_over sm hD1, ?_⟩
        · rw [SX.S_len]
          exact Nat.le_of_lt (small1000 (by omega))
        · rw [List.length_map, List.length_map, List.length_take]
          exact small1000 (by omega)
        · rw [upd_same, take_snoc hr0, List.map_append, List.map_append]
          rfl
      rintro H2 ⟨s2, h2⟩
      rw [List.length_map, List.take_length] at h2
      refine ⟨"", D1, (cs.map fun q => q.getD 0 0).map fun c => (⟨#[c]⟩ : Str), rfl, rfl, .inl (SqL.of ?_), ?_, ?_⟩
      · rw [h2]
        simp only [List.map_map]
        rfl
      · rw [lens_rows, List.length_map]
        show cs.length + _ * 0 ≤ 16777216
        omega
      rw [join_row]
      have hD2 := s2 _ _ hD
      refine ⟨⟨"", rfl⟩, .ref D, rfl, D, rfl, ⟨_, SqL.of hD2⟩, fun D2 hD2' => lc_list (K := K) (a := D) (xs := cs.map rv) (fun i H3 => Same H2 H3 ∧ H3 D2 = some (.lst ((((cs.take i).map fun q => q.getD (bww - 1) 0)).map ch))) ⟨same_upd hD2', upd_same⟩ (fun i H3 _ zz => SqL.of (zz.1 _ _ hD2)) ?_ ?_⟩
      · rintro i x H3 hi ⟨sm, h3⟩
        obtain ⟨r, hr0, rfl⟩ := map_at2 hi
        have hil := (List.getElem?_eq_some_iff.mp hr0).1
        have l0 := rl r (List.mem_of_getElem? hr0)
        have e0 : (S r).cps.toList = r := by simp [S]
        refine ⟨rfl, rv r, rfl, 1, rfl, S r, -1, r.getD (bww - 1) 0, rfl, rfl, ?_, by rw [e0, ← l0]; exact atI_neg1 (by omega), _, h3, ?_, same_over sm hD2', ?_⟩
        · rw [SX.S_len]
          exact Nat.le_of_lt (small1000 (by omega))
        · rw [List.length_map, List.length_map, List.length_take]
          exact small1000 (by omega)
        · rw [upd_same, take_snoc hr0, List.map_append, List.map_append]
          rfl
      rintro H3 ⟨s3, h3⟩
      rw [List.length_map, List.take_length] at h3
      refine ⟨"", D2, (cs.map fun q => q.getD (bww - 1) 0).map fun c => (⟨#[c]⟩ : Str), rfl, rfl, .inl (SqL.of ?_), ?_, ?_⟩
      · rw [h3]
        simp only [List.map_map]
        rfl
      · rw [lens_rows, List.length_map]
        show cs.length + _ * 0 ≤ 16777216
        omega
      rw [join_row]
      exact ⟨by show 2 ≤ sizeLine; decide, fun E1 hE1 => ⟨E1, rfl, (s2.trans s3).trans (same_upd hE1), upd_same⟩⟩
    rintro _ H2 ⟨E1, rfl, s2, hE1⟩
    have hD2 := s2 _ _ hD
    have hc0 : 0 < cs.length := by omega
    have x0 : cs[0]? = some cs[0] := List.getElem?_eq_getElem hc0
    have xN : cs[bhh - 1]? = some (cs[bhh - 1]'(by omega)) := List.getElem?_eq_getElem (by omega)
    have a0 := at' 0 (by omega)
    have aN := at' (bhh - 1) (by omega)
    rw [x0] at a0
    rw [xN] at aN
    generalize cs[0] = q0 at x0 a0
    generalize cs[bhh - 1]'(by omega) = qN at xN aN
    refine ⟨.ref D, rfl, D, _, 0, rv q0, rfl, rfl, SqL.of hD2, atI_nat (j := 0) (by rw [List.getElem?_map, x0]; rfl), .ref D, rfl, 1, rfl, D, _, -1, rv qN, rfl, rfl, SqL.of hD2, ?_, by show 2 ≤ sizeLine; decide, fun z1 hz1 => ?_⟩
    · rw [atI_negV (by rw [List.length_map]; omega), List.length_map, ec, List.getElem?_map, xN]
      rfl
    have sz1 := same_upd (o := .lst [rv q0, rv qN]) hz1
    refine ⟨.ref E1, rfl, z1, E1, _, _, rfl, rfl, upd_same, sz1 _ _ hE1, by show 4 ≤ sizeLine; decide, fun z2 hz2 => ?_⟩
    generalize ees : [q0, qN, cs.map fun q => q.getD 0 0, cs.map fun q => q.getD (bww - 1) 0] = es
    have hes : (upd (upd H2 z1 (.lst [rv q0, rv qN])) z2 (.lst ([rv q0, rv qN] ++ [rv (cs.map fun q => q.getD 0 0), rv (cs.map fun q => q.getD (bww - 1) 0)]))) z2 = some (.lst (es.map rv)) := by
      rw [upd_same, ← ees]
      rfl
    have s3 := sz1.trans (same_upd (o := .lst ([rv q0, rv qN] ++ [rv (cs.map fun q => q.getD 0 0), rv (cs.map fun q => q.getD (bww - 1) 0)])) hz2)
    generalize upd (upd H2 z1 (.lst [rv q0, rv qN])) z2 (.lst ([rv q0, rv qN] ++ [rv (cs.map fun q => q.getD 0 0), rv (cs.map fun q => q.getD (bww - 1) 0)])) = H3 at hes s3
    have les : es.length = 4 := by rw [← ees]; rfl
    refine ⟨z2, rfl, ⟨_, SqL.of hes⟩, fun D3 hD3 => lc_list (K := K) (a := z2) (xs := es.map rv) (fun j H4 => Same H3 H4 ∧ H4 D3 = some (.lst (((es.take j).map fun l => decide (35 ∈ l)).map V.bl))) ⟨same_upd hD3, upd_same⟩ (fun j H4 _ z => SqL.of (z.1 _ _ hes)) ?_ ?_⟩
    · rintro j x H4 hj ⟨sm, h4⟩
      obtain ⟨l, hl, rfl⟩ := map_at2 hj
      have hlt := (List.getElem?_eq_some_iff.mp hl).1
      refine ⟨rfl, rv l, rfl, 35, S l, rfl, rfl, _, h4, ?_, same_over sm hD3, ?_⟩
      · rw [List.length_map, List.length_map, List.length_take]
        exact small1000 (by omega)
      · rw [upd_same, take_snoc hl, List.map_append, List.map_append]
        rfl
    rintro H4 ⟨s4, h4⟩
    rw [List.length_map, List.take_length] at h4
    refine ⟨D3, _, rfl, SqL.of h4, ?_⟩
    have all1 : (es.map fun l => decide (35 ∈ l)).all id = true := by
      rw [List.all_map, List.all_eq_true]
      intro e he
      show decide (35 ∈ e) = true
      rw [decide_eq_true_iff, mem_getD]
      rw [← ees] at he
      have colG : ∀ (j r : Nat), j < bww → bt ≤ r → r < bt + bhh → DR rs r (bl + j) = true → ∃ m, (cs.map fun q => q.getD j 0).getD m 0 = 35 := fun j r hj h1 h2 hd => by
        have := at' (r - bt) (by omega) j hj
        have hx : cs[r - bt]? = some (cs[r - bt]'(by omega)) := List.getElem?_eq_getElem (by omega)
        refine ⟨r - bt, ?_⟩
        rw [List.getD_eq_getElem?_getD, List.getElem?_map, hx]
        rw [hx, show bt + (r - bt) = r by omega, DR_iff.mp hd] at this
        exact this
      rcases List.mem_cons.mp he with rfl | he
      · obtain ⟨c, c1, c2, c3⟩ := ed.top
        have c1' : bl ≤ c := c1
        have c2' : c < bl + bww := c2
        have c3' := DR_iff.mp (show DR rs bt c = true from c3)
        refine ⟨c - bl, ?_⟩
        have := a0 (c - bl) (by omega)
        rw [show bl + (c - bl) = c by omega, Nat.add_zero, c3'] at this
        exact this
      rcases List.mem_cons.mp he with rfl | he
      · obtain ⟨c, c1, c2, c3⟩ := ed.bot
        have c1' : bl ≤ c := c1
        have c2' : c < bl + bww := c2
        have c3' := DR_iff.mp (show DR rs (bt + bhh - 1) c = true from c3)
        refine ⟨c - bl, ?_⟩
        have := aN (c - bl) (by omega)
        rw [show bl + (c - bl) = c by omega, show bt + (bhh - 1) = bt + bhh - 1 by omega, c3'] at this
        exact this
      rcases List.mem_cons.mp he with rfl | he
      · obtain ⟨r, r1, r2, r3⟩ := ed.lft
        exact colG 0 r (by omega) r1 r2 r3
      · rw [List.mem_singleton.mp he]
        obtain ⟨r, r1, r2, r3⟩ := ed.rgt
        exact colG (bww - 1) r (by omega) r1 r2 (by
          have e : bl + bww - 1 = bl + (bww - 1) := by omega
          rw [← e]
          exact r3)
    rw [all1]
    exact q H4 (((s1.trans s2).trans s3).trans s4)
end
end Dt
namespace Dt
open PySem PySem.Spec PyProof.Rows L2 L2X
open SX (S)
open Fl
def wh (n : Nat) : List Nat := List.replicate n 46
def mvL (ac W : Nat) (l : List Nat) : List Nat := wh ac ++ l ++ wh (W - ac - l.length)
def mvR (dn ac W k : Nat) (rs : List (List Nat)) : List (List Nat) := List.replicate dn (wh W) ++ rs.map (mvL ac W) ++ List.replicate k (wh W)
theorem wh_row (W : Nat) : RowR W (wh W) := ⟨List.length_replicate, fun c hc => .inr (List.mem_replicate.mp hc).2⟩
theorem wh_at {n c : Nat} : (wh n).getD c 0 ≠ 35 := by
  intro z
  have := getD35 z
  have hm : (wh n).getD c 0 ∈ wh n := getD_mem this
  rw [z] at hm
  have := (List.mem_replicate.mp hm).2
  exact absurd this (by decide)
theorem mvL_row {wide ac W : Nat} {l : List Nat} (R : RowR wide l) (h : ac + wide ≤ W) : RowR W (mvL ac W l) := by
  have hl := R.len
  refine ⟨?_, fun c hc => ?_⟩
  · unfold mvL wh
    rw [List.length_append, List.length_append, List.length_replicate, List.length_replicate]
    omega
  · unfold mvL at hc
    rcases List.mem_append.mp hc with hc | hc
    · rcases List.mem_append.mp hc with hc | hc
      · exact (wh_row _).sg c hc
      · exact R.sg c hc
    · exact (wh_row _).sg c hc
theorem mvR_pic {high wide dn ac W k : Nat} {rs : List (List Nat)} (p : PicR high wide rs) (h : ac + wide ≤ W) (h1 : dn + high + k ≤ 60) (w1 : W ≤ 120) : PicR (dn + high + k) W (mvR dn ac W k rs) := by
  have := p.h0
  have := p.w0
  refine ⟨?_, fun l hl => ?_, by omega, h1, by omega, w1⟩
  · unfold mvR
    rw [List.length_append, List.length_append, List.length_replicate, List.length_replicate, List.length_map, p.len]
  · unfold mvR at hl
    rcases List.mem_append.mp hl with hl | hl
    · rcases List.mem_append.mp hl with hl | hl
      · rw [(List.mem_replicate.mp hl).2]
        exact wh_row W
      · obtain ⟨m, hm, rfl⟩ := List.mem_map.mp hl
        exact mvL_row (p.row m hm) h
    · rw [(List.mem_replicate.mp hl).2]
      exact wh_row W
theorem getD_app {l m : List Nat} {c : Nat} : (l ++ m).getD c 0 = if c < l.length then l.getD c 0 else m.getD (c - l.length) 0 := by
  rw [List.getD_eq_getElem?_getD, List.getD_eq_getElem?_getD, List.getD_eq_getElem?_getD]
  split
  · rw [List.getElem?_append_left (by assumption)]
  · rw [List.getElem?_append_right (by omega)]
theorem getL_app {l m : List (List Nat)} {c : Nat} : (l ++ m).getD c [] = if c < l.length then l.getD c [] else m.getD (c - l.length) [] := by
  rw [List.getD_eq_getElem?_getD, List.getD_eq_getElem?_getD, List.getD_eq_getElem?_getD]
  split
  · rw [List.getElem?_append_left (by assumption)]
  · rw [List.getElem?_append_right (by omega)]
theorem rep_at {n W c : Nat} : ((List.replicate n (wh W)).getD c []) = [] ∨ ((List.replicate n (wh W)).getD c []) = wh W := by
  rw [List.getD_eq_getElem?_getD, List.getElem?_replicate]
  split
  · exact .inr rfl
  · exact .inl rfl
theorem rep_no {n W r c : Nat} : ((List.replicate n (wh W)).getD r []).getD c 0 ≠ 35 := by
  rcases rep_at (n := n) (W := W) (c := r) with e | e
  · rw [e, getD_out (by show 0 ≤ c; omega)]
    decide
  · rw [e]
    exact wh_at
theorem mov_of {high wide dn ac W k : Nat} {rs : List (List Nat)} (R : RowsR high wide rs) (h : ac + wide ≤ W) : Mov (DR (mvR dn ac W k rs)) (DR rs) dn ac high wide (dn + high + k) W := by
  have row : ∀ r, r < high → (mvR dn ac W k rs).getD (r + dn) [] = mvL ac W (rs.getD r []) := fun r hr => by
    have hr' : r < rs.length := by rw [R.len]; exact hr
    unfold mvR
    rw [getL_app, if_pos (by rw [List.length_append, List.length_replicate, List.length_map]; omega), getL_app, if_neg (by rw [List.length_replicate]; omega), List.length_replicate, Nat.add_sub_cancel, List.getD_eq_getElem?_getD, List.getElem?_map, List.getElem?_eq_getElem hr', getDl hr']
    rfl
  refine ⟨fun r c hr hc => ?_, fun r c hd => ?_, by omega, h⟩
  · apply Bool.eq_iff_iff.mpr
    rw [DR_iff, DR_iff, row r hr]
    have hl := R.at_len hr
    unfold mvL
    rw [getD_app, if_pos (by unfold wh; rw [List.length_append, List.length_replicate]; omega), getD_app, if_neg (by unfold wh; rw [List.length_replicate]; omega)]
    unfold wh
    rw [List.length_replicate, Nat.add_sub_cancel]
  · have hd' := DR_iff.mp hd
    unfold mvR at hd'
    rw [getL_app] at hd'
    split at hd'
    · rename_i h1
      rw [List.length_append, List.length_replicate, List.length_map, R.len] at h1
      rw [getL_app] at hd'
      split at hd'
      · exact absurd hd' rep_no
      · rename_i h2
        rw [List.length_replicate] at h2 hd'
        refine ⟨by omega, by omega, ?_⟩
        have hr' : r - dn < rs.length := by rw [R.len]; omega
        have em : (rs.map (mvL ac W)).getD (r - dn) [] = mvL ac W rs[r - dn] := by
          rw [getDl (by rw [List.length_map]; exact hr'), List.getElem_map]
        rw [em] at hd'
        have hl := R.at_len (show r - dn < high by omega)
        rw [getDl hr'] at hl
        have hd2 : (mvL ac W rs[r - dn]).getD c 0 = 35 := hd'
        unfold mvL at hd2
        rw [getD_app] at hd2
        split at hd2
        · rename_i h3
          rw [List.length_append, hl] at h3
          unfold wh at h3
          rw [List.length_replicate] at h3
          rw [getD_app] at hd2
          split at hd2
          · exact absurd hd2 wh_at
          · rename_i h4
            unfold wh at h4
            rw [List.length_replicate] at h4
            exact ⟨by omega, by omega⟩
        · exact absurd hd2 wh_at
    · exact absurd hd' rep_no
abbrev sMV : Stmt := topS 37
abbrev nMV : List Str := ["draw", "picture", "down", "across", "wide", "lines", "line"]
theorem scMV : FnScope nMV ["draw", "picture"] (defScope sMV) := ⟨rfl, rfl, rfl, by decide +kernel, rfl, by decide +kernel, by decide +kernel⟩
def spMV : Sp := fun vs H Q _ => ∃ (d a : Addr) (n high wide : Nat) (rs : List (List Nat)), vs = [.ref d, .ref a] ∧ Du H d n ∧ n + 10 ≤ fuel ∧ H a = some (.tup (rs.map rv)) ∧ PicR high wide rs ∧ high ≤ 30 ∧ wide ≤ 50 ∧
  ∀ (z p : Addr) (dn ac high' wide' : Nat) (rs' : List (List Nat)) H', Do d H H' → Du H' d (n + 10) → PicR high' wide' rs' → Mov (DR rs') (DR rs) dn ac high wide high' wide' → H' z = some (.tup [.ref p, .int dn, .int ac]) → H' p = some (.tup (rs'.map rv)) → Q (.ref z) H'
theorem rep_flat (k : Nat) (x : V) : (List.replicate k [x]).flatten = List.replicate k x := by
  induction k with
  | zero => rfl
  | succ k ih =>
    rw [List.replicate_succ, List.flatten_cons, ih, List.replicate_succ]
    rfl
section
variable {P : Program} {w : World} {K : PySem.W.Frag} {mg : Str → Option Value} {base : Heap} {C CP : Addr}
theorem ok_mv {f : Addr} {fd : FuncData} {k : Nat} (F : Fun K "_law_moved" "_law_moved" sMV f fd) (T : Tx mg) (GN : Pm P w K mg base CX0 (k + 1) "_law_next" ["draw", "below"] spNx) : FnOk P w K mg base CX0 (k + 2) f fd ["draw", "picture"] spMV := by
  obtain ⟨fN, fdN, GN, mN, kN, bN⟩ := GN.ex
  refine F.ok scMV (fun vs H Q E h => ?_) (fun cdv A outer s H vs Q E hr h => ?_)
  · obtain ⟨d, a, _, _, _, _, rfl, _⟩ := h
    rfl
  · obtain ⟨d, a, n, high, wide, rs, rfl, D, hn, ha, pr, hh, hw, q⟩ := h
    have nd := scMV.nd
    refine ⟨_, C8.pss_cut (ps_par (i := 2) (j := 3) (by rfl) nd rfl rfl (by decide) rfl rfl (pa_cons (pe_call GN hr (by rfl) mN kN bN .nil pass0 (pa_cons (pv 0) (pa_cons pe_int pa_nil))) (pa_cons (pe_call GN hr (by rfl) mN kN bN .nil pass0 (pa_cons (pv 0) (pa_cons pe_int pa_nil))) pa_nil)) (by rfl))
      (C8.pss_cut (ps_set (i := 4) nd rfl (.inl rfl) (pe_op op_add (pe_op op_add (pv 3) (pe_callB call_len_str (by rfl) T.len PySem.boot_len (pa_cons (pe_ix (r := rIxT K) ix_tup (pv 1) pe_int (fun _ _ => rfl)) pa_nil))) (pe_call GN hr (by rfl) mN kN bN .nil pass0 (pa_cons (pv 0) (pa_cons pe_int pa_nil)))))
      (C8.pss_cut (ps_set (i := 5) nd rfl (.inl rfl) (pe_op op_rep (pe_lst (pa_cons (pe_op op_mul_str pe_str (pv 4)) pa_nil)) (pv 2)))
      (C8.pss_cut (ps_for PassesOwn.never rfl (pi_tup (pv 1)) (pg_name (i := 6) nd rfl (.inl rfl))
        (pss_one (ps_expr (pe_bm PySem.F.plainAttrs_list PySem.F.slot_list_append PySem.F.type_list_append mt_append (pv 5) (pa_cons (pe_op op_add_str (pe_op op_add_str (pe_op op_mul_str pe_str (pv 3)) (pv 6)) (pe_op op_mul_str pe_str (pe_op op_sub (pe_op op_sub (pv 4) (pv 3)) (pe_callB call_len_str (by rfl) T.len PySem.boot_len (pa_cons (pv 6) pa_nil))))) pa_nil)))))
      (pss_one (ps_ret (pe_tup (pa_cons (pe_callTy call_tuple_of (by rfl) T.tuple (by decide +kernel) (pa_cons (pe_op op_cat (pv 5) (pe_op op_rep (pe_lst (pa_cons (pe_op op_mul_str pe_str (pv 4)) pa_nil)) (pe_call GN hr (by rfl) mN kN bN .nil pass0 (pa_cons (pv 0) (pa_cons pe_int pa_nil))))) pa_nil)) (pa_cons (pv 2) (pa_cons (pv 3) pa_nil))))))))), ?_⟩
    have fu : n + 10 ≤ 1000000000000 := hn
    have h0 := pr.h0
    have w0 := pr.w0
    have lr := pr.len
    have nad : ∀ {H1 : Hp} {m : Nat}, Du H1 d m → H a = some (.tup (rs.map rv)) → a ≠ d := fun D1 e => by
      obtain ⟨_, _, _, hd, _⟩ := D
      exact ne_of e hd (by intro z; cases z)
    have nad := nad D ha
    have h0' : 0 < rs.length := by omega
    have er0 : rs[0]? = some rs[0] := List.getElem?_eq_getElem h0'
    have lr0 := (pr.row _ (List.getElem_mem h0')).len
    generalize rs[0] = r0 at er0 lr0
    have ix0 : atI (rs.map rv) 0 = some (rv r0) := atI_nat (j := 0) (by rw [List.getElem?_map, er0]; rfl)
    have lS : (S r0).length = wide := by rw [SX.S_len, lr0]
    have lz : (S r0).length ≤ sizeLine := by rw [lS]; exact Nat.le_of_lt (small1000 (by omega))
    refine ⟨fun σ' H' => ∃ dn ac : Nat, σ' = [some (.ref d), some (.ref a), some (.int dn), some (.int ac), none, none, none] ∧ dn < 9 ∧ ac < 12 ∧ Du H' d (n + 2) ∧ Do d H H', ?_, ?_⟩
    · refine ⟨.ref d, rfl, d, 9, n, rfl, D, (by show n ≤ 1000000000000; omega), by decide, by decide, fun m H1 m0 m1 D1 dn1 => ⟨.ref d, rfl, d, 12, _, rfl, D1, (by show n + 1 ≤ 1000000000000; omega), by decide, by decide, fun m2 H2 q0 q1 D2 dn2 => ?_⟩⟩
      obtain ⟨m, rfl⟩ := Int.eq_ofNat_of_zero_le m0
      obtain ⟨m2, rfl⟩ := Int.eq_ofNat_of_zero_le q0
      exact ⟨_, _, rfl, m, m2, rfl, by omega, by omega, D2, dn1.trans dn2⟩
    rintro _ H2 ⟨dn, ac, rfl, hdn, hac, D2, dn2⟩
    have ha2 := dn2 _ _ ha nad
    refine ⟨fun σ' H' => ∃ W : Nat, σ' = [some (.ref d), some (.ref a), some (.int dn), some (.int ac), some (.int W), none, none] ∧ ac + wide ≤ W ∧ W ≤ 100 ∧ Du H' d (n + 3) ∧ Do d H H', ?_, ?_⟩
    · refine ⟨.int ac, rfl, .ref a, rfl, a, _, 0, rv r0, rfl, rfl, SqT.of ha2, ix0, S r0, rfl, lz, ?_⟩
      rw [lS]
      refine ⟨ac, wide, rfl, rfl, .ref d, rfl, d, 5, _, rfl, D2, (by show n + 2 ≤ 1000000000000; omega), by decide, by decide, fun m H3 m0 m1 D3 dn3 => ⟨(ac : Int) + wide, m, rfl, rfl, ?_⟩⟩
      obtain ⟨m, rfl⟩ := Int.eq_ofNat_of_zero_le m0
      have e1 : (ac : Int) + wide + m = ((ac + wide + m : Nat) : Int) := by omega
      exact ⟨ac + wide + m, by rw [← e1]; rfl, by omega, by omega, D3, dn2.trans dn3⟩
    rintro _ H3 ⟨W, rfl, hW, hW1, D3, dn3⟩
    have ha3 := dn3 _ _ ha nad
    have mW : ∀ k : Nat, k ≤ 120 → MulOk "." (k : Int) := fun k hk => by
      rw [s_dot]
      exact mul_ok' 46 k hk
    have eW : ∀ k : Nat, Txt.mul "." (k : Int) = S (wh k) := fun k => by
      rw [s_dot]
      exact mul_sign' 46 k
    refine ⟨fun σ' H' => ∃ L : Addr, σ' = [some (.ref d), some (.ref a), some (.int dn), some (.int ac), some (.int W), some (.ref L), none] ∧ H3 L = none ∧ Same H3 H' ∧ H' L = some (.lst (List.replicate dn (rv (wh W)))), ?_, ?_⟩
    · refine ⟨.int W, rfl, ".", W, rfl, rfl, mW W (by omega), by show 1 ≤ sizeLine; decide, fun l1 hl1 => ?_⟩
      rw [eW]
      refine ⟨.int dn, rfl, l1, dn, [V.str (S (wh W))], rfl, rfl, upd_same, by omega, by omega, ?_, fun r hr' => ?_⟩
      · rw [Int.toNat_natCast]
        show 1 * dn ≤ sizeLine
        rw [sizeLine_eq]
        omega
      · rw [Int.toNat_natCast, rep_flat]
        exact ⟨r, rfl, (same_upd hl1).free hr', (same_upd hl1).trans (same_upd hr'), upd_same⟩
    rintro _ H4 ⟨L, rfl, nL, s4, hL⟩
    have ha4 := s4 _ _ ha3
    have D4 := D3.same s4
    have nLd : L ≠ d := by
      obtain ⟨_, _, _, hd, _⟩ := D3
      exact ne_of_none hd nL |>.symm
    have nLa : a ≠ L := ne_of_none ha3 nL
    refine ⟨fun σ' H' => ∃ y6, σ' = [some (.ref d), some (.ref a), some (.int dn), some (.int ac), some (.int W), some (.ref L), y6] ∧ Do L H4 H' ∧ H' L = some (.lst ((List.replicate dn (wh W) ++ rs.map (mvL ac W)).map rv)), ?_, ?_⟩
    · refine ⟨.ref a, rfl, a, rfl, ⟨_, SqT.of ha4⟩, for_tup (K := K) (a := a) (xs := rs.map rv) (fun i σ H5 => ∃ y6, σ = [some (.ref d), some (.ref a), some (.int dn), some (.int ac), some (.int W), some (.ref L), y6] ∧ Do L H4 H5 ∧ H5 L = some (.lst ((List.replicate dn (wh W) ++ (rs.take i).map (mvL ac W)).map rv))) ⟨none, rfl, Do.refl, ?_⟩ (fun i σ H5 _ z => by
        obtain ⟨_, _, dd, _⟩ := z
        exact SqT.of (dd _ _ ha4 nLa)) ?_ ?_⟩
      · rw [hL, List.take_zero, List.map_nil, List.append_nil, List.map_replicate]
      · rintro i x σ H5 hi ⟨y6, rfl, dd, h5⟩
        obtain ⟨l, hl, rfl⟩ := map_at2 hi
        have hil := (List.getElem?_eq_some_iff.mp hl).1
        have ll := (pr.row l (List.mem_of_getElem? hl)).len
        have hlS : (S l).length = l.length := SX.S_len l
        refine ⟨.ref L, rfl, .inl ⟨rfl, _, SqL.of h5⟩, .int ac, rfl, ".", ac, rfl, rfl, mW ac (by omega), rv l, rfl, ?_⟩
        rw [eW]
        refine ⟨S (wh ac), S l, rfl, rfl, ?_, .int W, rfl, .int ac, rfl, W, ac, rfl, rfl, rv l, rfl, S l, rfl, ?_, _, _, rfl, rfl, ?_⟩
        · rw [hlS, SX.S_len, sizeLine_eq]
          unfold wh
          rw [List.length_replicate]
          omega
        · rw [hlS, sizeLine_eq]
          omega
        have e1 : (W : Int) - ac - ((S l).length : Nat) = ((W - ac - l.length : Nat) : Int) := by rw [hlS]; omega
        refine ⟨".", ((W - ac - l.length : Nat) : Int), rfl, congrArg V.int e1, mW _ (by omega), ?_⟩
        rw [eW, app_S]
        refine ⟨S (wh ac ++ l), S (wh (W - ac - l.length)), rfl, rfl, ?_, ?_⟩
        · rw [SX.S_len, SX.S_len, sizeLine_eq]
          unfold wh
          rw [List.length_append, List.length_replicate, List.length_replicate]
          omega
        rw [app_S]
        refine ⟨L, _, V.str (S (mvL ac W l)), rfl, rfl, h5, ?_, ?_⟩
        · rw [List.length_map, List.length_append, List.length_replicate, List.length_map, List.length_take, sizeLine_eq]
          omega
        · refine ⟨_, rfl, fun b o e nb => ?_, ?_⟩
          · rw [upd_ne nb]
            exact dd b o e nb
          · rw [upd_same, take_snoc hl, List.map_append, List.map_append, List.map_append, List.map_append, List.append_assoc]
            rfl
      · rintro σ H5 ⟨y6, rfl, dd, h5⟩
        rw [List.length_map, List.take_length] at h5
        exact ⟨y6, rfl, dd, h5⟩
    rintro _ H5 ⟨y6, rfl, dd, h5⟩
    have D5 : Du H5 d (n + 3) := by
      obtain ⟨u1, u2, u3, hd, z1, z2⟩ := D4
      exact ⟨u1, u2, u3, dd _ _ hd nLd.symm, z1, z2⟩
    have do5 : Do d H H5 := fun b o e nb => by
      have e3 := dn3 b o e nb
      exact dd b o (s4 b o e3) (ne_of_none e3 nL)
    refine ⟨.ref L, rfl, .int W, rfl, ".", W, rfl, rfl, mW W (by omega), by show 1 ≤ sizeLine; decide, fun l1 hl1 => ?_⟩
    rw [eW]
    have s6 := same_upd (o := .lst [V.str (S (wh W))]) hl1
    have h61 : (upd H5 l1 (.lst [V.str (S (wh W))])) l1 = some (.lst [V.str (S (wh W))]) := upd_same
    have h6L := s6 _ _ h5
    have D6 := D5.same s6
    have n1d : l1 ≠ d := D5.new hl1
    generalize upd H5 l1 (.lst [V.str (S (wh W))]) = H6 at s6 h61 h6L D6
    refine ⟨.ref d, rfl, d, 4, _, rfl, D6, (by show n + 3 ≤ 1000000000000; omega), by decide, by decide, fun m H7 m0 m1 D7 dn7 => ?_⟩
    obtain ⟨m, rfl⟩ := Int.eq_ofNat_of_zero_le m0
    have h7L := dn7 _ _ h6L nLd
    refine ⟨l1, m, [V.str (S (wh W))], rfl, rfl, dn7 _ _ h61 n1d, by omega, by omega, ?_, fun l2 hl2 => ?_⟩
    · rw [Int.toNat_natCast]
      show 1 * m ≤ sizeLine
      rw [sizeLine_eq]
      omega
    rw [Int.toNat_natCast, rep_flat]
    have s8 := same_upd (o := .lst (List.replicate m (V.str (S (wh W))))) hl2
    refine ⟨L, l2, _, _, rfl, rfl, s8 _ _ h7L, upd_same, ?_, fun l3 hl3 => ?_⟩
    · rw [List.length_map, List.length_append, List.length_replicate, List.length_map, List.length_replicate, sizeLine_eq]
      omega
    have s9 := s8.trans (same_upd (o := .lst ((List.replicate dn (wh W) ++ rs.map (mvL ac W)).map rv ++ List.replicate m (V.str (S (wh W))))) hl3)
    have h9 : (upd (upd H7 l2 (.lst (List.replicate m (V.str (S (wh W)))))) l3 (.lst ((List.replicate dn (wh W) ++ rs.map (mvL ac W)).map rv ++ List.replicate m (V.str (S (wh W)))))) l3 = some (.lst ((mvR dn ac W m rs).map rv)) := by
      rw [upd_same]
      unfold mvR
      rw [List.map_append (l₂ := List.replicate m (wh W)), List.map_replicate]
      rfl
    generalize upd (upd H7 l2 (.lst (List.replicate m (V.str (S (wh W)))))) l3 (.lst ((List.replicate dn (wh W) ++ rs.map (mvL ac W)).map rv ++ List.replicate m (V.str (S (wh W))))) = H9 at s9 h9
    refine ⟨l3, _, rfl, .inl ⟨SqL.of h9, fun p hp => ?_⟩⟩
    have s10 := s9.trans (same_upd (o := .tup ((mvR dn ac W m rs).map rv)) hp)
    have h10 : (upd H9 p (.tup ((mvR dn ac W m rs).map rv))) p = some (.tup ((mvR dn ac W m rs).map rv)) := upd_same
    generalize upd H9 p (.tup ((mvR dn ac W m rs).map rv)) = H10 at s10 h10
    refine ⟨.int dn, rfl, .int ac, rfl, by show 3 ≤ sizeLine; decide, fun z hz => ?_⟩
    have s11 := same_upd (o := .tup [V.ref p, V.int (dn : Int), V.int (ac : Int)]) hz
    exact q z p dn ac (dn + high + m) W (mvR dn ac W m rs) _ (((do5.trans (Do.same s6)).trans dn7).trans (Do.same (s10.trans s11))) ((D7.same (s10.trans s11)).le (by omega)) (mvR_pic pr hW (by omega) (by omega)) (mov_of pr.rows hW) upd_same (s11 _ _ h10)
end
end Dt
namespace Fl
theorem apart_symm {a b : Bx} (h : Fl.Apart a b) : Fl.Apart b a := by
  unfold Fl.Apart at *
  omega
theorem it_ar {D : Dots} {d a H W : Nat} (d1 : 1 ≤ d) (a1 : 1 ≤ a) (h : 1 ≤ H) (w : 1 ≤ W) : ∀ n, Dim (it D d a n [whole H W]) ∧ areas (it D d a n [whole H W]) ≤ H * W
  | 0 => ⟨whole_dim h w, by rw [it, whole_areas]; exact Nat.le_refl _⟩
  | n + 1 => by
    obtain ⟨h1, h2⟩ := it_ar d1 a1 h w n (D := D)
    rw [it_succ]
    exact ⟨step_dim D d a _, Nat.le_trans (step_area d1 a1 h1).1 h2⟩
theorem Flds.len {D : Dots} {d a H W : Nat} {bs : List Bx} (F : Flds D d a H W bs) (d1 : 1 ≤ d) (a1 : 1 ≤ a) (h : 1 ≤ H) (w : 1 ≤ W) : bs.length ≤ H * W := by
  obtain ⟨n, e⟩ := F.2
  obtain ⟨h1, h2⟩ := it_ar (D := D) d1 a1 h w n
  rw [← e] at h1 h2
  exact Nat.le_trans (dim_len h1) h2
end Fl
namespace Dt
open PySem PySem.Spec PyProof.Rows L2 L2X
open SX (S)
open StX
open Fl
theorem cutV_to (xs : List V) (n : Nat) : cutV xs none (some (n : Int)) = xs.take n := by
  unfold cutV
  rw [HT.sIx_nat]
  show (xs.drop 0).take (min n xs.length - 0) = _
  rw [List.drop_zero, Nat.sub_zero]
  by_cases h : n ≤ xs.length
  · rw [Nat.min_eq_left h]
  · rw [Nat.min_eq_right (by omega), List.take_length, List.take_of_length_le (by omega)]
theorem or_by {K : PySem.W.Frag} {ta tb : TE} {σ : L2.St} {H : Hp} {Q : VK} {a : Addr} {ns : List Int} (hta : ∀ R : VK, R (.ref a) H → ta σ H R) (hS : SqL K H a (ns.map V.int)) (hl : ns.length ≤ 63)
    (hb : ∀ R : VK, (∀ l, H l = none → R (.ref l) (upd H l (.lst [V.int 5]))) → tb σ H R) (q : ∀ (H1 : Hp) (l0 : Addr) (ms : List Int), Same H H1 → SqL K H1 l0 (ms.map V.int) → ms.length ≤ 63 → Q (.ref l0) H1) : tOrT K ta tb σ H Q := by
  refine hta _ ⟨!(ns.map V.int).isEmpty, .inl ⟨_, hS, rfl⟩, ?_⟩
  cases ns with
  | nil => exact iteF (hb _ fun l hl => q _ l [5] (same_upd hl) (SqL.of upd_same) (by decide))
  | cons z zs => exact iteT (q H a (z :: zs) (Same.refl H) hS hl)
theorem dp_bools {K : PySem.W.Frag} {H : Hp} : ∀ bs : List Bool, DpAll K H (bs.map V.bl) (bs.map PyData.bool)
  | [] => .nil
  | b :: r => .cons (.bl b) (dp_bools r)
theorem lay_bools : ∀ b : List Bool, PyData.canLayAll0 (b.map PyData.bool) = true ∧ PyData.depthAll (b.map PyData.bool) ≤ 1
  | [] => ⟨by simp [PyData.canLayAll0], by simp [PyData.depthAll]⟩
  | p :: r => by
    obtain ⟨h1, h2⟩ := lay_bools r
    refine ⟨?_, ?_⟩
    · rw [List.map_cons]
      simp [PyData.canLayAll0, PyData.canLay0, h1]
    · rw [List.map_cons]
      simp only [PyData.depthAll, PyData.depth]
      omega
theorem shaped_bools (b : List Bool) : SeqAt.shaped (.list (b.map PyData.bool)) = true := by
  obtain ⟨h1, h2⟩ := lay_bools b
  unfold SeqAt.shaped
  rw [Bool.and_eq_true, decide_eq_true_iff]
  refine ⟨by simp [PyData.canLay0, h1], ?_⟩
  simp only [PyData.depth]
  omega
theorem count_bools (r c : Nat) : ∀ bs : List Bx, (((bs.map fun b => decide (b.In r c)).map PyData.bool).countP fun z => PyData.eqv z (.bool true)) = bs.countP fun b => decide (b.In r c)
  | [] => rfl
  | b :: bs => by
    rw [List.map_cons, List.map_cons, List.countP_cons, List.countP_cons, count_bools r c bs]
    have : PyData.eqv (.bool (decide (b.In r c))) (.bool true) = decide (b.In r c) := by
      rw [PyData.eqv]
      cases decide (b.In r c) <;> rfl
    rw [this]
theorem tin_no {K : PySem.W.Frag} {H : Hp} {a b c : Int} {bs : List Bx} (h : Tin K H [V.int a, V.int b, V.int c] (bs.map bI)) : False := by
  have l := h.len
  cases bs with
  | nil => simp at l
  | cons x r =>
    obtain ⟨t, e, _⟩ := h.at_ 0 _ _ rfl rfl
    cases e
theorem cutR_pic {high wide : Nat} {rs : List (List Nat)} {t l h w : Nat} (p : PicR high wide rs) (ht : t + h ≤ high) (hl : l + w ≤ wide) (h1 : 1 ≤ h) (w1 : 1 ≤ w) : PicR h w (cutR rs t l h w) := by
  have := p.h1
  have := p.w1
  refine ⟨cutR_len (by rw [p.len]; exact ht), fun q hq => ⟨cutR_row p.rows ht hl hq, fun c hc => ?_⟩, h1, by omega, w1, by omega⟩
  obtain ⟨k, hk, rfl⟩ := (cutR_mem (by rw [p.len]; exact ht)).mp hq
  have hk' : t + k < rs.length := by rw [p.len]; omega
  rw [getDl hk'] at hc
  exact (p.row _ (List.getElem_mem hk')).sg c (List.mem_of_mem_drop (List.mem_of_mem_take hc))
theorem cutR_agr {high wide : Nat} {rs : List (List Nat)} {t l h w : Nat} (R : RowsR high wide rs) (ht : t + h ≤ high) (hl : l + w ≤ wide) : Agr (DR rs) (DR (cutR rs t l h w)) t l h w := fun r c hr hc => by
  apply Bool.eq_iff_iff.mpr
  have e : (cutR rs t l h w).getD r [] = ((rs.getD (t + r) []).drop l).take w := by
    rw [List.getD_eq_getElem?_getD, cutR_at (by rw [R.len]; exact ht) hr]
    rfl
  rw [DR_iff, DR_iff, e, sub_at hc, show r + t = t + r by omega, show c + l = l + c by omega]
abbrev sLaw : Stmt := topS 38
abbrev nLaw : List Str := ["script", "k", "cell", "draw", "down", "across", "picture", "told", "spot", "box", "at", "other", "top", "left", "deep", "wide", "lower", "right", "due"]
theorem scLaw : FnScope nLaw ["script"] (defScope sLaw) := ⟨rfl, rfl, rfl, by decide +kernel, rfl, by decide +kernel, by decide +kernel⟩
def spLaw (K : PySem.W.Frag) : Sp := fun vs H Q _ => ∃ (a : Addr) (ns : List Int), vs = [.ref a] ∧ SqL K H a (ns.map V.int) ∧ ns.length ≤ 63 ∧ ∀ H', Q (.bl true) H'
section
variable {P : Program} {w : World} {K : PySem.W.Frag} {mg : Str → Option Value} {base : Heap} {CP : Addr}
theorem ok_law {f fF : Addr} {fd fdF : FuncData} {k : Nat} (F : Fun K "law" "law" sLaw f fd) (T : Tx mg) (en : mg "enumerate" = none) (an : mg "any" = none)
    (GB : Pm P w K mg base CX0 (k + 1) "_law_begun" ["cell", "k"] spBg) (GN : Pm P w K mg base CX0 (k + 1) "_law_next" ["draw", "below"] spNx) (GP : Pm P w K mg base CX0 (k + 1) "_law_page" ["draw"] spPg)
    (GS : Pm P w K mg base CX0 (k + 1) "_law_spots" ["picture"] (spSP K)) (GI : Pm P w K mg base CX0 (k + 1) "_law_inside" ["box", "spot"] spIN) (GM : Pm P w K mg base CX0 (k + 1) "_law_meet" ["one", "other"] spME) (GW : Pm P w K mg base CX0 (k + 1) "_law_whole" ["picture", "box"] spWH)
    (GV : Pm P w K mg base CX0 (k + 1) "_law_moved" ["draw", "picture"] spMV) (GC : Pm P w K mg base (L2.CX P w) (k + 1) "cut_out" ["picture", "top", "left", "high", "wide"] (spCut K CP))
    (FF : FnFI K fF fdF) (GF : FnOk P w K mg base CX0 (k + 1) fF fdF ["picture", "rows", "columns"] (spFI K)) (mF : mg "fields" = some (.ref fF)) : FnOk P w K mg base CX0 (k + 2) f fd ["script"] (spLaw K) := by
  obtain ⟨fB, fdB, GB, mB, kB, bB⟩ := GB.ex
  obtain ⟨fN, fdN, GN, mN, kN, bN⟩ := GN.ex
  obtain ⟨fP, fdP, GP, mP, kP, bP⟩ := GP.ex
  obtain ⟨fS, fdS, GS, mS, kS, bS⟩ := GS.ex
  obtain ⟨fI, fdI, GI, mI, kI, bI'⟩ := GI.ex
  obtain ⟨fM, fdM, GM, mM, kM, bM⟩ := GM.ex
  obtain ⟨fW, fdW, GW, mW, kW, bW⟩ := GW.ex
  obtain ⟨fV, fdV, GV, mV, kV, bV⟩ := GV.ex
  obtain ⟨fC, fdC, GC, mC, kC, bC⟩ := GC.ex
  obtain ⟨mvF, bF⟩ := fi_binds FF
  have kF := FF.kp
  refine F.ok scLaw (fun vs H Q E h => ?_) (fun cdv A outer s H vs Q E hr h => ?_)
  · obtain ⟨a, ns, rfl, _⟩ := h
    rfl
  · obtain ⟨a, ns, rfl, hS, hlen, q⟩ := h
    have nd := scLaw.nd
    have hu65 : (A.deeper (envOfC "law" (defScope sLaw) s.heap.objs.size f cdv)).units + 65 < cLine := by
      have := hr.un
      omega
    refine ⟨_, pss_cons (ps_for PassesOwn.never rfl (pi_enumG (by rfl) en (pa_cons (pe_slice sl_list (pe_orT (pv 0) (pe_one (pe_lst (pa_cons pe_int pa_nil)))) po_none (po_some pe_int)) pa_nil)) (pg_tup rfl (pgs_cons (pg_name (i := 1) nd rfl (Or.inl rfl)) (pgs_cons (pg_name (i := 2) nd rfl (Or.inl rfl)) pgs_nil)))
        (C8.pss_cut (ps_set (i := 3) nd rfl (.inl rfl) (pe_call GB hr (by rfl) mB kB bB .nil pass0 (pa_cons (pv 2) (pa_cons (pv 1) pa_nil))))
        (C8.pss_cut (ps_par (i := 4) (j := 5) (by rfl) nd rfl rfl (by decide) rfl rfl (pa_cons (pe_op op_add pe_int (pe_call GN hr (by rfl) mN kN bN .nil pass0 (pa_cons (pv 3) (pa_cons pe_int pa_nil)))) (pa_cons (pe_op op_add pe_int (pe_call GN hr (by rfl) mN kN bN .nil pass0 (pa_cons (pv 3) (pa_cons pe_int pa_nil)))) pa_nil)) (by rfl))
        (C8.pss_cut (ps_set (i := 6) nd rfl (.inl rfl) (pe_call GP hr (by rfl) mP kP bP .nil pass0 (pa_cons (pv 3) pa_nil)))
        (C8.pss_cut (ps_set (i := 7) nd rfl (.inl rfl) (pe_callN GF hr (by rfl) mF kF bF pass0 (pa_cons (pv 6) pa_nil) (pk_cons (pv 4) (pk_cons (pv 5) pk_nil))))
        (C8.pss_cut (ps_for PassesOwn.never rfl (pi_list (pe_call GS hr (by rfl) mS kS bS .nil pass0 (pa_cons (pv 6) pa_nil))) (pg_name (i := 8) nd rfl (.inr rfl))
          (pss_one (ps_if (pt_cmpR op_ne (pe_countK (K := K) rfl hu65 (pe_lc (own := [("box", 9)]) (g := gName 9) (tt := tYes) rfl nd (pi_list (pv 7)) (blkOk_by (N := nLaw) (sc := defScope sLaw) (by decide +kernel)) (fun _ _ _ _ _ => pg_name (i := 9) nd rfl (Or.inl rfl)) (fun _ _ _ _ _ => pts_nil) (fun _ _ _ _ _ => pe_call GI hr (by rfl) mI kI bI' .nil pass0 (pa_cons (pv 9) (pa_cons (pv 8) pa_nil)))) pe_bl) pe_int (nomark _)) (pss_one (ps_ret pe_bl)) pss_nil)))
        (C8.pss_cut (ps_for PassesOwn.never rfl (pi_enumG (by rfl) en (pa_cons (pv 7) pa_nil)) (pg_tup rfl (pgs_cons (pg_name (i := 10) nd rfl (Or.inl rfl)) (pgs_cons (pg_name (i := 9) nd rfl (Or.inr rfl)) pgs_nil)))
          (pss_cons (ps_if (PW.pt (pw_or (pt_val (pe_callB (cr_any rfl) (by rfl) an (by decide +kernel) (pa_cons (pe_lc (own := [("other", 11)]) (g := gName 11) (tt := tYes) rfl nd (pi_list (pe_slice sl_list (pv 7) po_none (po_some (pv 10)))) (blkOk_by (N := nLaw) (sc := defScope sLaw) (by decide +kernel)) (fun _ _ _ _ _ => pg_name (i := 11) nd rfl (Or.inl rfl)) (fun _ _ _ _ _ => pts_nil) (fun _ _ _ _ _ => pe_call GM hr (by rfl) mM kM bM .nil pass0 (pa_cons (pv 9) (pa_cons (pv 11) pa_nil)))) pa_nil)))
              (pw_or1 (pt_not (pt_val (pe_call GW hr (by rfl) mW kW bW .nil pass0 (pa_cons (pv 6) (pa_cons (pv 9) pa_nil)))))))) (pss_one (ps_ret pe_bl)) pss_nil)
          (pss_cons (ps_asg (pv 9) (pg_tup rfl (pgs_cons (pg_name (i := 12) nd rfl (Or.inl rfl)) (pgs_cons (pg_name (i := 13) nd rfl (Or.inl rfl)) (pgs_cons (pg_name (i := 14) nd rfl (Or.inl rfl)) (pgs_cons (pg_name (i := 15) nd rfl (Or.inl rfl)) pgs_nil))))))
          (pss_one (ps_if (pt_cmpR (op_neD hr.units) (pe_callN GF hr (by rfl) mF kF bF pass0 (pa_cons (pe_call GC hr (by rfl) mC kC bC .nil passX0 (pa_cons (pv 6) (pa_cons (pv 12) (pa_cons (pv 13) (pa_cons (pv 14) (pa_cons (pv 15) pa_nil)))))) pa_nil) (pk_cons (pv 4) (pk_cons (pv 5) pk_nil))) (pe_lst (pa_cons (pe_tup (pa_cons pe_int (pa_cons pe_int (pa_cons (pv 14) (pa_cons (pv 15) pa_nil))))) pa_nil)) (nomark _)) (pss_one (ps_ret pe_bl)) pss_nil)))))
        (C8.pss_cut (ps_asg (pe_call GV hr (by rfl) mV kV bV .nil pass0 (pa_cons (pv 3) (pa_cons (pv 6) pa_nil))) (pg_tup rfl (pgs_cons (pg_name (i := 11) nd rfl (Or.inl rfl)) (pgs_cons (pg_name (i := 16) nd rfl (Or.inr rfl)) (pgs_cons (pg_name (i := 17) nd rfl (Or.inr rfl)) pgs_nil)))))
        (C8.pss_cut (ps_setLc (i := 18) (own := [("top", 12), ("left", 13), ("deep", 14), ("wide", 15)]) (g := gTup K 4 (gCons (gName 12) (gCons (gName 13) (gCons (gName 14) (gCons (gName 15) gNil))))) (tt := tYes) (by rfl) nd rfl rfl (sw_true rfl rfl rfl (by decide +kernel)) (pi_list (pv 7)) (blkOk_by (N := nLaw) (sc := defScope sLaw) (by decide +kernel))
            (fun _ _ _ _ _ => pg_tup rfl (pgs_cons (pg_name (i := 12) nd rfl (Or.inl rfl)) (pgs_cons (pg_name (i := 13) nd rfl (Or.inl rfl)) (pgs_cons (pg_name (i := 14) nd rfl (Or.inl rfl)) (pgs_cons (pg_name (i := 15) nd rfl (Or.inl rfl)) pgs_nil))))) (fun _ _ _ _ _ => pts_nil)
            (fun _ _ _ _ _ => pe_tup (pa_cons (pe_op op_add (pv 12) (pv 16)) (pa_cons (pe_op op_add (pv 13) (pv 17)) (pa_cons (pv 14) (pa_cons (pv 15) pa_nil))))))
        (pss_cons (ps_if (pt_cmpR (op_neD hr.units) (pe_callN GF hr (by rfl) mF kF bF pass0 (pa_cons (pv 11) pa_nil) (pk_cons (pv 4) (pk_cons (pv 5) pk_nil))) (pv 18) (nomark _)) (pss_one (ps_ret pe_bl)) pss_nil)
        (pss_one (ps_if (pt_cmpR op_gt (pe_callB call_len_seq (by rfl) T.len PySem.boot_len (pa_cons (pe_callN GF hr (by rfl) mF kF bF pass0 (pa_cons (pv 6) pa_nil) (pk_cons (pe_op op_add (pv 4) pe_int) (pk_cons (pe_op op_add (pv 5) pe_int) pk_nil))) pa_nil)) (pe_callB call_len_seq (by rfl) T.len PySem.boot_len (pa_cons (pv 7) pa_nil)) (nomark _)) (pss_one (ps_ret pe_bl)) pss_nil))))))))))))
      (pss_one (ps_ret pe_bl)), ?_⟩
    refine or_by (a := a) (ns := ns) (fun R r => ⟨.ref a, rfl, r⟩) hS hlen (fun R r => ⟨by show 1 ≤ sizeLine; decide, fun l hl => r l hl⟩) fun H1 l0 ms s1 hq hm => ?_
    refine ⟨4, rfl, l0, _, rfl, hq, fun lc hlc => ?_⟩
    have scut : cutV (ms.map V.int) none (some 4) = (ms.take 4).map V.int := by
      rw [List.map_take]
      exact cutV_to _ 4
    have hlc1 : (upd H1 lc (.lst (cutV (ms.map V.int) none (some 4)))) lc = some (.lst ((ms.take 4).map V.int)) := by rw [upd_same, scut]
    generalize upd H1 lc (.lst (cutV (ms.map V.int) none (some 4))) = HB at hlc1 ⊢
    refine ⟨.lst lc, (ms.take 4).map V.int, rfl, SqL.of hlc1, for_enumG (K := K) (A := .lst lc) (xs := (ms.take 4).map V.int) (fun i σ H2 => ∃ y1 y2 y3 y4 y5 y6 y7 y8 y9 y10 y11 y12 y13 y14 y15 y16 y17 y18, σ = [some (.ref a), y1, y2, y3, y4, y5, y6, y7, y8, y9, y10, y11, y12, y13, y14, y15, y16, y17, y18] ∧ Same HB H2) ⟨none, none, none, none, none, none, none, none, none, none, none, none, none, none, none, none, none, none, rfl, Same.refl _⟩ (fun i σ H2 _ z => by
      obtain ⟨_, _, _, _, _, _, _, _, _, _, _, _, _, _, _, _, _, _, _, sm⟩ := z
      exact SqL.of (sm _ _ hlc1)) ?_ ?_⟩
    · rintro kk x σ H2 T' hx ⟨y1, y2, y3, y4, y5, y6, y7, y8, y9, y10, y11, y12, y13, y14, y15, y16, y17, y18, rfl, sm⟩ hT
      have hkk : kk < 5 := by
        have := (List.getElem?_eq_some_iff.mp hx).1
        rw [List.length_map, List.length_take] at this
        omega
      obtain ⟨cell, _, rfl⟩ := map_at2 hx
      have sB := sm.trans (same_upd (o := .tup [V.int (kk : Nat), V.int cell]) hT)
      refine ⟨T', _, rfl, SqT.of upd_same, rfl, _, _, rfl, _, _, rfl, rfl, ?_⟩
      generalize upd H2 T' (.tup [V.int (kk : Nat), V.int cell]) = H3 at sB
      -- the drawing list
      refine ⟨fun σ' H' => ∃ d, σ' = [some (.ref a), some (.int (kk : Nat)), some (.int cell), some (.ref d), y4, y5, y6, y7, y8, y9, y10, y11, y12, y13, y14, y15, y16, y17, y18] ∧ HB d = none ∧ Du H' d 0 ∧ Same HB H', ?_, ?_⟩
      · exact ⟨.int cell, rfl, .int kk, rfl, cell, kk, rfl, by omega, by omega, fun d H4 nd4 s4 D4 => ⟨d, rfl, sB.free nd4, D4, sB.trans s4⟩⟩
      rintro _ H4 ⟨d, rfl, ndB, D4, s4⟩
      have doB : ∀ {H5 : Hp}, Do d H4 H5 → Same HB H5 := fun dn b o e => dn b o (s4 b o e) (ne_of_none e ndB)
      -- how much parts
      refine ⟨fun σ' H' => ∃ dd cc : Nat, σ' = [some (.ref a), some (.int (kk : Nat)), some (.int cell), some (.ref d), some (.int dd), some (.int cc), y6, y7, y8, y9, y10, y11, y12, y13, y14, y15, y16, y17, y18] ∧ 1 ≤ dd ∧ dd ≤ 6 ∧ 1 ≤ cc ∧ cc ≤ 9 ∧ Du H' d 2 ∧ Do d H4 H', ?_, ?_⟩
      · refine ⟨.ref d, rfl, d, 6, 0, rfl, D4, (by show 0 ≤ 1000000000000; decide), by decide, by decide, fun m H5 m0 m1 D5 dn5 => ⟨1, m, rfl, rfl, .ref d, rfl, d, 9, _, rfl, D5, (by show 1 ≤ 1000000000000; decide), by decide, by decide, fun m2 H6 q0 q1 D6 dn6 => ⟨1, m2, rfl, rfl, ?_⟩⟩⟩
        obtain ⟨m, rfl⟩ := Int.eq_ofNat_of_zero_le m0
        obtain ⟨m2, rfl⟩ := Int.eq_ofNat_of_zero_le q0
        have e1 : (1 + (m : Int)) = ((1 + m : Nat) : Int) := by omega
        have e2 : (1 + (m2 : Int)) = ((1 + m2 : Nat) : Int) := by omega
        refine ⟨_, _, rfl, 1 + m, 1 + m2, ?_, by omega, by omega, by omega, by omega, D6, dn5.trans dn6⟩
        rw [← e1, ← e2]
        rfl
      rintro _ H5 ⟨dd, cc, rfl, d1, d6, c1, c9, D5, dn5⟩
      -- the page
      refine ⟨fun σ' H' => ∃ (pa : Addr) (high wide : Nat) (rs : List (List Nat)), σ' = [some (.ref a), some (.int (kk : Nat)), some (.int cell), some (.ref d), some (.int dd), some (.int cc), some (.ref pa), y7, y8, y9, y10, y11, y12, y13, y14, y15, y16, y17, y18] ∧ PicR high wide rs ∧ high ≤ 30 ∧ wide ≤ 50 ∧ H' pa = some (.tup (rs.map rv)) ∧ Du H' d 20002 ∧ Do d H4 H', ?_, ?_⟩
      · exact ⟨.ref d, rfl, d, 2, rfl, D5, (by show _ ≤ 1000000000000; decide), fun pa high wide rs H7 pr h1 w1 np hpa D7 dn7 => ⟨pa, high, wide, rs, rfl, pr, h1, w1, hpa, D7, dn5.trans dn7⟩⟩
      rintro _ H6 ⟨pa, high, wide, rs, rfl, pr, hi30, wi50, hpa, D6, dn6⟩
      have hh0 := pr.h0
      have hw0 := pr.w0
      have hlr := pr.len
      -- the fields
      refine ⟨fun σ' H' => ∃ (r : Addr) (xs : List V) (bs : List Bx), σ' = [some (.ref a), some (.int (kk : Nat)), some (.int cell), some (.ref d), some (.int dd), some (.int cc), some (.ref pa), some (.ref r), y8, y9, y10, y11, y12, y13, y14, y15, y16, y17, y18] ∧ Same H6 H' ∧ H' r = some (.lst xs) ∧ Flds (DR rs) dd cc high wide bs ∧ Tin K H' xs (bs.map bI), ?_, ?_⟩
      · exact ⟨.ref pa, rfl, .int dd, rfl, .int cc, rfl, rfl, rfl, pa, dd, cc, high, wide, rs, rfl, hpa, pr, d1, by omega, c1, by omega, fun r xs bs H7 s7 _ h7 F7 t7 => ⟨r, xs, bs, rfl, s7, h7, F7, t7⟩⟩
      rintro _ H7 ⟨r, xs, bs, rfl, s7, hr7, FL0, tn⟩
      have lay := FL0.lay
      have each := fix_each d1 c1 FL0.1
      have lbs : bs.length ≤ 1500 := by
        have h1 := FL0.len d1 c1 hh0 hw0
        have h2 : high * wide ≤ 30 * 50 := Nat.mul_le_mul hi30 wi50
        omega
      have lx : xs.length = bs.length := by rw [tn.len, List.length_map]
      have hpa7 := s7 _ _ hpa
      have bnd : ∀ b ∈ bs, b.t + b.h ≤ high ∧ b.l + b.w ≤ wide := fun b hb => by
        obtain ⟨u1, u2, u3, u4⟩ := lay.sub b hb
        have e1 : (whole high wide).t + (whole high wide).h = 0 + high := rfl
        have e2 : (whole high wide).l + (whole high wide).w = 0 + wide := rfl
        omega
      -- each dot in one
      refine ⟨fun σ' H' => ∃ y8, σ' = [some (.ref a), some (.int (kk : Nat)), some (.int cell), some (.ref d), some (.int dd), some (.int cc), some (.ref pa), some (.ref r), y8, y9, y10, y11, y12, y13, y14, y15, y16, y17, y18] ∧ Same H7 H', ?_, ?_⟩
      · refine ⟨.ref pa, rfl, pa, high, wide, rs, rfl, hpa7, pr, fun l ws ps H8 s8 hl tl dts => ⟨l, rfl, ⟨_, SqL.of hl⟩, for_list (K := K) (a := l) (xs := ws) (fun i σ H9 => ∃ y8, σ = [some (.ref a), some (.int (kk : Nat)), some (.int cell), some (.ref d), some (.int dd), some (.int cc), some (.ref pa), some (.ref r), y8, y9, y10, y11, y12, y13, y14, y15, y16, y17, y18] ∧ Same H8 H9) ⟨y8, rfl, Same.refl _⟩ (fun i σ H9 _ z => by
          obtain ⟨_, _, sm⟩ := z
          exact SqL.of (sm _ _ hl)) ?_ ?_⟩⟩
        · rintro i x σ H9 hx ⟨y8, rfl, sm9⟩
          have hip : i < ps.length := by
            have := (List.getElem?_eq_some_iff.mp hx).1
            rw [tl.len, List.length_map] at this
            exact this
          have ep : ps[i]? = some ps[i] := List.getElem?_eq_getElem hip
          have dp := dts ps[i] (List.getElem_mem hip)
          generalize ps[i] = p at ep dp
          obtain ⟨sx, rfl, hsx⟩ := tl.at_ i x (pI p) hx (by rw [List.getElem?_map, ep]; rfl)
          have s79 := s8.trans sm9
          have hs9 := sm9 _ _ hsx
          have hr9 := s79 _ _ hr7
          refine ⟨.ref r, rfl, r, rfl, ⟨_, SqL.of hr9⟩, fun D hD => lc_list (K := K) (a := r) (xs := xs) (fun j H10 => Same H9 H10 ∧ H10 D = some (.lst (((bs.take j).map fun b => decide (b.In p.1 p.2)).map V.bl))) ⟨same_upd hD, upd_same⟩ (fun j H10 _ z => SqL.of (z.1 _ _ hr9)) ?_ ?_⟩
          · rintro j x H10 hxj ⟨sm, h10⟩
            have hj : j < bs.length := by
              have := (List.getElem?_eq_some_iff.mp hxj).1
              rw [lx] at this
              exact this
            have eb : bs[j]? = some bs[j] := List.getElem?_eq_getElem hj
            generalize bs[j] = b at eb
            obtain ⟨t, rfl, ht⟩ := tn.at_ j x (bI b) hxj (by rw [List.getElem?_map, eb]; rfl)
            refine ⟨rfl, .ref t, rfl, .ref sx, rfl, t, sx, b, p.1, p.2, rfl, sm _ _ (s79 _ _ ht), sm _ _ hs9, _, h10, ?_, same_over sm hD, ?_⟩
            · rw [List.length_map, List.length_map, List.length_take, sizeLine_eq]
              omega
            · rw [upd_same, take_snoc eb, List.map_append, List.map_append]
              rfl
          · rintro H10 ⟨sm, h10⟩
            rw [lx, List.take_length] at h10
            refine ⟨.inl ⟨rfl, _, SqL.of h10⟩, D, .bl true, .bool true, ((bs.map fun b => decide (b.In p.1 p.2)).map PyData.bool), rfl, rfl, .lst (SqL.of h10) (dp_bools _), .bl true, shaped_bools _, by decide +kernel, ?_⟩
            have one : (bs.countP fun b => decide (b.In p.1 p.2)) = 1 := by
              obtain ⟨g1, g2⟩ := DR_in pr.rows dp
              refine count_one lay.apart ?_
              obtain ⟨b, hb, hi⟩ := lay.cov p.1 p.2 dp ⟨Nat.zero_le _, by show p.1 < 0 + high; omega, Nat.zero_le _, by show p.2 < 0 + wide; omega⟩
              exact ⟨b, hb, hi⟩
            rw [count_bools, one]
            exact ⟨rfl, _, rfl, iteF ⟨_, rfl, sm9.trans sm⟩⟩
        · rintro σ H9 ⟨y8, rfl, sm9⟩
          exact ⟨y8, rfl, s8.trans sm9⟩
      clear y8
      rintro _ H8 ⟨y8, rfl, s8⟩
      have tn8 := tn.same s8
      have hr8 := s8 _ _ hr7
      have hpa8 := s8 _ _ hpa7
      -- the boxes
      refine ⟨fun σ' H' => ∃ y9 y10 y11 y12 y13 y14 y15, σ' = [some (.ref a), some (.int (kk : Nat)), some (.int cell), some (.ref d), some (.int dd), some (.int cc), some (.ref pa), some (.ref r), y8, y9, y10, y11, y12, y13, y14, y15, y16, y17, y18] ∧ Same H8 H', ?_, ?_⟩
      · refine ⟨.ref r, rfl, .lst r, xs, rfl, SqL.of hr8, for_enumG (K := K) (A := .lst r) (xs := xs) (fun i σ H9 => ∃ y9 y10 y11 y12 y13 y14 y15, σ = [some (.ref a), some (.int (kk : Nat)), some (.int cell), some (.ref d), some (.int dd), some (.int cc), some (.ref pa), some (.ref r), y8, y9, y10, y11, y12, y13, y14, y15, y16, y17, y18] ∧ Same H8 H9) ⟨y9, y10, y11, y12, y13, y14, y15, rfl, Same.refl _⟩ (fun i σ H9 _ z => by
          obtain ⟨_, _, _, _, _, _, _, _, sm⟩ := z
          exact SqL.of (sm _ _ hr8)) ?_ ?_⟩
        · rintro i x σ H9 T0 hx ⟨y9, y10, y11, y12, y13, y14, y15, rfl, sm9⟩ nT
          have hi : i < bs.length := by
            have := (List.getElem?_eq_some_iff.mp hx).1
            rw [lx] at this
            exact this
          have eb : bs[i]? = some bs[i] := List.getElem?_eq_getElem hi
          have hb : bs[i] ∈ bs := List.getElem_mem hi
          generalize ebi : bs[i] = b at eb hb
          obtain ⟨t, rfl, ht⟩ := tn8.at_ i x (bI b) hx (by rw [List.getElem?_map, eb]; rfl)
          refine ⟨T0, _, rfl, SqT.of upd_same, rfl, _, _, rfl, _, _, rfl, rfl, ?_⟩
          have sT := sm9.trans (same_upd (o := .tup [V.int (i : Nat), V.ref t]) nT)
          generalize upd H9 T0 (.tup [V.int (i : Nat), V.ref t]) = H10 at sT
          have hr10 := sT _ _ hr8
          have ht10 := sT _ _ ht
          have hpa10 := sT _ _ hpa8
          obtain ⟨bh, bw⟩ := bnd b hb
          obtain ⟨ea1, ea2⟩ := each b hb
          have edg := edg_of ea1
          refine ⟨.ref r, rfl, .int (i : Nat), rfl, i, rfl, r, _, rfl, SqL.of hr10, fun z hz => ?_⟩
          have ecut : cutV xs none (some (i : Int)) = xs.take i := cutV_to xs i
          rw [ecut]
          have sz := same_upd (o := .lst (xs.take i)) hz
          have hz1 : (upd H10 z (.lst (xs.take i))) z = some (.lst (xs.take i)) := upd_same
          generalize upd H10 z (.lst (xs.take i)) = H11 at sz hz1
          refine ⟨z, rfl, ⟨_, SqL.of hz1⟩, fun D hD => lc_list (K := K) (a := z) (xs := xs.take i) (fun j H12 => Same H11 H12 ∧ H12 D = some (.lst ((List.replicate j false).map V.bl))) ⟨same_upd hD, upd_same⟩ (fun j H12 _ z => SqL.of (z.1 _ _ hz1)) ?_ ?_⟩
          · rintro j x H12 hxj ⟨sm, h12⟩
            have hji : j < i ∧ j < xs.length := by
              have := (List.getElem?_eq_some_iff.mp hxj).1
              rw [List.length_take] at this
              omega
            rw [List.getElem?_take, if_pos hji.1] at hxj
            have hj : j < bs.length := by omega
            have ej : bs[j]? = some bs[j] := List.getElem?_eq_getElem hj
            have ap : Fl.Apart b bs[j] := by
              rw [← ebi]
              exact apart_symm (List.pairwise_iff_getElem.mp lay.apart j i hj hi hji.1)
            generalize bs[j] = o at ej ap
            obtain ⟨u, rfl, hu⟩ := tn8.at_ j x (bI o) hxj (by rw [List.getElem?_map, ej]; rfl)
            have s12 := (sT.trans sz).trans sm
            refine ⟨rfl, .ref t, rfl, .ref u, rfl, t, u, b, o, rfl, s12 _ _ ht, s12 _ _ hu, ap, _, h12, ?_, same_over sm hD, ?_⟩
            · rw [List.length_map, List.length_replicate, sizeLine_eq]
              omega
            · rw [upd_same, List.replicate_succ', List.map_append]
              rfl
          · rintro H12 ⟨sm, h12⟩
            have s12 := (sT.trans sz).trans sm
            refine ⟨D, _, rfl, SqL.of h12, _, rfl, ?_⟩
            have e0 : (List.replicate (xs.take i).length false).any id = false := by
              rw [List.any_eq_false]
              intro z hz
              rw [(List.mem_replicate.mp hz).2]
              decide
            rw [e0]
            refine iteF ⟨.ref pa, rfl, .ref t, rfl, pa, t, high, wide, rs, b, rfl, s12 _ _ hpa8, pr, s12 _ _ ht, bh, bw, edg, fun H13 s13 => ⟨_, rfl, iteF ?_⟩⟩
            have s14 := s12.trans s13
            have ht13 := s14 _ _ ht
            have hpa13 := s14 _ _ hpa8
            refine ⟨.ref t, rfl, t, _, rfl, SqT.of ht13, rfl, _, _, rfl, _, _, rfl, _, _, rfl, _, _, rfl, rfl, ?_⟩
            have hbb : (strB (.int b.t) (.int b.h) high && strB (.int b.l) (.int b.w) wide) = true := by
              rw [strB_of edg.h bh, strB_of edg.w bw]
              rfl
            refine ⟨.ref pa, rfl, .int b.t, rfl, .int b.l, rfl, .int b.h, rfl, .int b.w, rfl, pa, high, wide, rs, .int b.t, .int b.l, .int b.h, .int b.w, rfl, hpa13, pr, kt_int _, kt_int _, kt_int _, kt_int _, fun _ x1 x2 x3 x4 e1 e2 e3 e4 _ _ _ _ p5 H14 s5 np5 hp5 => ?_, fun e => ?_⟩
            · cases e1
              cases e2
              cases e3
              cases e4
              have prc : PicR b.h b.w (cutR rs b.t b.l b.h b.w) := cutR_pic pr bh bw edg.h edg.w
              refine ⟨.int dd, rfl, .int cc, rfl, rfl, rfl, p5, dd, cc, b.h, b.w, _, rfl, hp5, prc, d1, by omega, c1, by omega, fun r2 xs2 bs2 H15 s15 _ h15 F15 t15 => ?_⟩
              have e2 : bs2 = [whole b.h b.w] := F15.uniq (FL0.cut d1 c1 hb (cutR_agr pr.rows bh bw))
              subst e2
              refine ⟨.int b.h, rfl, .int b.w, rfl, by show 4 ≤ sizeLine; decide, fun t0 ht0 => ⟨by show 1 ≤ sizeLine; decide, fun l0 hl0 => ?_⟩⟩
              have st0 := same_upd (o := .tup [V.int 0, V.int 0, V.int (b.h : Int), V.int (b.w : Int)]) ht0
              have sl0 := same_upd (o := .lst [V.ref t0]) hl0
              have tw : Tin K (upd (upd H15 t0 (.tup [V.int 0, V.int 0, V.int (b.h : Int), V.int (b.w : Int)])) l0 (.lst [V.ref t0])) [V.ref t0] ([whole b.h b.w].map bI) := by
                refine Tin.add (xs := []) (bs := []) Tin.nil ?_
                refine sl0 _ _ ?_
                rw [upd_same]
                rfl
              refine ⟨_, _, .lst (SqL.of ((st0.trans sl0) _ _ h15)) (dp_tin (t15.same (st0.trans sl0))), .lst (SqL.of upd_same) (dp_tin tw), shaped_tins _, shaped_tins _, _, rfl, iteE (by rw [ne_bs, decide_eq_true rfl]; rfl) ?_⟩
              exact ⟨_, _, _, _, _, _, _, rfl, ((s14.trans s5).trans s15).trans (st0.trans sl0)⟩
            · rw [hbb] at e
              cases e
        · rintro σ H9 ⟨y9, y10, y11, y12, y13, y14, y15, rfl, sm9⟩
          exact ⟨_, _, _, _, _, _, _, rfl, sm9⟩
      clear y9 y10 y11 y12 y13 y14 y15
      rintro _ H9 ⟨y9, y10, y11, y12, y13, y14, y15, rfl, s9⟩
      have s69 := (s7.trans s8).trans s9
      have D9 := D6.same s69
      have hpa9 := s9 _ _ hpa8
      have hr9 := s9 _ _ hr8
      have tn9 := tn8.same s9
      have dn9 := dn6.trans (Do.same s69)
      obtain ⟨du1, du2, du3, hd9, dz1, dz2⟩ := id D9
      -- moved
      refine ⟨fun σ' H' => ∃ (p : Addr) (dn ac high' wide' : Nat) (rs' : List (List Nat)), σ' = [some (.ref a), some (.int (kk : Nat)), some (.int cell), some (.ref d), some (.int dd), some (.int cc), some (.ref pa), some (.ref r), y8, y9, y10, some (.ref p), y12, y13, y14, y15, some (.int dn), some (.int ac), y18] ∧ Do d H9 H' ∧ Du H' d 20012 ∧ PicR high' wide' rs' ∧ Mov (DR rs') (DR rs) dn ac high wide high' wide' ∧ H' p = some (.tup (rs'.map rv)), ?_, ?_⟩
      · refine ⟨.ref d, rfl, .ref pa, rfl, d, pa, 20002, high, wide, rs, rfl, D9, (by show _ ≤ 1000000000000; decide), hpa9, pr, hi30, wi50, fun z p dn ac high' wide' rs' H10 do10 D10 pr' M hz hp => ?_⟩
        exact ⟨z, _, rfl, SqT.of hz, rfl, _, _, rfl, _, _, rfl, _, _, rfl, rfl, p, dn, ac, high', wide', rs', rfl, do10, D10, pr', M, hp⟩
      rintro _ H10 ⟨p, dn, ac, high', wide', rs', rfl, do10, D10, pr', M, hp⟩
      have npd : pa ≠ d := ne_of hpa9 hd9 (by intro z; cases z)
      have nrd : r ≠ d := by
        rintro rfl
        rw [hr9] at hd9
        cases hd9
        exact tin_no tn9
      have hpa10 := do10 _ _ hpa9 npd
      have hr10 := do10 _ _ hr9 nrd
      have tn10 : Tin K H10 xs (bs.map bI) := ⟨tn9.len, fun i x b hx hb => by
        obtain ⟨t, e, ht⟩ := tn9.at_ i x b hx hb
        exact ⟨t, e, do10 _ _ ht (ne_of ht hd9 (by intro z; cases z))⟩⟩
      -- due
      refine ⟨fun σ' H' => ∃ (du : Addr) (zs : List V), σ' = [some (.ref a), some (.int (kk : Nat)), some (.int cell), some (.ref d), some (.int dd), some (.int cc), some (.ref pa), some (.ref r), y8, y9, y10, some (.ref p), y12, y13, y14, y15, some (.int dn), some (.int ac), some (.ref du)] ∧ Same H10 H' ∧ H' du = some (.lst zs) ∧ Tin K H' zs ((bs.map (Bx.sh dn ac)).map bI), ?_, ?_⟩
      · refine ⟨.ref r, rfl, r, rfl, ⟨_, SqL.of hr10⟩, fun D hD => lc_list (K := K) (a := r) (xs := xs) (fun j H11 => ∃ zs, Same H10 H11 ∧ H11 D = some (.lst zs) ∧ zs.length ≤ j ∧ Tin K H11 zs (((bs.take j).map (Bx.sh dn ac)).map bI)) ⟨[], same_upd hD, upd_same, Nat.le_refl _, Tin.nil⟩ (fun j H11 _ z => by
          obtain ⟨_, sm, _⟩ := z
          exact SqL.of (sm _ _ hr10)) ?_ ?_⟩
        · rintro j x H11 hxj ⟨zs, sm, h11, lz, tz⟩
          have hj : j < bs.length := by
            have := (List.getElem?_eq_some_iff.mp hxj).1
            rw [lx] at this
            exact this
          have eb : bs[j]? = some bs[j] := List.getElem?_eq_getElem hj
          generalize bs[j] = b at eb
          obtain ⟨t, rfl, ht⟩ := tn10.at_ j x (bI b) hxj (by rw [List.getElem?_map, eb]; rfl)
          refine ⟨t, _, rfl, SqT.of (sm _ _ ht), rfl, _, _, rfl, _, _, rfl, _, _, rfl, _, _, rfl, rfl, rfl, ?_⟩
          refine ⟨.int b.t, rfl, .int dn, rfl, b.t, dn, rfl, rfl, .int b.l, rfl, .int ac, rfl, b.l, ac, rfl, rfl, .int b.h, rfl, .int b.w, rfl, by show 4 ≤ sizeLine; decide, fun u hu => ?_⟩
          have su := same_upd (o := .tup [V.int ((b.t : Int) + dn), V.int ((b.l : Int) + ac), V.int (b.h : Int), V.int (b.w : Int)]) hu
          have h12 := su _ _ h11
          refine ⟨zs, h12, ?_, zs ++ [.ref u], same_over (sm.trans su) hD, upd_same, by rw [List.length_append]; exact Nat.add_le_add_right lz 1, ?_⟩
          · rw [sizeLine_eq]
            omega
          · rw [take_snoc eb, List.map_append, List.map_append]
            refine Tin.add ((tz.same su).updl h12) ?_
            rw [upd_ne (ne_of_none h11 hu).symm, upd_same]
            show _ = some (HO.tup [V.int ((b.t + dn : Nat) : Int), V.int ((b.l + ac : Nat) : Int), V.int (b.h : Int), V.int (b.w : Int)])
            rw [show ((b.t + dn : Nat) : Int) = (b.t : Int) + dn by omega, show ((b.l + ac : Nat) : Int) = (b.l : Int) + ac by omega]
        · rintro H11 ⟨zs, sm, h11, lz, tz⟩
          rw [lx, List.take_length] at tz
          exact ⟨D, zs, rfl, sm, h11, tz⟩
      rintro _ H11 ⟨du, zs, rfl, s11, hdu, tz⟩
      -- the moved page's fields
      refine ⟨.ref p, rfl, .int dd, rfl, .int cc, rfl, rfl, rfl, p, dd, cc, high', wide', rs', rfl, s11 _ _ hp, pr', d1, by omega, c1, by omega, fun r3 xs3 bs3 H12 s12 _ h12 F12 t12 => ?_⟩
      have e3 : bs3 = bs.map (Bx.sh dn ac) := F12.uniq (FL0.mov M)
      subst e3
      refine ⟨.ref du, rfl, _, _, .lst (SqL.of h12) (dp_tin t12), .lst (SqL.of (s12 _ _ hdu)) (dp_tin (tz.same s12)), shaped_tins _, shaped_tins _, _, rfl, iteE (by rw [ne_bs, decide_eq_true rfl]; rfl) ?_⟩
      -- with greater bounds
      have s1012 := s11.trans s12
      refine ⟨.ref pa, rfl, .int dd, rfl, dd, 1, rfl, rfl, .int cc, rfl, cc, 1, rfl, rfl, rfl, rfl, pa, dd + 1, cc + 1, high, wide, rs, rfl, s1012 _ _ hpa10, pr, by omega, by omega, by omega, by omega, fun r4 xs4 bs4 H13 s13 _ h13 F13 t13 => ?_⟩
      refine ⟨r4, xs4, rfl, .inl (SqL.of h13), .ref r, rfl, r, xs, rfl, .inl (SqL.of ((s1012.trans s13) _ _ hr10)), _, _, rfl, rfl, _, rfl, iteE ?_ ?_⟩
      · have := FL0.fewer d1 c1 (Nat.le_succ dd) (Nat.le_succ cc) F13
        rw [t13.len, lx, List.length_map]
        exact decide_eq_false (by omega)
      · exact ⟨_, _, _, _, _, _, _, _, _, _, _, _, _, _, _, _, _, _, rfl, doB (dn9.trans (do10.trans (Do.same (s1012.trans s13))))⟩
    · rintro σ H2 ⟨y1, y2, y3, y4, y5, y6, y7, y8, y9, y10, y11, y12, y13, y14, y15, y16, y17, y18, rfl, sm⟩
      exact q _
end
end Dt
namespace Dt
open PySem PySem.Spec PyProof.Rows L2 L2X
abbrev BndT (nm : Str) (st : Stmt) (ps : List Str) : Prop := ∀ (kV doc pm : Value) (an : Option Addr) (cdv ct : Value) (us : List Value), us.length = ps.length → bindArgs (PySem.W.fnOf nm nm (defArgs st) (defBody st) (defScope st) .none kV doc pm an cdv ct) ⟨us, []⟩ = pure (ps.zip us)
abbrev BndM (nm qn : Str) (st : Stmt) (ps : List Str) : Prop := ∀ (kV doc pm : Value) (an : Option Addr) (cdv ct : Value) (us : List Value), us.length = ps.length → bindArgs (PySem.W.fnOf nm qn (defArgs st) (defBody st) (defScope st) .none kV doc pm an cdv ct) ⟨us, []⟩ = pure (ps.zip us)
theorem df_mk {K : PySem.W.Frag} {h : Heap} {mg : Str → Option Value} {nm : Str} {st : Stmt} {ps : List Str} {f : Addr} {oc : Value} {od an : Option Addr} {osl : Array (Option Value)} {kV doc pm cdv ct : Value} (X : K.In h) (G : h.Ns mainGlobals mg)
    (a : PySem.W.nsIn K mainGlobals nm = some (some (.ref f))) (l : K.lookup f = some ⟨oc, od, .func (PySem.W.fnOf nm nm (defArgs st) (defBody st) (defScope st) .none kV doc pm an cdv ct), osl⟩) (c : PySem.W.codeIn K cdv nm = true) (k : PySem.W.keepIn K (.ref f) = true) (hb : BndT nm st ps) : Df K mg nm st ps :=
  have F := fun_mk (st := st) l c k
  ⟨f, _, F, PySem.W.mg_of X G a, F.binds (ps := ps) hb⟩
theorem gli_mk {K : PySem.W.Frag} {h : Heap} {mg : Str → Option Value} {nm : Str} {i : Int} {t : Tok} (X : K.In h) (G : h.Ns mainGlobals mg) (a : PySem.W.nsIn K mainGlobals nm = some (some (.int i t))) : ∃ t, mg nm = some (.int i t) := ⟨t, PySem.W.mg_of X G a⟩
theorem exN_mk {K : PySem.W.Frag} {h : Heap} {mg : Str → Option Value} {nm : Str} {C : Addr} (X : K.In h) (G : h.Ns mainGlobals mg) (a : PySem.W.nsIn K mainGlobals nm = some (some (.ref C))) (x : PySem.W.excIn K C [.type "ValueError", .type "Exception", .type "BaseException", .type "object"] "ValueError.__new__" = true) (k : PySem.W.keepIn K (.ref C) = true) (b : PySem.W.subIn K (.ref C) (.type "BaseException") = some true) (t : PySem.W.typeIn K (.ref C) = some (.type "type")) : ExN K mg nm C :=
  ⟨PySem.W.mg_of X G a, x, k, b, t⟩
theorem bnd0 : BndT "_law_begun" sBg ["cell", "k"] := fun _ _ _ _ _ _ us hl => match us, hl with | [_, _], _ => rfl
theorem bnd1 : BndT "_law_next" sNx ["draw", "below"] := fun _ _ _ _ _ _ us hl => match us, hl with | [_, _], _ => rfl
theorem bnd2 : BndT "_law_pick" sPk ["draw", "some"] := fun _ _ _ _ _ _ us hl => match us, hl with | [_, _], _ => rfl
theorem bnd3 : BndT "_law_blank" sBk ["deep", "wide"] := fun _ _ _ _ _ _ us hl => match us, hl with | [_, _], _ => rfl
theorem bnd4 : BndT "_law_told" sTd ["page"] := fun _ _ _ _ _ _ us hl => match us, hl with | [_], _ => rfl
theorem bnd5 : BndT "_law_page" sPg ["draw"] := fun _ _ _ _ _ _ us hl => match us, hl with | [_], _ => rfl
theorem bnd6 : BndT "_law_spots" sSP ["picture"] := fun _ _ _ _ _ _ us hl => match us, hl with | [_], _ => rfl
theorem bnd7 : BndT "_law_inside" sIN ["box", "spot"] := fun _ _ _ _ _ _ us hl => match us, hl with | [_, _], _ => rfl
theorem bnd8 : BndT "_law_meet" sME ["one", "other"] := fun _ _ _ _ _ _ us hl => match us, hl with | [_, _], _ => rfl
theorem bnd9 : BndT "_law_whole" sWH ["picture", "box"] := fun _ _ _ _ _ _ us hl => match us, hl with | [_, _], _ => rfl
theorem bnd10 : BndT "_law_moved" sMV ["draw", "picture"] := fun _ _ _ _ _ _ us hl => match us, hl with | [_, _], _ => rfl
theorem bnd11 : BndT "is_text" sIsText ["thing"] := fun _ _ _ _ _ _ us hl => match us, hl with | [_], _ => rfl
theorem bnd12 : BndT "_is_row" sIsRow ["thing"] := fun _ _ _ _ _ _ us hl => match us, hl with | [_], _ => rfl
theorem bnd13 : BndT "is_picture" sIsPic ["thing"] := fun _ _ _ _ _ _ us hl => match us, hl with | [_], _ => rfl
theorem bnd14 : BndT "want_picture" sWant ["thing"] := fun _ _ _ _ _ _ us hl => match us, hl with | [_], _ => rfl
theorem bnd15 : BndT "size" sSize ["picture"] := fun _ _ _ _ _ _ us hl => match us, hl with | [_], _ => rfl
theorem bnd16 : BndT "is_number" sIsNum ["thing"] := fun _ _ _ _ _ _ us hl => match us, hl with | [_], _ => rfl
theorem bnd17 : BndT "is_between" sBetw ["thing", "least", "most"] := fun _ _ _ _ _ _ us hl => match us, hl with | [_, _, _], _ => rfl
theorem bnd18 : BndT "_is_stretch" sStr ["start", "many", "whole"] := fun _ _ _ _ _ _ us hl => match us, hl with | [_, _, _], _ => rfl
theorem bnd19 : BndT "cut_out" sCut ["picture", "top", "left", "high", "wide"] := fun _ _ _ _ _ _ us hl => match us, hl with | [_, _, _, _, _], _ => rfl
theorem bnd20 : BndT "columns_of" sCO ["rows"] := fun _ _ _ _ _ _ us hl => match us, hl with | [_], _ => rfl
theorem bnd21 : BndT "_flipped" sFP ["box"] := fun _ _ _ _ _ _ us hl => match us, hl with | [_], _ => rfl
theorem bnd22 : BndT "_parted" sPT ["page", "box", "least"] := fun _ _ _ _ _ _ us hl => match us, hl with | [_, _, _], _ => rfl
theorem bnd23 : BndT "_stretches" sST ["numbers", "least"] := fun _ _ _ _ _ _ us hl => match us, hl with | [_, _], _ => rfl
theorem bnd24 : BndT "_dotted_columns" sDC ["rows"] := fun _ _ _ _ _ _ us hl => match us, hl with | [_], _ => rfl
structure AllD (K : PySem.W.Frag) (mg : Str → Option Value) : Prop where
  d0 : Df K mg "_law_begun" sBg ["cell", "k"]
  d1 : Df K mg "_law_next" sNx ["draw", "below"]
  d2 : Df K mg "_law_pick" sPk ["draw", "some"]
  d3 : Df K mg "_law_blank" sBk ["deep", "wide"]
  d4 : Df K mg "_law_told" sTd ["page"]
  d5 : Df K mg "_law_page" sPg ["draw"]
  d6 : Df K mg "_law_spots" sSP ["picture"]
  d7 : Df K mg "_law_inside" sIN ["box", "spot"]
  d8 : Df K mg "_law_meet" sME ["one", "other"]
  d9 : Df K mg "_law_whole" sWH ["picture", "box"]
  d10 : Df K mg "_law_moved" sMV ["draw", "picture"]
  d11 : Df K mg "is_text" sIsText ["thing"]
  d12 : Df K mg "_is_row" sIsRow ["thing"]
  d13 : Df K mg "is_picture" sIsPic ["thing"]
  d14 : Df K mg "want_picture" sWant ["thing"]
  d15 : Df K mg "size" sSize ["picture"]
  d16 : Df K mg "is_number" sIsNum ["thing"]
  d17 : Df K mg "is_between" sBetw ["thing", "least", "most"]
  d18 : Df K mg "_is_stretch" sStr ["start", "many", "whole"]
  d19 : Df K mg "cut_out" sCut ["picture", "top", "left", "high", "wide"]
  d20 : Df K mg "columns_of" sCO ["rows"]
  d21 : Df K mg "_flipped" sFP ["box"]
  d22 : Df K mg "_parted" sPT ["page", "box", "least"]
  d23 : Df K mg "_stretches" sST ["numbers", "least"]
  d24 : Df K mg "_dotted_columns" sDC ["rows"]
  fi : ∃ f fd, FnFI K f fd ∧ mg "fields" = some (.ref f)
structure AllN (K : PySem.W.Frag) (mg : Str → Option Value) (C CP : Addr) : Prop where
  z0 : mg "len" = none
  z1 : mg "range" = none
  z2 : mg "tuple" = none
  z3 : mg "list" = none
  z4 : mg "int" = none
  z5 : mg "type" = none
  z6 : mg "str" = none
  z7 : mg "all" = none
  z8 : mg "any" = none
  z9 : mg "enumerate" = none
  z10 : mg "zip" = none
  z11 : mg "max" = none
  z12 : mg "min" = none
  i0 : ∃ t, mg "MOST_ROWS" = some (.int 60 t)
  i1 : ∃ t, mg "MOST_COLUMNS" = some (.int 120 t)
  i2 : ∃ t, mg "MOST_BAND" = some (.int 60 t)
  n : Tn K mg C
  np : ExN K mg "NoPlace" CP
section
variable {P : Program} {w : World} {K : PySem.W.Frag} {mg : Str → Option Value} {base : Heap} {C CP : Addr}
theorem facts (D : AllD K mg) (N : AllN K mg C CP) {f : Addr} {fd : FuncData} (F : Fun K "law" "law" sLaw f fd) : FnOk P w K mg base CX0 12 f fd ["script"] (spLaw K) := by
  have X : Tx mg := ⟨N.z0, N.z1, N.z2, N.z3, N.z4⟩
  have T : Tp mg := ⟨N.z5, N.z6, N.z7, N.i0, N.i1⟩
  have nxt : ∀ k, Pm P w K mg base CX0 (k + 1) "_law_next" ["draw", "below"] spNx := fun k => .of D.d1 fun f fd F => ok_nx F
  have pck : ∀ k, Pm P w K mg base CX0 (k + 2) "_law_pick" ["draw", "some"] (spPk K) := fun k => .of D.d2 fun f fd F => by
    obtain ⟨_, _, G, m, kp, b⟩ := (nxt k).ex
    exact ok_pk F X _ _ G m kp b
  have blk : ∀ k, Pm P w K mg base CX0 (k + 1) "_law_blank" ["deep", "wide"] spBk := fun k => .of D.d3 fun f fd F => ok_bk F X
  have tld : ∀ k, Pm P w K mg base CX0 (k + 1) "_law_told" ["page"] spTd := fun k => .of D.d4 fun f fd F => ok_td F X
  have pag : ∀ k, Pm P w K mg base CX0 (k + 3) "_law_page" ["draw"] spPg := fun k => .of D.d5 fun f fd F => ok_pg (k := k) F X N.z12 (nxt (k + 1)) (pck k) (blk (k + 1)) (tld (k + 1))
  have isT : ∀ k, Pm P w K mg base CX0 (k + 1) "is_text" ["thing"] (spIsText K) := fun k => .of D.d11 fun f fd F => ok_isText F T
  have isR : ∀ k, Pm P w K mg base CX0 (k + 2) "_is_row" ["thing"] (spIsRow K) := fun k => .of D.d12 fun f fd F => by
    obtain ⟨_, _, G, m, kp, b⟩ := (isT k).ex
    exact ok_isRow F T X G m kp b
  have isP : ∀ k, Pm P w K mg base CX0 (k + 3) "is_picture" ["thing"] (spIsPic K) := fun k => .of D.d13 fun f fd F => by
    obtain ⟨_, _, G, m, kp, b⟩ := (isR k).ex
    exact ok_isPic (k := k + 1) F T X G m kp b
  have wnt : ∀ k, GW P w K mg base C (k + 4) := fun k => by
    obtain ⟨fW, fdW, FW, mW, bW⟩ := (D.d14).ex
    obtain ⟨_, _, G, m, kp, b⟩ := (isP k).ex
    exact ⟨fW, fdW, ok_want (k := k + 2) FW N.n G m kp b, mW, FW.kp, bW⟩
  have siz : ∀ k, GS P w K mg base C (k + 5) := fun k => by
    obtain ⟨f, fd, F, m, b⟩ := (D.d15).ex
    exact ⟨f, fd, ok_size (k := k + 3) F X (wnt k), m, F.kp, b⟩
  have isN : ∀ k, Pm P w K mg base CX0 (k + 1) "is_number" ["thing"] (spIsNum K) := fun k => .of D.d16 fun f fd F => ok_isNum F T X
  have btw : ∀ k, Pm P w K mg base CX0 (k + 2) "is_between" ["thing", "least", "most"] (spBetw K) := fun k => .of D.d17 fun f fd F => by
    obtain ⟨_, _, G, m, kp, b⟩ := (isN k).ex
    exact ok_betw F G m kp b
  have str : ∀ k, Pm P w K mg base CX0 (k + 3) "_is_stretch" ["start", "many", "whole"] (spStr K) := fun k => .of D.d18 fun f fd F => ok_str (k := k) F (isN k) (btw k)
  have cut : ∀ k, Pm P w K mg base (L2.CX P w) (k + 6) "cut_out" ["picture", "top", "left", "high", "wide"] (spCut K CP) := fun k => .of D.d19 fun f fd F => ok_cut (k := k + 2) F X N.np (siz k) (str (k + 2))
  have cof : ∀ k, Pm P w K mg base CX0 (k + 1) "columns_of" ["rows"] spCO := fun k => .of D.d20 fun f fd F => ok_CO F X N.z10
  have stz : ∀ k, Pm P w K mg base CX0 (k + 1) "_stretches" ["numbers", "least"] (spST K) := fun k => .of D.d23 fun f fd F => ok_st F X N.z10
  have dcs : ∀ k, Pm P w K mg base CX0 (k + 1) "_dotted_columns" ["rows"] (spDC K) := fun k => .of D.d24 fun f fd F => ok_dc F N.z12 N.z11
  have ptd : ∀ k, Pm P w K mg base CX0 (k + 2) "_parted" ["page", "box", "least"] (spPT K) := fun k => .of D.d22 fun f fd F => ok_pt (k := k) F X N.z9 (stz k) (dcs k)
  have flp : ∀ k, Pm P w K mg base CX0 (k + 1) "_flipped" ["box"] spFP := fun k => .of D.d21 fun f fd F => ok_fp F
  obtain ⟨fO, fdO, FO, mO⟩ := D.fi
  have GO : FnOk P w K mg base CX0 11 fO fdO ["picture", "rows", "columns"] (spFI K) := ok_fi (k := 9) FO X N.i2 (wnt 6) (btw 8) (cof 9) (ptd 8) (flp 9)
  exact ok_law (k := 10) F X N.z9 N.z8 (.of D.d0 fun f fd F => ok_bg (k := 10) F N.z11) (nxt 10) (pag 8) (.of D.d6 fun f fd F => ok_sp (k := 10) F N.z9) (.of D.d7 fun f fd F => ok_in (k := 10) F) (.of D.d8 fun f fd F => ok_me (k := 10) F)
    (.of D.d9 fun f fd F => ok_wh (k := 10) F N.z7) (.of D.d10 fun f fd F => ok_mv (k := 9) F X (nxt 9)) (cut 5) FO GO mO
end
theorem fi_mk {K : PySem.W.Frag} {h : Heap} {mg : Str → Option Value} {f Dk : Addr} {t t2 : Tok} {oc : Value} {od an : Option Addr} {osl : Array (Option Value)} {doc pm cdv ct : Value} (X : K.In h) (G : h.Ns mainGlobals mg)
    (a : PySem.W.nsIn K mainGlobals "fields" = some (some (.ref f))) (l : K.lookup f = some ⟨oc, od, .func (PySem.W.fnOf "fields" "fields" (defArgs sFI) (defBody sFI) (defScope sFI) .none (.ref Dk) doc pm an cdv ct), osl⟩) (c : PySem.W.codeIn K cdv "fields" = true) (k : PySem.W.keepIn K (.ref f) = true)
    (n : PySem.W.nsIn K Dk "rows" = some (some (.int 2 t))) (n2 : PySem.W.nsIn K Dk "columns" = some (some (.int 4 t2))) : ∃ f fd, FnFI K f fd ∧ mg "fields" = some (.ref f) :=
  ⟨f, _, ⟨⟨oc, od, .none, .ref Dk, doc, pm, an, cdv, ct, osl, rfl, l, c, .inl ⟨rfl, rfl⟩, .inr ⟨Dk, rfl, fun q hq => by
    rcases List.mem_cons.mp hq with e | hq
    · rw [e]
      exact ⟨_, n, t, rfl⟩
    · rw [List.mem_singleton.mp hq]
      exact ⟨_, n2, t2, rfl⟩⟩⟩, k⟩, PySem.W.mg_of X G a⟩
theorem end_mk38 {l : PySem.W.OpenLaw} {w : World} {K : PySem.W.Frag} {h : Heap} {mg : Str → Option Value} {fa f4 C CP : Addr} {oc : Value} {od an : Option Addr} {osl : Array (Option Value)} {kV doc pm cdv ct : Value} (X : K.In h) (G : h.Ns mainGlobals mg) (hfa : mg "law" = some (.ref fa))
    (a4 : PySem.W.nsIn K mainGlobals "law" = some (some (.ref f4))) (l4 : K.lookup f4 = some ⟨oc, od, .func (PySem.W.fnOf "law" "law" (defArgs sLaw) (defBody sLaw) (defScope sLaw) .none kV doc pm an cdv ct), osl⟩) (c4 : PySem.W.codeIn K cdv "law" = true) (k4 : PySem.W.keepIn K (.ref f4) = true)
    (D : AllD K mg) (N : AllN K mg C CP) :
    ∃ fd : FuncData, (∀ (s : Shared) (v : Value), BindsTo s fd ⟨[v], []⟩ [("script", v)]) ∧ ∀ base : Heap, K.In base → base.Ns mainGlobals mg → FnOk l.prog w K mg base CX0 12 fa fd ["script"] (spLaw K) := by
  have e := hfa.symm.trans (PySem.W.mg_of X G a4)
  cases e
  exact ⟨PySem.W.fnOf "law" "law" (defArgs sLaw) (defBody sLaw) (defScope sLaw) .none kV doc pm an cdv ct, fun s v => .of_eq rfl, fun base _ _ => facts D N (fun_mk l4 c4 k4)⟩
theorem walk {l : PySem.W.OpenLaw} {q : Program} {loose : List Str} {XP : (Str → Option Value) → Heap → Prop} {YP : World → Heap → Prop} {d : DefRec} {K : Params → PySem.W.Frag} (hn : l.most = some 63) (hdf : d.params.defaults = [])
    (hY : ∀ (w : World) (h : Heap), YP w h → (K w.params).In h)
    (F : ∀ (w : World) (mg : Str → Option Value) (fa : Addr) (h : Heap), (K w.params).In h → h.Ns mainGlobals mg → mg d.name = some (.ref fa) →
      ∃ fd : FuncData, (∀ (s : Shared) (u : Value), BindsTo s fd ⟨[u], []⟩ [("script", u)]) ∧ ∀ base : Heap, (K w.params).In base → base.Ns mainGlobals mg → FnOk l.prog w (K w.params) mg base CX0 12 fa fd ["script"] (spLaw (K w.params))) :
    PySem.W.WalkO q loose XP YP l.row.toRowW d [] (fun f vs => PySem.call f vs) :=
  L2.walk_of (n := 63) (k := 12) (x := "script") (CX := fun _ => CX0) (sp := fun w => spLaw (K w.params)) hn (by decide) hdf ⟨rfl, by decide, by decide⟩ hY F (fun _ _ a ns hl _ hS => ⟨a, ns, rfl, hS, hl, fun _ => rfl⟩) fun _ _ _ _ _ z => z
end Dt
open PySem PySem.W PyProof.Rows
set_option maxRecDepth 100000 in
set_option maxHeartbeats 0 in
theorem PySem.Challenge.cw_dotread_k38_whole_fields_alone_holds : PySem.Challenge.rw_dotread_k38_whole_fields_alone.Holds := by
  w_on; o_law; k_head; (case hw => w_witness2)
  k_fill
  refine Dt.walk (l := PySem.Challenge.rw_dotread_k38_whole_fields_alone) rfl rfl (fun w h Y => PySem.W.kIn_of Y) ?F
  case F =>
    intro w mg fa h KX G hmg
    refine' Dt.end_mk38 KX G hmg ?aL ?lL ?cL ?kL ⟨Dt.df_mk KX G ?a0 ?l0 ?c0 ?k0 Dt.bnd0, Dt.df_mk KX G ?a1 ?l1 ?c1 ?k1 Dt.bnd1, Dt.df_mk KX G ?a2 ?l2 ?c2 ?k2 Dt.bnd2, Dt.df_mk KX G ?a3 ?l3 ?c3 ?k3 Dt.bnd3, Dt.df_mk KX G ?a4 ?l4 ?c4 ?k4 Dt.bnd4, Dt.df_mk KX G ?a5 ?l5 ?c5 ?k5 Dt.bnd5, Dt.df_mk KX G ?a6 ?l6 ?c6 ?k6 Dt.bnd6, Dt.df_mk KX G ?a7 ?l7 ?c7 ?k7 Dt.bnd7, Dt.df_mk KX G ?a8 ?l8 ?c8 ?k8 Dt.bnd8, Dt.df_mk KX G ?a9 ?l9 ?c9 ?k9 Dt.bnd9, Dt.df_mk KX G ?a10 ?l10 ?c10 ?k10 Dt.bnd10, Dt.df_mk KX G ?a11 ?l11 ?c11 ?k11 Dt.bnd11, Dt.df_mk KX G ?a12 ?l12 ?c12 ?k12 Dt.bnd12, Dt.df_mk KX G ?a13 ?l13 ?c13 ?k13 Dt.bnd13, Dt.df_mk KX G ?a14 ?l14 ?c14 ?k14 Dt.bnd14, Dt.df_mk KX G ?a15 ?l15 ?c15 ?k15 Dt.bnd15, Dt.df_mk KX G ?a16 ?l16 ?c16 ?k16 Dt.bnd16, Dt.df_mk KX G ?a17 ?l17 ?c17 ?k17 Dt.bnd17, Dt.df_mk KX G ?a18 ?l18 ?c18 ?k18 Dt.bnd18, Dt.df_mk KX G ?a19 ?l19 ?c19 ?k19 Dt.bnd19, Dt.df_mk KX G ?a20 ?l20 ?c20 ?k20 Dt.bnd20, Dt.df_mk KX G ?a21 ?l21 ?c21 ?k21 Dt.bnd21, Dt.df_mk KX G ?a22 ?l22 ?c22 ?k22 Dt.bnd22, Dt.df_mk KX G ?a23 ?l23 ?c23 ?k23 Dt.bnd23, Dt.df_mk KX G ?a24 ?l24 ?c24 ?k24 Dt.bnd24, Dt.fi_mk KX G ?oa ?ol ?oc ?ok ?on ?op⟩ ⟨mg_none_of KX G ?z0, mg_none_of KX G ?z1, mg_none_of KX G ?z2, mg_none_of KX G ?z3, mg_none_of KX G ?z4, mg_none_of KX G ?z5, mg_none_of KX G ?z6, mg_none_of KX G ?z7, mg_none_of KX G ?z8, mg_none_of KX G ?z9, mg_none_of KX G ?z10, mg_none_of KX G ?z11, mg_none_of KX G ?z12, Dt.gli_mk KX G ?i0, Dt.gli_mk KX G ?i1, Dt.gli_mk KX G ?i2, ⟨mg_of KX G ?nC2, ?nx, ?nk, ?nb, ?nt⟩, Dt.exN_mk KX G ?nP2 ?px ?pk ?pb ?pt⟩
    (case nC2 => k_is)
    (case nP2 => k_is)
    (case aL => k_is)
    (case lL => k_is)
    (case cL => k_is)
    (case kL => k_is)
    (case a0 => k_is)
    (case l0 => k_is)
    (case c0 => k_is)
    (case k0 => k_is)
    (case a1 => k_is)
    (case l1 => k_is)
    (case c1 => k_is)
    (case k1 => k_is)
    (case a2 => k_is)
    (case l2 => k_is)
    (case c2 => k_is)
    (case k2 => k_is)
    (case a3 => k_is)
    (case l3 => k_is)
    (case c3 => k_is)
    (case k3 => k_is)
    (case a4 => k_is)
    (case l4 => k_is)
    (case c4 => k_is)
    (case k4 => k_is)
    (case a5 => k_is)
    (case l5 => k_is)
    (case c5 => k_is)
    (case k5 => k_is)
    (case a6 => k_is)
    (case l6 => k_is)
    (case c6 => k_is)
    (case k6 => k_is)
    (case a7 => k_is)
    (case l7 => k_is)
    (case c7 => k_is)
    (case k7 => k_is)
    (case a8 => k_is)
    (case l8 => k_is)
    (case c8 => k_is)
    (case k8 => k_is)
    (case a9 => k_is)
    (case l9 => k_is)
    (case c9 => k_is)
    (case k9 => k_is)
    (case a10 => k_is)
    (case l10 => k_is)
    (case c10 => k_is)
    (case k10 => k_is)
    (case a11 => k_is)
    (case l11 => k_is)
    (case c11 => k_is)
    (case k11 => k_is)
    (case a12 => k_is)
    (case l12 => k_is)
    (case c12 => k_is)
    (case k12 => k_is)
    (case a13 => k_is)
    (case l13 => k_is)
    (case c13 => k_is)
    (case k13 => k_is)
    (case a14 => k_is)
    (case l14 => k_is)
    (case c14 => k_is)
    (case k14 => k_is)
    (case a15 => k_is)
    (case l15 => k_is)
    (case c15 => k_is)
    (case k15 => k_is)
    (case a16 => k_is)
    (case l16 => k_is)
    (case c16 => k_is)
    (case k16 => k_is)
    (case a17 => k_is)
    (case l17 => k_is)
    (case c17 => k_is)
    (case k17 => k_is)
    (case a18 => k_is)
    (case l18 => k_is)
    (case c18 => k_is)
    (case k18 => k_is)
    (case a19 => k_is)
    (case l19 => k_is)
    (case c19 => k_is)
    (case k19 => k_is)
    (case a20 => k_is)
    (case l20 => k_is)
    (case c20 => k_is)
    (case k20 => k_is)
    (case a21 => k_is)
    (case l21 => k_is)
    (case c21 => k_is)
    (case k21 => k_is)
    (case a22 => k_is)
    (case l22 => k_is)
    (case c22 => k_is)
    (case k22 => k_is)
    (case a23 => k_is)
    (case l23 => k_is)
    (case c23 => k_is)
    (case k23 => k_is)
    (case a24 => k_is)
    (case l24 => k_is)
    (case c24 => k_is)
    (case k24 => k_is)
    (case oa => k_is)
    (case ol => k_is)
    (case oc => k_is)
    (case ok => k_is)
    (case on => k_is)
    (case op => k_is)
    (case z0 => k_is)
    (case z1 => k_is)
    (case z2 => k_is)
    (case z3 => k_is)
    (case z4 => k_is)
    (case z5 => k_is)
    (case z6 => k_is)
    (case z7 => k_is)
    (case z8 => k_is)
    (case z9 => k_is)
    (case z10 => k_is)
    (case z11 => k_is)
    (case z12 => k_is)
    (case i0 => k_is)
    (case i1 => k_is)
    (case i2 => k_is)
    (case nk => k_is)
    (case nb => k_is)
    (case nt => k_is)
    (case pk => k_is)
    (case pb => k_is)
    (case pt => k_is)
    (case nx => first | kernel_rfl | decide +kernel | rfl)
    (case px => first | kernel_rfl | decide +kernel | rfl)
#print axioms PySem.Challenge.cw_dotread_k38_whole_fields_alone_holds
