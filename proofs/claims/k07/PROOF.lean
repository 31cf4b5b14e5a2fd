
import PyProof.Rows.All
import Wide.All
import OpenK.AllK
import Wide.FinOn
import HandS.ForMost
import HandS.Codes
import HandS.StrMore
import HandS.Defaults
import HandS.IntHex
import HandS.IsInst
import HandS.TupAny
import HandS.TupMul
import PyProof.FString3
import PyProof.Rows.StrIntSpec
import PyProof.StrOps2
import KE.IntText
import KE.KIntText
import KE.IntTextLaws
import HandS.Exc
import HandS.ExcOwn
import HandS.TryOnly
import HandS.TryMany
import HandS.ExcIs
import HandS.WordsExc
import HandS.ForExc

import HandS.Gcd
import HandS.Zip
import HandS.Walk
import HandS.CallLocal
import HandS.More
import HandS.Text
import HandS.Codes
import HandS.FStr
import HandS.ExcInit
import HandS.ExcField
import KE.KExcIs
import PySem.Challenge.RW_breakback_k07_where_a_text_is_wrong
set_option Elab.async false
set_option linter.all false
set_option maxRecDepth 100000
set_option maxHeartbeats 4000000
namespace My
open PySem PySem.Spec PyProof.Rows L2
theorem snocInd {α : Type} {P : List α → Prop} (h0 : P []) (h1 : ∀ l a, P l → P (l ++ [a])) (l : List α) : P l := by
  have h : ∀ (n : Nat) (l : List α), l.length = n → P l := by
    intro n
    induction n with
    | zero =>
      intro l e
      rw [List.eq_nil_of_length_eq_zero e]
      exact h0
    | succ n ih =>
      intro l e
      have hn : l ≠ [] := fun z => by
        rw [z] at e
        cases e
      rw [← List.dropLast_concat_getLast hn]
      exact h1 _ _ (ih _ (by rw [List.length_dropLast, e]; rfl))
  exact h _ l rfl
/-! ### strings of bits -/
def cB (b : Bool) : Nat := if b then 49 else 48
def sb (bs : List Bool) : Str := SX.S (bs.map cB)
def toB : Nat → Nat → List Bool
  | 0, _ => []
  | n + 1, k => toB n (k / 2) ++ [k % 2 == 1]
def bit (b : Bool) : Nat := if b then 1 else 0
def val (bs : List Bool) : Nat := bs.foldl (fun a b => 2 * a + bit b) 0
theorem toB_len : ∀ n k, (toB n k).length = n
  | 0, _ => rfl
  | n + 1, k => by
    show (toB n (k / 2) ++ [k % 2 == 1]).length = n + 1
    rw [List.length_append, toB_len n]
    rfl
theorem sb_len (bs : List Bool) : (sb bs).length = bs.length := by
  unfold sb
  rw [SX.S_len, List.length_map]
theorem cB_inj {a b : Bool} (h : cB a = cB b) : a = b := by
  cases a <;> cases b <;> first | rfl | (exact absurd h (by decide))
theorem map_cB_inj : ∀ {l m : List Bool}, l.map cB = m.map cB → l = m
  | [], [], _ => rfl
  | [], _ :: _, h => by simp at h
  | _ :: _, [], h => by simp at h
  | a :: l, b :: m, h => by
    rw [List.map_cons, List.map_cons] at h
    injection h with h1 h2
    rw [cB_inj h1, map_cB_inj h2]
theorem sb_inj {l m : List Bool} (h : sb l = sb m) : l = m := map_cB_inj (SX.S_inj h)
theorem sb_cat (l m : List Bool) : sb l ++ sb m = sb (l ++ m) := by
  unfold sb
  rw [SX.S_cat, List.map_append]
theorem val_snoc (l : List Bool) (b : Bool) : val (l ++ [b]) = 2 * val l + bit b := by
  unfold val
  rw [List.foldl_append]
  rfl
theorem bit_lt (b : Bool) : bit b < 2 := by cases b <;> decide
theorem toB_val (bs : List Bool) : toB bs.length (val bs) = bs := by
  induction bs using snocInd with
  | h0 => rfl
  | h1 l b ih =>
    rw [List.length_append, val_snoc]
    show toB (l.length + 1) _ = _
    show toB l.length ((2 * val l + bit b) / 2) ++ [(2 * val l + bit b) % 2 == 1] = l ++ [b]
    have h := bit_lt b
    rw [show (2 * val l + bit b) / 2 = val l by omega, ih, show (2 * val l + bit b) % 2 = bit b by omega]
    cases b <;> rfl
theorem val_lt (bs : List Bool) : val bs < 2 ^ bs.length := by
  induction bs using snocInd with
  | h0 => exact Nat.one_pos
  | h1 l b ih =>
    rw [List.length_append, val_snoc]
    show _ < 2 ^ (l.length + 1)
    have h := bit_lt b
    rw [Nat.pow_succ]
    omega
theorem val_toB : ∀ (n k : Nat), k < 2 ^ n → val (toB n k) = k
  | 0, k, h => by
    have e : k = 0 := by
      have : k < 1 := h
      omega
    subst e
    rfl
  | n + 1, k, h => by
    show val (toB n (k / 2) ++ [k % 2 == 1]) = k
    rw [Nat.pow_succ] at h
    rw [val_snoc, val_toB n (k / 2) (by omega)]
    have e : bit (k % 2 == 1) = k % 2 := by
      rcases Nat.mod_two_eq_zero_or_one k with z | z <;> rw [z] <;> rfl
    rw [e]
    omega
theorem toB_zero (n : Nat) : toB n 0 = List.replicate n false := by
  induction n with
  | zero => rfl
  | succ n ih =>
    show toB n 0 ++ [false] = _
    rw [ih, List.replicate_succ']
/-! ### two strings place by place -/
theorem toB_xor : ∀ (n a b : Nat), toB n (a ^^^ b) = List.zipWith (fun x y => x != y) (toB n a) (toB n b)
  | 0, _, _ => rfl
  | n + 1, a, b => by
    show toB n ((a ^^^ b) / 2) ++ [(a ^^^ b) % 2 == 1] = List.zipWith (fun x y => x != y) (toB n (a / 2) ++ [a % 2 == 1]) (toB n (b / 2) ++ [b % 2 == 1])
    rw [List.zipWith_append (by rw [toB_len, toB_len]), Nat.xor_div_two, toB_xor n]
    congr 1
    have e : (a ^^^ b) % 2 = (a % 2) ^^^ (b % 2) := by
      have h := Nat.xor_mod_two_pow (a := a) (b := b) (n := 1)
      rw [Nat.pow_one] at h
      exact h
    rw [e]
    rcases Nat.mod_two_eq_zero_or_one a with z | z <;> rcases Nat.mod_two_eq_zero_or_one b with y | y <;> rw [z, y] <;> rfl
theorem toB_and : ∀ (n a b : Nat), toB n (a &&& b) = List.zipWith (fun x y => x && y) (toB n a) (toB n b)
  | 0, _, _ => rfl
  | n + 1, a, b => by
    show toB n ((a &&& b) / 2) ++ [(a &&& b) % 2 == 1] = List.zipWith (fun x y => x && y) (toB n (a / 2) ++ [a % 2 == 1]) (toB n (b / 2) ++ [b % 2 == 1])
    rw [List.zipWith_append (by rw [toB_len, toB_len]), Nat.and_div_two, toB_and n]
    congr 1
    have e : (a &&& b) % 2 = (a % 2) * (b % 2) := by
      have h := Nat.and_mod_two_pow (a := a) (b := b) (n := 1)
      rw [Nat.pow_one] at h
      rw [h]
      rcases Nat.mod_two_eq_zero_or_one a with z | z <;> rcases Nat.mod_two_eq_zero_or_one b with y | y <;> rw [z, y] <;> rfl
    rw [e]
    rcases Nat.mod_two_eq_zero_or_one a with z | z <;> rcases Nat.mod_two_eq_zero_or_one b with y | y <;> rw [z, y] <;> rfl
/-! ### the digits that Python writes -/
def dig (k : Nat) : List Nat := (Nat.toDigits 2 k).map Char.toNat
theorem dig_lt {k : Nat} (h : k < 2) : dig k = [cB (k == 1)] := by
  unfold dig
  rw [Nat.toDigits_of_lt_base h]
  have : k = 0 ∨ k = 1 := by omega
  rcases this with e | e <;> subst e <;> rfl
theorem dig_ge {k : Nat} (h : 2 ≤ k) : dig k = dig (k / 2) ++ [cB (k % 2 == 1)] := by
  unfold dig
  rw [Nat.toDigits_of_base_le (by decide) h, List.map_append]
  congr 1
  rcases Nat.mod_two_eq_zero_or_one k with z | z <;> rw [z] <;> rfl
theorem dig_toB : ∀ (n k : Nat), k < 2 ^ (n + 1) → ∃ p, (toB (n + 1) k).map cB = List.replicate p 48 ++ dig k
  | 0, k, h => by
    have hk : k < 2 := h
    refine ⟨0, ?_⟩
    rw [dig_lt hk]
    show [cB (k % 2 == 1)] = [cB (k == 1)]
    rw [Nat.mod_eq_of_lt hk]
  | n + 1, k, h => by
    show ∃ p, (toB (n + 1) (k / 2) ++ [k % 2 == 1]).map cB = _
    rw [List.map_append]
    by_cases hk : k < 2
    · refine ⟨n + 1, ?_⟩
      rw [dig_lt hk, show k / 2 = 0 by omega, toB_zero, List.map_replicate, Nat.mod_eq_of_lt hk]
      rfl
    · have h' : k < 2 ^ (n + 1) * 2 := by
        rw [← Nat.pow_succ]
        exact h
      obtain ⟨p, e⟩ := dig_toB n (k / 2) (by omega)
      refine ⟨p, ?_⟩
      rw [e, dig_ge (k := k) (by omega), List.append_assoc]
      rfl
theorem dig_len_pos (k : Nat) : 0 < (dig k).length := by
  unfold dig
  rw [List.length_map]
  exact Nat.length_toDigits_pos
theorem dig_head (k : Nat) : ∃ c r, dig k = c :: r ∧ (c = 48 ∨ c = 49) := by
  induction k using Nat.strongRecOn with
  | _ k ih =>
    by_cases hk : k < 2
    · rw [dig_lt hk]
      exact ⟨_, _, rfl, by cases (k == 1) <;> decide⟩
    · obtain ⟨c, r, e, h⟩ := ih (k / 2) (by omega)
      rw [dig_ge (by omega), e]
      exact ⟨c, r ++ [_], rfl, h⟩
theorem zfill_dig (n k : Nat) (h : k < 2 ^ (n + 1)) : Txt.zfill (SX.S (dig k)) ((n + 1 : Nat) : Int) = sb (toB (n + 1) k) := by
  obtain ⟨p, e⟩ := dig_toB n k h
  have hl : n + 1 = p + (dig k).length := by
    have := congrArg List.length e
    rw [List.length_map, toB_len, List.length_append, List.length_replicate] at this
    exact this
  unfold sb
  rw [e]
  unfold Txt.zfill
  rw [SX.S_len]
  by_cases hp : p = 0
  · subst hp
    rw [if_pos (by omega)]
    rfl
  · rw [if_neg (by omega)]
    obtain ⟨c, r, ed, hc⟩ := dig_head k
    have hm : ((n + 1 : Nat) : Int).toNat - (dig k).length = p := by omega
    rw [hm]
    unfold zfilled
    rw [ed]
    rcases hc with rfl | rfl
    · show Builtin.Str.padded _ p 0 48 = _
      refine TL.ext_tl ?_
      simp [Builtin.Str.padded, TL.tl, SX.S]
    · show Builtin.Str.padded _ p 0 48 = _
      refine TL.ext_tl ?_
      simp [Builtin.Str.padded, TL.tl, SX.S]
section
open Builtin Builtin.Str Builtin.Int Builtin.Float
theorem ite_n {c : Prop} [Decidable c] {X Y : Prop} (hc : ¬ c) (h : Y) : if c then X else Y := by
  rw [if_neg hc]
  exact h
theorem ite_y {c : Prop} [Decidable c] {X Y : Prop} (hc : c) (h : X) : if c then X else Y := by
  rw [if_pos hc]
  exact h
/-- the text of the bits of n, as the format "b" makes it -/
theorem field_b (l : List Nat) (hl : l ≠ []) : intField' { fill := 32, align := 62, type := some 98 } false [] l [] 4 = ⟨l.toArray⟩ := by
  unfold intField'
  have h0 : l.isEmpty = false := by
    cases l with
    | nil => exact absurd rfl hl
    | cons a r => rfl
  simp [h0]
theorem wp_eq {α : Type} {M : Model} {A : Around} {t t' : Sem α} {Q : α → Shared → Prop} {E : Value → Shared → Prop} {s : Shared} (e : t = t') (h : wpAny M A t' Q E s) : wpAny M A t Q E s := by
  rw [e]
  exact h
set_option maxHeartbeats 1000000 in
theorem gives_fmtB {spec : PySem.Str} (n : Nat) (t u : Tok) (hz : (Nat.toDigits 2 n).length ≤ sizeLine)
    (hp : parseFormatSpec spec.cps.toList "int" 62 = .ok { fill := 32, align := 62, type := some 98 }) (hne : (spec.length == 0) = false)
    (hasc : ((spec.cps.toList.drop 1).any (· ≥ 128) || (spec.cps.getD 0 0 ≥ 128 && !([60, 62, 61, 94] : List Nat).contains (spec.cps.getD 1 0))) = false) :
    Gives («int.__format__» ⟨[.int (n : Int) t, .str spec u], []⟩) (.str ⟨((Nat.toDigits 2 n).map Char.toNat).toArray⟩) := by
  intro prog w A R s hq
  unfold Builtin.«int.__format__»
  simp only [selfAndOne, noKeywords, Int.intOfSelf, asInt?, asStr?, List.isEmpty_nil, if_true, pure_bind, bind_pure, bind_assoc, hne, hasc, Bool.false_eq_true, if_false,
    show (Value.str spec u == Value.none) = false from rfl]
  refine wpAny_bind (wpAny_typeNameOf (T := "str") (typeIs_str _ _ _) (by decide) fun _ => ?_)
  refine wpAny_bind (wpAny_typeNameOfCut_int ?_)
  simp only [hp, Option.getD_some]
  refine wpAny_ite (ite_y (by decide) ?_)
  refine wp_eq (t' := retStr (intField' { fill := 32, align := 62, type := some 98 } (decide ((n : Int) < 0)) [] ((Nat.toDigits 2 n).map fun c => (if (98 : Nat) == 88 then c.toUpper else c).toNat) [] 4)) (by kernel_rfl) ?_
  rw [show decide ((n : Int) < 0) = false from decide_eq_false (by omega), field_b _ (by
    have := Nat.length_toDigits_pos (b := 2) (n := n)
    intro z
    rw [List.map_eq_nil_iff] at z
    rw [z] at this
    exact absurd this (by decide))]
  refine wpAny_bind (wpAny_mkStr (wpAny_pure hq.2) ?_)
  show (List.toArray _).size ≤ _
  rw [List.size_toArray, List.length_map]
  exact hz
end
/-! ### a text times an int -/
theorem foldl_app (x : Array Nat) : ∀ (n : Nat) (acc : Array Nat), ((List.replicate n x).foldl (· ++ ·) acc).toList = acc.toList ++ (List.replicate n x.toList).flatten
  | 0, acc => by simp
  | n + 1, acc => by
    rw [List.replicate_succ, List.foldl_cons, foldl_app x n, List.replicate_succ, List.flatten_cons, Array.toList_append, List.append_assoc]
def rRepS : R2 := fun x y H Q => ∃ (l : List Nat) (k : Int), x = .str (SX.S l) ∧ y = .int k ∧ (0 ≤ k ∧ l.length * k.toNat ≤ 16777216 ∧ k ≤ 16777216) ∧ Q (.str (SX.S (List.replicate k.toNat l).flatten)) H
theorem op_repS {X : Cx} : OpR X (binaryOp .Mult) rRepS := by
  intro pins s σ H x y v u Q I rx ry h
  obtain ⟨l, k, rfl, rfl, ⟨h0, hz, hk⟩, q⟩ := h
  obtain ⟨t, rfl⟩ := rx
  obtain ⟨t', rfl⟩ := ry
  have hs : sizeLine = 16777216 := sizeLine_eq
  refine PySem.P.mul_str ?_ (fun h1 _ => ?_) (fun _ _ => ?_) ?_
  · rw [decide_eq_false (by omega), decide_eq_false (by omega)]
    rfl
  · rw [SX.S_len]
    have hp : 0 < k := by omega
    have : (l.length : Int) * k ≤ 16777216 := by
      have e : ((l.length * k.toNat : Nat) : Int) = (l.length : Int) * k := by
        rw [Int.natCast_mul, Int.toNat_of_nonneg h0]
      omega
    have := (Int.le_ediv_iff_mul_le hp (a := (l.length : Int)) (b := 2 ^ 63 - 1)).mpr (by omega)
    omega
  · rw [SX.S_len]
    unfold Builtin.Str.tooLong
    rw [sizeLine_eq]
    exact decide_eq_false (by omega)
  · by_cases h1 : k < 1
    · rw [if_pos h1]
      have e : k = 0 := by omega
      subst e
      exact ⟨by decide, .str (SX.S []), H, I.tok _, ⟨_, rfl⟩, q⟩
    · rw [if_neg h1]
      by_cases h2 : (k == 1 || (SX.S l).length == 0) = true
      · rw [if_pos h2]
        have e : (List.replicate k.toNat l).flatten = l := by
          rw [Bool.or_eq_true, beq_iff_eq, beq_iff_eq, SX.S_len] at h2
          rcases h2 with e | e
          · subst e
            simp
          · rw [List.eq_nil_of_length_eq_zero e]
            simp
        rw [e] at q
        exact ⟨.str (SX.S l), H, I, ⟨t, rfl⟩, q⟩
      · rw [if_neg h2]
        have e : (⟨(List.replicate k.toNat (SX.S l).cps).foldl (· ++ ·) #[]⟩ : Str) = SX.S (List.replicate k.toNat l).flatten := by
          refine TL.ext_tl ?_
          show (List.foldl (· ++ ·) (#[] : Array Nat) (List.replicate k.toNat l.toArray)).toList = _
          rw [foldl_app]
          rfl
        rw [e]
        refine ⟨?_, .str _, H, I.tok _, ⟨_, rfl⟩, q⟩
        rw [SX.S_len, List.length_flatten, List.map_replicate, List.sum_replicate_nat, hs]
        rw [Nat.mul_comm]
        exact hz
/-! ### f(k = v, ..): keywords alone -/
theorem pe_callN0 {X : Cx} {CX : CXT} {k : Nat} {f : Addr} {fd : FuncData} {ps ks : List Str} {sp : Sp} {E : XK} {x : Str} {p pos : Pos} {kws : List Keyword} {tk : TA} {g : List Value → List Value → List Value} {gV : List V → List V → List V}
    (F : FnOk X.prog X.w X.K X.mg X.base CX k f fd ps sp) (hr : Room k X.A) (hg : Gl X x) (hm : X.mg x = some (.ref f)) (hk : PySem.W.keepIn X.K (.ref f) = true) (hb : KBn X.K fd ps 0 ks g gV) (hx : Passes CX X E)
    (hkw : PK X kws tk) (hall : (backToKw pos (keywordEach kws X.env)).all (·.1.isSome) = true := by rfl) (hks : (backToKw pos (keywordEach kws X.env)).filterMap (·.1) = ks := by rfl)
    (hdb : (x == ("__debug__" : Str)) = false := by decide)
    (hpl : ((backTo pos (starEach [] X.env)).any (·.1) || (backToKw pos (keywordEach kws X.env)).any (·.1.isNone)) = false := by rfl) :
    PE X (.Call (.Name x p) [] kws pos) (tCallN 0 ks.length sp gV E tNil tk) := by
  refine ⟨fun pins s σ H Q I h => ?_⟩
  refine wpAny_Call_Name_kw (ld_glob I hg hm ?_ hdb)
  refine PySem.W.callWith_KW0 (h₀ := X.base) I.ok.mod.kin hk hall ?_ hpl
  refine thn (hkw.run pos pins s σ H _ I h) fun ws s2 ⟨zs, H2, I2, rz, l1, l2, q2⟩ => ⟨I2.kIn, ?_⟩
  rw [hks]
  exact run_fnN (us := []) (vs := []) F hr hb hx I2 .nil rz rfl l2 q2
/-! ### int(t, 2) -/
namespace Two
open PySem.NumText PySem.Calls
def Bin (c : Nat) : Prop := c = 48 ∨ c = 49
def num (l : List Nat) : Nat := l.foldl (fun a c => a * 2 + (c - 48)) 0
theorem Bin.plain {c : Nat} (h : Bin c) : c ≠ 95 ∧ c ≠ 0 ∧ c < 128 ∧ 33 ≤ c ∧ c ≠ 32 ∧ c ≠ 43 ∧ c ≠ 45 := by
  rcases h with e | e <;> subst e <;> decide
theorem one {ds : Array Nat} {b : Bool} {c : Nat} (h : Bin c) : PySem.NumText.step 2 (ds, b) c = some (ds.push (c - 48), true) := by
  rcases h with e | e <;> subst e <;> rfl
theorem more : ∀ (cs : List Nat) (ds : Array Nat), (∀ c ∈ cs, Bin c) → cs.foldlM (PySem.NumText.step 2) (ds, true) = some ((ds.toList ++ cs.map (· - 48)).toArray, true)
  | [], ds, _ => by simp
  | c :: cs, ds, h => by
    rw [List.foldlM_cons, one (h c (List.mem_cons_self ..))]
    refine (more cs (ds.push (c - 48)) fun d hd => h d (List.mem_cons_of_mem _ hd)).trans ?_
    simp
theorem all {cs : List Nat} (h : ∀ c ∈ cs, Bin c) (hne : cs ≠ []) : digits? 2 cs = some (cs.map (· - 48)).toArray := by
  cases cs with
  | nil => exact absurd rfl hne
  | cons c cs =>
    have e : List.foldlM (PySem.NumText.step 2) ((#[] : Array Nat), false) (c :: cs) = some (((c :: cs).map (· - 48)).toArray, true) := by
      rw [List.foldlM_cons, one (h c (List.mem_cons_self ..))]
      refine (more cs (#[].push (c - 48)) fun d hd => h d (List.mem_cons_of_mem _ hd)).trans ?_
      simp
    unfold digits?
    rw [e]
    rfl
theorem worth (l : List Nat) : (l.map (· - 48)).toArray.foldl (fun acc d => acc * 2 + d) 0 = num l := by
  rw [← Array.foldl_toList]
  unfold num
  rw [List.foldl_map]
theorem noBlank {cs : List Nat} (h : ∀ c ∈ cs, Bin c) : cs.dropWhile blank = cs := by
  cases cs with
  | nil => rfl
  | cons c cs =>
    have := (h c (List.mem_cons_self ..)).plain
    exact dropWhile_of (by omega)
theorem noSign {cs : List Nat} (h : ∀ c ∈ cs, Bin c) : sign cs = (false, cs) := by
  cases cs with
  | nil => rfl
  | cons c cs =>
    have := (h c (List.mem_cons_self ..)).plain
    exact sign_of (by omega) (by omega)
theorem noPre {cs : List Nat} (h : ∀ c ∈ cs, Bin c) : based 2 cs = (2, false, cs) := by
  match cs, h with
  | [], _ => rfl
  | [a], h =>
    rcases h a (List.mem_cons_self ..) with e | e <;> subst e <;> rfl
  | a :: c :: r, h =>
    rcases h a (List.mem_cons_self ..) with e | e <;> subst e <;>
      rcases h c (List.mem_cons_of_mem _ (List.mem_cons_self ..)) with e | e <;> subst e <;> rfl
theorem read {cs : List Nat} (h : ∀ c ∈ cs, Bin c) (hne : cs ≠ []) : (int_private% "readNumeral") 0 2 cs = (int_private% "Numeral.value") ((num cs : Nat) : Int) := by
  have hb : based 2 cs = (2, false, cs) := noPre h
  have hr : ∀ c ∈ cs.reverse, Bin c := fun c hc => h c (List.mem_reverse.mp hc)
  rw [readNumeral_eq 0 2 cs, noBlank h, noSign h]
  show judge 0 false (based 2 cs).1 (based 2 cs).2.1 (digits? (based 2 cs).1 (((based 2 cs).2.2.reverse.dropWhile blank).reverse)) = _
  rw [hb]
  show judge 0 false 2 false (digits? 2 ((cs.reverse.dropWhile blank).reverse)) = _
  rw [noBlank hr, List.reverse_reverse, all h hne]
  show (int_private% "Numeral.value") (((cs.map (· - 48)).toArray.foldl (fun acc d => acc * 2 + d) 0 : Nat) : Int) = _
  rw [worth]
theorem seen {x : Str} (h : ∀ c ∈ x.cps.toList, Bin c) : numTextOf x = x.cps.toList ∧ numSeenOf x = x.cps.toList := by
  have e1 : numTextOf x = x.cps.toList := if_pos (by
    rw [← Array.all_toList, List.all_eq_true]
    exact fun c hc => decide_eq_true (h c hc).plain.2.2.1)
  refine ⟨e1, ?_⟩
  show List.takeWhile _ (numTextOf x) = _
  rw [e1]
  exact takeWhile_all fun c hc => bne_iff_ne.mpr (h c hc).plain.2.1
set_option maxHeartbeats 4000000 in
theorem gives {x : PySem.Str} {u t : Tok} (hl : x.length ≤ 640) (h : ∀ c ∈ x.cps.toList, Bin c) (hne : x.cps.toList ≠ []) :
    Gives (Builtin.«int.__new__» ⟨[.type "int", .str x u, .int 2 t], []⟩) (.int ((num x.cps.toList : Nat) : Int)) :=
  .of_wp fun M A E s Q hQ => by
    obtain ⟨hp, g, d, tk, os⟩ := s
    have f1 := F.conv_sub_int
    have f2 := F.madeHere_int
    have f6 : typeOf (.str x u) = pure (.type "str") := rfl
    obtain ⟨e1, e2⟩ := seen h
    have hk : Hx.Hid ((numSeenOf x).length ≤ 640 ∧ (int_private% "readNumeral") 0 2 (numSeenOf x) = (int_private% "Numeral.value") ((num x.cps.toList : Nat) : Int) ∧ ((numSeenOf x).length == (numTextOf x).length) = true) := by
      refine ⟨?_, ?_, ?_⟩
      · rw [e2, Array.length_toList]
        exact hl
      · rw [e2]
        exact read h hne
      · rw [e1, e2]
        exact beq_self_eq_true _
    clear e1 e2 hl hne h
    repeat (any_goals (first
      | assumption
      | ((with_reducible show wpAny _ _ ((int_private% "intFromText") _ _ _) _ _ _); refine Hx.wp_textB hk.out.1 hk.out.2.1 hk.out.2.2 ?_)
      | wp_step))
    all_goals (try exact ⟨_, rfl, hQ⟩)
end Two
def rIntBin : List V → Hp → VK → Prop := fun xs H Q => ∃ l : List Nat, xs = [.str (SX.S l), .int 2] ∧ (l ≠ [] ∧ l.length ≤ 640 ∧ ∀ c ∈ l, Two.Bin c) ∧ Q (.int ((Two.num l : Nat) : Int)) H
theorem call_int_bin {X : Cx} : CallR X (.type "int") rIntBin := by
  intro pins s σ H xs us Q I r h
  obtain ⟨l, rfl, ⟨hne, hl, hx⟩, q⟩ := h
  obtain ⟨u, w', rfl, ⟨t1, rfl⟩, ⟨t2, rfl⟩⟩ := vals2 r
  exact callType_new F.called_int F.newNe_int (Hx.typeCall_int_2 _ _) (Hx.newCall_int_2 _ _) (fun obj => F.initArgs_range_2 obj _ _) F.entry_int_new
    (Two.gives (x := SX.S l) (u := t1) (t := t2) (by rw [SX.S_len]; exact hl) hx hne).meets (show (Made.int ((Two.num l : Nat) : Int)).post _ s from ⟨rfl, .int ((Two.num l : Nat) : Int), H, I.tok _, ⟨_, rfl⟩, q⟩)
/-! ### f"{n:b}" -/
def tFmtB (te : TE) : TE := fun σ H Q => te σ H fun x H1 => ∃ n : Nat, x = .int (n : Int) ∧ (dig n).length ≤ 16777216 ∧ Q (.str (SX.S (dig n))) H1
theorem spec_b : Builtin.Float.parseFormatSpec (Str.ofString "b").cps.toList "int" 62 = .ok { fill := 32, align := 62, type := some 98 } := by kernel_rfl
theorem pe_fmtB {X : Cx} {e : Expr} {te : TE} {j : Nat} {p1 p2 p3 p4 : Pos} (he : PE X e te) : PE X (.JoinedStr [.FormattedValue e (-1) (some (.JoinedStr [.Constant (.str "b") j p1] p2)) p3] p4) (tFmtB te) := by
  refine ⟨fun pins s σ H Q I h => ?_⟩
  refine wpAny_JoinedStr_one (wpAny_FormattedValue_spec (thn (he.run pins s σ H _ I h) fun v s1 hv => ?_))
  obtain ⟨x, H1, I1, r1, n, rfl, hz, q⟩ := hv
  obtain ⟨t, rfl⟩ := r1
  refine wpAny_JoinedStr_one (thn ((pe_str (X := X) (x := "b") (j := j) (pos := p1)).run pins s1 σ H1 (fun v H2 => v = .str "b" ∧ H2 = H1) I1 ⟨rfl, rfl⟩) fun v s2 hv => ?_)
  obtain ⟨x, H2, I2, r2, rfl, rfl⟩ := hv
  obtain ⟨t2, rfl⟩ := r2
  have hd : (Nat.toDigits 2 n).length ≤ sizeLine := by
    have h := hz
    unfold dig at h
    rw [List.length_map] at h
    rw [sizeLine_eq]
    exact h
  refine ⟨_, t2, rfl, wpAny_formatField_spec (by decide) (fun s' => typeIs_int s' _ t) F.slot_int_format F.entry_int_format F.args_int_format_2 (fun u => gives_fmtB n t u hd spec_b (by decide) (by decide)) ⟨.str (SX.S (dig n)), _, I2.tok _, ⟨_, rfl⟩, q⟩ (by decide) ?_⟩
  show (List.toArray _).size ≤ _
  rw [List.size_toArray, List.length_map]
  exact hd
/-! ### a def under its name, with its promise -/
structure Df (K : PySem.W.Frag) (mg : Str → Option Value) (x : Str) (st : Stmt) (ps : List Str) (f : Addr) (fd : FuncData) : Prop where
  fn : Fun K x x st f fd
  bi : Binds K fd ps []
  gl : mg x = some (.ref f)
structure Cl (P : Program) (w : World) (K : PySem.W.Frag) (mg : Str → Option Value) (base : Heap) (CX : CXT) (k : Nat) (x : Str) (sp : Sp) : Prop where
  ex : ∃ (f : Addr) (fd : FuncData) (ps : List Str), FnOk P w K mg base CX k f fd ps sp ∧ mg x = some (.ref f) ∧ PySem.W.keepIn K (.ref f) = true ∧ Binds K fd ps []
structure Ck (P : Program) (w : World) (K : PySem.W.Frag) (mg : Str → Option Value) (base : Heap) (CX : CXT) (k n : Nat) (x : Str) (ks : List Str) (gV : List V → List V → List V) (sp : Sp) : Prop where
  ex : ∃ (f : Addr) (fd : FuncData) (ps : List Str) (g : List Value → List Value → List Value), FnOk P w K mg base CX k f fd ps sp ∧ mg x = some (.ref f) ∧ PySem.W.keepIn K (.ref f) = true ∧ KBn K fd ps n ks g gV
section
variable {P : Program} {w : World} {K : PySem.W.Frag} {mg : Str → Option Value} {base : Heap} {CX : CXT} {k j : Nat} {x : Str} {sp : Sp}
theorem Df.cl {st : Stmt} {ps : List Str} {f : Addr} {fd : FuncData} (D : Df K mg x st ps f fd) (h : FnOk P w K mg base CX k f fd ps sp) : Cl P w K mg base CX k x sp := ⟨f, fd, ps, h, D.gl, D.fn.kp, D.bi⟩
theorem pe_cl {X : Cx} {p pos : Pos} {e : Expr} {es : List Expr} {t : TA} (c : Cl X.prog X.w X.K X.mg X.base CX0 k x sp) (hr : Room j X.A) (hk : k ≤ j) (hg : Gl X x) (ha : PA X (e :: es) t)
    (hdb : (x == ("__debug__" : Str)) = false := by decide) (he : starEach (e :: es) X.env = (false, eval e X.env) :: starEach es X.env := by rfl) (hpl : (backTo pos (starEach es X.env)).any (·.1) = false := by rfl) :
    PE X (.Call (.Name x p) (e :: es) [] pos) (tCall sp [] E0 t) := by
  obtain ⟨f, fd, ps, F, hm, kp, b⟩ := c.ex
  exact pe_call F (hr.mono hk) hg hm kp b .nil pass0 ha hdb he hpl
theorem pe_ck0 {X : Cx} {p pos : Pos} {kws : List Keyword} {tk : TA} {ks : List Str} {gV : List V → List V → List V} (c : Ck X.prog X.w X.K X.mg X.base CX0 k 0 x ks gV sp) (hr : Room j X.A) (hk : k ≤ j) (hg : Gl X x) (hkw : PK X kws tk)
    (hall : (backToKw pos (keywordEach kws X.env)).all (·.1.isSome) = true := by rfl) (hks : (backToKw pos (keywordEach kws X.env)).filterMap (·.1) = ks := by rfl)
    (hdb : (x == ("__debug__" : Str)) = false := by decide)
    (hpl : ((backTo pos (starEach [] X.env)).any (·.1) || (backToKw pos (keywordEach kws X.env)).any (·.1.isNone)) = false := by rfl) :
    PE X (.Call (.Name x p) [] kws pos) (tCallN 0 ks.length sp gV E0 tNil tk) := by
  obtain ⟨f, fd, ps, g, F, hm, kp, b⟩ := c.ex
  exact pe_callN0 F (hr.mono hk) hg hm kp b pass0 hkw hall hks hdb hpl
end
/-! ### rules that speak of the written part, K named (a comprehension's block asks it so) -/
section
variable {X : Cx}
theorem ixL (K : PySem.W.Frag) (h : X.K = K := by rfl) : IxR X (rIxL K) := by
  subst h
  exact ix_list
theorem ixT (K : PySem.W.Frag) (h : X.K = K := by rfl) : IxR X (rIxT K) := by
  subst h
  exact ix_tup
def rLenS (K : PySem.W.Frag) : List V → Hp → VK → Prop := fun xs H Q => ∃ p ys, xs = [.ref p] ∧ (SqL K H p ys ∨ SqT K H p ys) ∧ Q (.int (ys.length : Nat)) H
theorem lenS (K : PySem.W.Frag) (h : X.K = K := by rfl) : CallR X (.builtin "len") (rLenS K) := by
  subst h
  exact call_len_seq
def rListOf (K : PySem.W.Frag) : List V → Hp → VK → Prop := fun xs H Q => ∃ p ys, xs = [.ref p] ∧ (SqL K H p ys ∨ SqT K H p ys) ∧ ∀ l, H l = none → Q (.ref l) (upd H l (.lst ys))
theorem listOf (K : PySem.W.Frag) (h : X.K = K := by rfl) : CallR X (.type "list") (rListOf K) := by
  subst h
  exact call_list_of
def rTupOf (K : PySem.W.Frag) : List V → Hp → VK → Prop := fun xs H Q => ∃ p ys, xs = [.ref p] ∧ ((SqL K H p ys ∧ ∀ l, H l = none → Q (.ref l) (upd H l (.tup ys))) ∨ (SqT K H p ys ∧ Q (.ref p) H))
theorem tupOf (K : PySem.W.Frag) (h : X.K = K := by rfl) : CallR X (.type "tuple") (rTupOf K) := by
  subst h
  exact call_tuple_of
theorem crSum (K : PySem.W.Frag) (hc : X.calm = true) (h : X.K = K := by rfl) : CallR X (.builtin "sum") (rSum K) := by
  subst h
  exact cr_sum hc
theorem crAll (K : PySem.W.Frag) (hc : X.calm = true) (h : X.K = K := by rfl) : CallR X (.builtin "all") (rAll K) := by
  subst h
  exact cr_all hc
theorem isiK (K : PySem.W.Frag) (h : X.K = K := by rfl) : CallR X (.builtin "isinstance") (rIsi K) := by
  subst h
  exact call_isi
theorem opCatA (K : PySem.W.Frag) (h : X.K = K := by rfl) : OpR X (binaryOp .Add) (rCatA K) := by
  subst h
  exact op_catA
theorem slL (K : PySem.W.Frag) (h : X.K = K := by rfl) : SlR X (rSlL K) := by
  subst h
  exact sl_list
def rJoin (K : PySem.W.Frag) : V → List V → Hp → VK → Prop := fun x xs H Q => ∃ (a : Str) (p : Addr) (ys : List Str), x = .str a ∧ xs = [.ref p] ∧ (SqL K H p (ys.map V.str) ∨ SqT K H p (ys.map V.str)) ∧ (ys.map (·.length)).sum + ys.length * a.length ≤ 16777216 ∧ Q (.str (Txt.join a ys)) H
theorem mtJoin (K : PySem.W.Frag) (h : X.K = K := by rfl) : MtR X "str.join" (rJoin K) := by
  subst h
  exact mt_join
theorem slTA (K : PySem.W.Frag) (h : X.K = K := by rfl) : SlR X (rSlA K) := by
  subst h
  exact sl_tupA
/-- a built-in class as a value -/
theorem pe_ty {x : Str} {pos : Pos} (t : String) (hg : Gl X x) (hm : X.mg x = none) (hv : bootBuiltins x = some (.type t)) (hn : x ≠ "__name__" := by decide +kernel) (hd : (x == ("__debug__" : Str)) = false := by decide +kernel) : PE X (.Name x pos) (tC (.ty t)) := pe_bltn hg hm hv rfl hn hd
end

theorem Vals.rev : ∀ {xs : List V} {us : List Value}, Vals xs us → Vals xs.reverse us.reverse
  | _, _, .nil => .nil
  | _, _, .cons r t => by
    rw [List.reverse_cons, List.reverse_cons]
    exact Vals.append (Vals.rev t) (.cons r .nil)
theorem Fun.kb {K : PySem.W.Frag} {x qual : Str} {st : Stmt} {f : Addr} {fd : FuncData} {ps ks : List Str} {g : List Value → List Value → List Value} {gV : List V → List V → List V} (F : Fun K x qual st f fd) (n : Nat)
    (h : ∀ (kV doc pm : Value) (an : Option Addr) (cdv ct : Value) (us ws : List Value), us.length = n → ws.length = ks.length → bindArgs (PySem.W.fnOf x qual (defArgs st) (defBody st) (defScope st) .none kV doc pm an cdv ct) ⟨us, ks.zip ws⟩ = pure (ps.zip (g us ws)))
    (hrel : ∀ {vs : List V} {us : List Value} {zs : List V} {ws : List Value}, Vals vs us → Vals zs ws → Vals (gV vs zs) (g us ws)) : KBn K fd ps n ks g gV := by
  obtain ⟨oc, od, kV, doc, pm, an, cdv, ct, osl, rfl, lk, hcd⟩ := F.ex
  exact ⟨fun s us ws _ l1 l2 => .of_eq (h kV doc pm an cdv ct us ws l1 l2), hrel⟩

/-! ### own errors -/
structure Exn (K : PySem.W.Frag) (mg : Str → Option Value) (x : Str) (C : Addr) : Prop where
  inn : PySem.W.excIn K C [.type "ValueError", .type "Exception", .type "BaseException", .type "object"] "ValueError.__new__" = true
  gl : mg x = some (.ref C)
  kp : PySem.W.keepIn K (.ref C) = true
  ba : PySem.W.subIn K (.ref C) (.type "BaseException") = some true
  ty : PySem.W.typeIn K (.ref C) = some (.type "type")
section
variable {X : Cx} {C : Addr} {x m : Str} {j k i : Nat} {p p2 pos pos2 : Pos} {W : WX} {sp : Sp} {e : Expr} {es : List Expr} {t : TA}
theorem ps_raiseE (e : Exn X.K X.mg x C) (hc : X.calm = true) (tk : Takes X W) (hg : Gl X x) (hdb : (x == ("__debug__" : Str)) = false := by decide) :
    PS X (.Raise (some (.Call (.Name x p) [.Constant (.str m) j p2] [] pos)) none pos2) (fun _ σ H => W (.ref C) none σ H) :=
  ps_raise hc tk (pmk_own PySem.F.excBase_ValueError e.inn e.gl e.kp (raises_own e.ba e.ty) hg hdb)
theorem pe_clX (c : Cl X.prog X.w X.K X.mg X.base (L2.CX X.prog X.w) k x sp) (hr : Room i X.A) (hk : k ≤ i) (hg : Gl X x) (tk : Takes X W) (ha : PA X (e :: es) t)
    (hdb : (x == ("__debug__" : Str)) = false := by decide) (he : starEach (e :: es) X.env = (false, eval e X.env) :: starEach es X.env := by rfl) (hpl : (backTo pos (starEach es X.env)).any (·.1) = false := by rfl) :
    PE X (.Call (.Name x p) (e :: es) [] pos) (tCallS sp (WE W) t) := by
  obtain ⟨f, fd, ps, F, hm, kp, b⟩ := c.ex
  exact pe_callS F (hr.mono hk) hg hm kp b (fun σ => passAt tk σ) ha hdb he hpl
end

/-! ### data: what a value is, to any depth -/
theorem dp_all_len {K : PySem.W.Frag} {H : Hp} : ∀ {vs : List V} {ds : List PyData}, DpAll K H vs ds → vs.length = ds.length
  | _, _, .nil => rfl
  | _, _, .cons _ t => congrArg Nat.succ (dp_all_len t)
theorem dp_all_get {K : PySem.W.Frag} {H : Hp} : ∀ {vs : List V} {ds : List PyData} {i : Nat} {v : V}, DpAll K H vs ds → vs[i]? = some v → ∃ d, ds[i]? = some d ∧ Dp K H v d
  | _, _, _, _, .nil, h => by simp at h
  | _, _, 0, v, .cons h t, e => by
    have e' := Option.some.inj e
    subst e'
    exact ⟨_, rfl, h⟩
  | _, _, i + 1, v, .cons h t, e => dp_all_get (i := i) t e
theorem same_sqt {K : PySem.W.Frag} {H H' : Hp} {a : Addr} {xs : List V} (e : Same H H') (h : SqT K H a xs) : SqT K H' a xs := by
  rcases h with (h | ⟨o, h⟩) | h
  · exact .inl (.inl (e _ _ h))
  · exact .inl (.inr ⟨o, e _ _ h⟩)
  · exact .inr h
mutual
theorem dp_same {K : PySem.W.Frag} {H H' : Hp} (e : Same H H') : ∀ (d : PyData) {v : V}, Dp K H v d → Dp K H' v d
  | .none, _, .non => .non
  | .bool _, _, .bl b => .bl b
  | .int _, _, .int i => .int i
  | .str _, _, .str x => .str x
  | .list ds, _, .lst hs ha => .lst (e.seq hs) (dps_same e ds ha)
  | .tuple ds, _, .tup hs ha => .tup (same_sqt e hs) (dps_same e ds ha)
  | .dict _, _, h => by cases h
theorem dps_same {K : PySem.W.Frag} {H H' : Hp} (e : Same H H') : ∀ (ds : List PyData) {vs : List V}, DpAll K H vs ds → DpAll K H' vs ds
  | [], _, .nil => .nil
  | d :: ds, _, .cons h t => .cons (dp_same e d h) (dps_same e ds t)
end
def okT (x : Str) : Prop := PySem.PyData.strOk x = true ∧ x.length ≤ 5000
/-- plain data of so many levels at most, nothing large -/
def Gd : Nat → PyData → Prop
  | 0, d => match d with
    | .none => True
    | .bool _ => True
    | .int _ => True
    | .str x => okT x
    | _ => False
  | n + 1, d => match d with
    | .none => True
    | .bool _ => True
    | .int _ => True
    | .str x => okT x
    | .list xs => xs.length ≤ 5000 ∧ ∀ x ∈ xs, Gd n x
    | .tuple xs => xs.length ≤ 5000 ∧ ∀ x ∈ xs, Gd n x
    | .dict _ => False
theorem gd_str {n : Nat} {x : Str} (h : Gd n (.str x)) : okT x := by
  cases n with
  | zero => exact h
  | succ n => exact h
theorem gd_tup {n : Nat} {xs : List PyData} (h : Gd n (.tuple xs)) : xs.length ≤ 5000 ∧ ∃ m, n = m + 1 ∧ ∀ x ∈ xs, Gd m x := by
  cases n with
  | zero => exact h.elim
  | succ n => exact ⟨h.1, n, rfl, h.2⟩
theorem gd_lst {n : Nat} {xs : List PyData} (h : Gd n (.list xs)) : xs.length ≤ 5000 ∧ ∃ m, n = m + 1 ∧ ∀ x ∈ xs, Gd m x := by
  cases n with
  | zero => exact h.elim
  | succ n => exact ⟨h.1, n, rfl, h.2⟩
theorem gd_up : ∀ {n : Nat} {d : PyData}, Gd n d → Gd (n + 1) d
  | 0, .none, h => h
  | 0, .bool _, h => h
  | 0, .int _, h => h
  | 0, .str _, h => h
  | n + 1, .none, h => h
  | n + 1, .bool _, h => h
  | n + 1, .int _, h => h
  | n + 1, .str _, h => h
  | n + 1, .list xs, h => ⟨h.1, fun x hx => gd_up (h.2 x hx)⟩
  | n + 1, .tuple xs, h => ⟨h.1, fun x hx => gd_up (h.2 x hx)⟩
theorem gd_le {n m : Nat} {d : PyData} (h : Gd n d) (hm : n ≤ m) : Gd m d := by
  induction hm with
  | refl => exact h
  | step _ ih => exact gd_up ih
theorem depthAll_le {n : Nat} : ∀ {xs : List PyData}, (∀ x ∈ xs, x.depth ≤ n) → PyData.depthAll xs ≤ n
  | [], _ => by
    unfold PyData.depthAll
    exact Nat.zero_le _
  | x :: xs, h => by
    unfold PyData.depthAll
    exact Nat.max_le.mpr ⟨h x List.mem_cons_self, depthAll_le fun y hy => h y (List.mem_cons_of_mem _ hy)⟩
theorem layAll_of : ∀ {xs : List PyData}, (∀ x ∈ xs, x.canLay0 = true) → PyData.canLayAll0 xs = true
  | [], _ => by
    unfold PyData.canLayAll0
    rfl
  | x :: xs, h => by
    unfold PyData.canLayAll0
    rw [h x List.mem_cons_self, layAll_of fun y hy => h y (List.mem_cons_of_mem _ hy)]
    rfl
theorem gd_facts : ∀ {n : Nat} {d : PyData}, Gd n d → d.canLay0 = true ∧ d.depth ≤ n
  | 0, .none, h => ⟨by unfold PyData.canLay0; rfl, by unfold PyData.depth; omega⟩
  | 0, .bool _, h => ⟨by unfold PyData.canLay0; rfl, by unfold PyData.depth; omega⟩
  | 0, .int _, h => ⟨by unfold PyData.canLay0; rfl, by unfold PyData.depth; omega⟩
  | 0, .str _, h => ⟨by unfold PyData.canLay0; exact h.1, by unfold PyData.depth; omega⟩
  | n + 1, .none, h => ⟨by unfold PyData.canLay0; rfl, by unfold PyData.depth; omega⟩
  | n + 1, .bool _, h => ⟨by unfold PyData.canLay0; rfl, by unfold PyData.depth; omega⟩
  | n + 1, .int _, h => ⟨by unfold PyData.canLay0; rfl, by unfold PyData.depth; omega⟩
  | n + 1, .str _, h => ⟨by unfold PyData.canLay0; exact h.1, by unfold PyData.depth; omega⟩
  | n + 1, .list xs, h => ⟨by unfold PyData.canLay0; exact layAll_of fun x hx => (gd_facts (h.2 x hx)).1, by
      unfold PyData.depth
      have := depthAll_le fun x hx => (gd_facts (h.2 x hx)).2
      omega⟩
  | n + 1, .tuple xs, h => ⟨by unfold PyData.canLay0; exact layAll_of fun x hx => (gd_facts (h.2 x hx)).1, by
      unfold PyData.depth
      have := depthAll_le fun x hx => (gd_facts (h.2 x hx)).2
      omega⟩
theorem gd_shaped {n : Nat} {d : PyData} (h : Gd n d) (hn : n ≤ 64) : SeqAt.shaped d = true := by
  obtain ⟨h1, h2⟩ := gd_facts h
  unfold SeqAt.shaped
  rw [h1, decide_eq_true (Nat.le_trans h2 hn)]
  rfl
/-! ### types -/
def tyN : PyData → String
  | .none => "NoneType"
  | .bool _ => "bool"
  | .int _ => "int"
  | .str _ => "str"
  | .list _ => "list"
  | .tuple _ => "tuple"
  | .dict _ => "dict"
theorem dp_ty {K : PySem.W.Frag} {H : Hp} {v : V} : ∀ {d : PyData}, Dp K H v d → TyX K H v (.type (tyN d))
  | _, .non => .base .non
  | _, .bl b => .base (.bl b)
  | _, .int i => .base (.int i)
  | _, .str x => .base (.str x)
  | _, .lst hs _ => by
    rcases hs with (h | ⟨o, h⟩) | ⟨o, _, _, h, hc, _⟩
    · exact .base (.lst h)
    · exact .base (.frz h)
    · exact .kList h hc
  | _, .tup hs _ => by
    rcases hs with (h | ⟨o, h⟩) | ⟨o, _, _, h, hc, _⟩
    · exact .base (.tup h)
    · exact .fTuple h
    · exact .kTuple h hc
def isInt : PyData → Bool
  | .int _ => true
  | .bool _ => true
  | _ => false
def isBool : PyData → Bool
  | .bool _ => true
  | _ => false
def isStr : PyData → Bool
  | .str _ => true
  | _ => false
def isTup : PyData → Bool
  | .tuple _ => true
  | _ => false
theorem kit_int {K : PySem.W.Frag} (d : PyData) : PySem.W.kitOne K (.type (tyN d)) (.type "int") = some (isInt d) := by
  cases d with
  | none => exact kit_ty (show kitB "NoneType" "int" = some false by decide +kernel)
  | bool _ => exact kit_ty (show kitB "bool" "int" = some true by decide +kernel)
  | int _ => exact kit_ty (show kitB "int" "int" = some true by decide +kernel)
  | str _ => exact kit_ty (show kitB "str" "int" = some false by decide +kernel)
  | list _ => exact kit_ty (show kitB "list" "int" = some false by decide +kernel)
  | tuple _ => exact kit_ty (show kitB "tuple" "int" = some false by decide +kernel)
  | dict _ => exact kit_ty (show kitB "dict" "int" = some false by decide +kernel)
theorem kit_bool {K : PySem.W.Frag} (d : PyData) : PySem.W.kitOne K (.type (tyN d)) (.type "bool") = some (isBool d) := by
  cases d with
  | none => exact kit_ty (show kitB "NoneType" "bool" = some false by decide +kernel)
  | bool _ => exact kit_ty (show kitB "bool" "bool" = some true by decide +kernel)
  | int _ => exact kit_ty (show kitB "int" "bool" = some false by decide +kernel)
  | str _ => exact kit_ty (show kitB "str" "bool" = some false by decide +kernel)
  | list _ => exact kit_ty (show kitB "list" "bool" = some false by decide +kernel)
  | tuple _ => exact kit_ty (show kitB "tuple" "bool" = some false by decide +kernel)
  | dict _ => exact kit_ty (show kitB "dict" "bool" = some false by decide +kernel)
theorem kit_str {K : PySem.W.Frag} (d : PyData) : PySem.W.kitOne K (.type (tyN d)) (.type "str") = some (isStr d) := by
  cases d with
  | none => exact kit_ty (show kitB "NoneType" "str" = some false by decide +kernel)
  | bool _ => exact kit_ty (show kitB "bool" "str" = some false by decide +kernel)
  | int _ => exact kit_ty (show kitB "int" "str" = some false by decide +kernel)
  | str _ => exact kit_ty (show kitB "str" "str" = some true by decide +kernel)
  | list _ => exact kit_ty (show kitB "list" "str" = some false by decide +kernel)
  | tuple _ => exact kit_ty (show kitB "tuple" "str" = some false by decide +kernel)
  | dict _ => exact kit_ty (show kitB "dict" "str" = some false by decide +kernel)
theorem kit_tup {K : PySem.W.Frag} (d : PyData) : PySem.W.kitOne K (.type (tyN d)) (.type "tuple") = some (isTup d) := by
  cases d with
  | none => exact kit_ty (show kitB "NoneType" "tuple" = some false by decide +kernel)
  | bool _ => exact kit_ty (show kitB "bool" "tuple" = some false by decide +kernel)
  | int _ => exact kit_ty (show kitB "int" "tuple" = some false by decide +kernel)
  | str _ => exact kit_ty (show kitB "str" "tuple" = some false by decide +kernel)
  | list _ => exact kit_ty (show kitB "list" "tuple" = some false by decide +kernel)
  | tuple _ => exact kit_ty (show kitB "tuple" "tuple" = some true by decide +kernel)
  | dict _ => exact kit_ty (show kitB "dict" "tuple" = some false by decide +kernel)
/-! ### what a block is -/
def whole : PyData → Int → Int → Bool
  | .int i, lo, hi => decide (lo ≤ i) && decide (i ≤ hi)
  | _, _, _ => false
def strLen (m : Int) : PyData → Bool
  | .str x => decide ((x.length : Int) = m)
  | _ => false
def bitRow (m : Int) : PyData → Bool
  | .str x => decide ((x.length : Int) = m) && x.cps.toList.all (fun c => c == 48 || c == 49)
  | _ => false
def rowsOk : PyData → Int → Int → Bool
  | .tuple xs, many, m => decide ((xs.length : Int) = many) && xs.all (bitRow m)
  | _, _, _ => false
def named (x : Str) (d : PyData) : Bool := PyData.eqv d (.str x)
def genRows : PyData → PyData → PyData → Bool
  | .int n, .int m, r => rowsOk r (1 * 2 ^ n.toNat) m
  | _, _, _ => false
def genOk : PyData → Bool
  | .tuple [k, n, m, r] => named "generator" k && whole n 1 10 && whole m 1 40 && genRows n m r
  | _ => false
def sumLe : PyData → PyData → Bool
  | .int n, .int l => decide (n + l ≤ 12)
  | _, _ => false
def funTabs : PyData → PyData → PyData → PyData → Bool
  | .int n, .int l, .int m, .tuple ts => decide ((ts.length : Int) = 1 * 2 ^ n.toNat) && ts.all (fun r => rowsOk r (1 * 2 ^ l.toNat) m)
  | _, _, _, _ => false
def funOk : PyData → Bool
  | .tuple [k, n, l, m, t] => named "function" k && whole n 1 8 && whole l 1 8 && sumLe n l && whole m 1 40 && funTabs n l m t
  | _ => false
theorem gen_no {xs : List PyData} (h : ¬ xs.length = 4) : genOk (.tuple xs) = false := by
  unfold genOk
  split
  · rename_i e
    cases e
    exact absurd rfl h
  · rfl
theorem fun_no {xs : List PyData} (h : ¬ xs.length = 5) : funOk (.tuple xs) = false := by
  unfold funOk
  split
  · rename_i e
    cases e
    exact absurd rfl h
  · rfl
def blockOk (d : PyData) : Bool := genOk d || funOk d
/-! ### strip of 0 and 1 -/
theorem strip_all (x : Str) : decide (V.str (Txt.stripChars x "01") = V.str "") = x.cps.toList.all (fun c => c == 48 || c == 49) := by
  have goes : ∀ c : Nat, (("01" : Str).cps.contains c) = (c == 48 || c == 49) := fun c => by
    show (#[48, 49] : Array Nat).contains c = _
    by_cases h1 : c = 48
    · subst h1
      simp
    · by_cases h2 : c = 49
      · subst h2
        simp
      · simp [h1, h2]
  have hn : x.cps.toList.length = x.length := by simp [Str.length]
  have key : Txt.stripChars x "01" = "" ↔ ∀ k, k < x.length → (("01" : Str).cps.contains (x.cps.getD k 0)) = true := by
    unfold Txt.stripChars
    rw [stripBy_eq]
    obtain ⟨a1, a2, a3⟩ := lo_facts ("01" : Str).cps.contains x
    obtain ⟨b1, b2, b3, _⟩ := hi_facts ("01" : Str).cps.contains x _ a1
    generalize stripLo ("01" : Str).cps.contains true x = lo at a1 a2 a3 b1 b2 b3
    generalize stripHi ("01" : Str).cps.contains true x lo = hi at b1 b2 b3
    have hl : (Builtin.Str.strSub x lo hi).cps.toList = (x.cps.toList.drop lo).take (hi - lo) := PySem.StrLaws.strSub_toList x lo hi
    constructor
    · intro e k hk
      have h0 : (x.cps.toList.drop lo).take (hi - lo) = [] := by
        rw [← hl, e]
        rfl
      have h1 := congrArg List.length h0
      rw [List.length_take, List.length_drop, hn] at h1
      have h2 : min (hi - lo) (x.length - lo) = 0 := h1
      by_cases hk' : k < lo
      · exact a2 k hk'
      · exact b3 k (by omega) hk
    · intro h
      have e : lo = x.length := by
        rcases a3 with z | z
        · exact z
        · by_cases c : lo < x.length
          · rw [h lo c] at z
            cases z
          · omega
      refine TL.ext_tl ?_
      show (Builtin.Str.strSub x lo hi).cps.toList = []
      rw [hl, List.drop_eq_nil_of_le (by omega)]
      exact List.take_nil
  have e2 : (∀ k, k < x.length → (("01" : Str).cps.contains (x.cps.getD k 0)) = true) ↔ x.cps.toList.all (fun c => c == 48 || c == 49) = true := by
    rw [List.all_eq_true]
    constructor
    · intro h c hc
      obtain ⟨k, hk, e⟩ := List.getElem_of_mem hc
      have := h k (by omega)
      rw [← getD_list, List.getD_eq_getElem?_getD, List.getElem?_eq_getElem hk] at this
      rw [← goes c, ← e]
      exact this
    · intro h k hk
      rw [← getD_list, List.getD_eq_getElem?_getD, List.getElem?_eq_getElem (by omega)]
      rw [goes]
      exact h _ (List.getElem_mem _)
  by_cases c : Txt.stripChars x "01" = ""
  · rw [c, decide_eq_true rfl]
    exact (e2.mp (key.mp c)).symm
  · rw [decide_eq_false fun z => c (V.str.inj z)]
    cases hq : x.cps.toList.all (fun c => c == 48 || c == 49)
    · rfl
    · exact absurd (key.mpr (e2.mpr hq)) c
/-! ### what the law makes -/
def rowsD (rows : List (List Bool)) : PyData := .tuple (rows.map fun r => .str (sb r))
def tabD (n m : Nat) (rows : List (List Bool)) : PyData := .tuple [.str "generator", .int (n : Int), .int (m : Int), rowsD rows]
def funD (n l m : Nat) (tabs : List (List (List Bool))) : PyData := .tuple [.str "function", .int (n : Int), .int (l : Int), .int (m : Int), .tuple (tabs.map rowsD)]
theorem dp_bits {K : PySem.W.Frag} {H : Hp} : ∀ rows : List (List Bool), DpAll K H (rows.map fun r => V.str (sb r)) (rows.map fun r => PyData.str (sb r))
  | [] => .nil
  | r :: rows => .cons (.str _) (dp_bits rows)
theorem dpAll_snoc {K : PySem.W.Frag} {H : Hp} {v : V} {d : PyData} : ∀ {vs : List V} {ds : List PyData}, DpAll K H vs ds → Dp K H v d → DpAll K H (vs ++ [v]) (ds ++ [d])
  | _, _, .nil, h => .cons h .nil
  | _, _, .cons h t, h' => .cons h (dpAll_snoc t h')

/-! ### the promises -/
/-- the hand: a list of the draws' list and the number of the next draw -/
def Hnd (H : Hp) (a d : Addr) : Prop := ∃ (ds : List Int) (i : Nat), H a = some (.lst [.ref d, .int (i : Int)]) ∧ H d = some (.lst (ds.map V.int)) ∧ (∀ x ∈ ds, 0 ≤ x) ∧ d ≠ a
/-- all but the hand is as it was -/
def Keep (a : Addr) (H H' : Hp) : Prop := ∀ b o, H b = some o → b ≠ a → H' b = some o
theorem Keep.trans {a : Addr} {H H1 H2 : Hp} (h : Keep a H H1) (h' : Keep a H1 H2) : Keep a H H2 := fun b o e n => h' b o (h b o e n) n
theorem Keep.refl (a : Addr) (H : Hp) : Keep a H H := fun _ _ e _ => e
theorem Keep.new {a p : Addr} {H : Hp} {o : HO} (np : H p = none) : Keep a H (upd H p o) := fun b u e _ => by
  rw [upd_ne (ne_of_none e np)]
  exact e
theorem same_new {H : Hp} {p : Addr} {o : HO} (h : H p = none) : Same H (upd H p o) := fun b x e => by
  rw [upd_ne (ne_of_none e h)]
  exact e
theorem Hnd.same {H H' : Hp} {a d : Addr} (h : Hnd H a d) (s : Same H H') : Hnd H' a d := by
  obtain ⟨ds, i, h1, h2, h3, h4⟩ := h
  exact ⟨ds, i, s _ _ h1, s _ _ h2, h3, h4⟩
theorem Hnd.new {H : Hp} {a d p : Addr} {o : HO} (h : Hnd H a d) (np : H p = none) : Hnd (upd H p o) a d := h.same (same_new np)
theorem Hnd.some {H : Hp} {a d : Addr} (h : Hnd H a d) : ∃ o, H a = some o := by
  obtain ⟨ds, i, h1, _⟩ := h
  exact ⟨_, h1⟩
/-- what is new is neither the hand nor the draws -/
theorem Hnd.ne {H : Hp} {a d p : Addr} (h : Hnd H a d) (np : H p = none) : p ≠ a ∧ p ≠ d := by
  obtain ⟨ds, i, h1, h2, _⟩ := h
  exact ⟨(ne_of_none h1 np).symm, (ne_of_none h2 np).symm⟩
/-- an object beside the hand may change -/
theorem Hnd.set {H : Hp} {a d p : Addr} {o : HO} (h : Hnd H a d) (pa : p ≠ a) (pd : p ≠ d) : Hnd (upd H p o) a d := by
  obtain ⟨ds, i, h1, h2, h3, h4⟩ := h
  exact ⟨ds, i, by rw [upd_ne pa.symm]; exact h1, by rw [upd_ne pd.symm]; exact h2, h3, h4⟩
theorem Keep.same {a : Addr} {H H' : Hp} (s : Same H H') : Keep a H H' := fun b o e _ => s b o e
def spDraws (K : PySem.W.Frag) : Sp := fun vs H Q _ => ∃ (a : Addr) (ns : List Int) (many : Nat), vs = [.ref a, .int (many : Int)] ∧ SqL K H a (ns.map V.int) ∧ ns.length ≤ 63 ∧ many ≤ 5000 ∧
  ∀ (p : Addr) (ds : List Int) (H' : Hp), H p = none → Same H H' → H' p = some (.lst (ds.map V.int)) → (∀ x ∈ ds, (0 : Int) ≤ x) → Q (.ref p) H'
def spTake : Sp := fun vs H Q _ => ∃ (a d : Addr) (many : Int), vs = [.ref a, .int many] ∧ 0 < many ∧ Hnd H a d ∧ ∀ r H', 0 ≤ r → r < many → Hnd H' a d → Keep a H H' → Q (.int r) H'
def spString : Sp := fun vs H Q _ => ∃ (a d : Addr) (n : Nat), vs = [.ref a, .int (n : Int)] ∧ n ≤ 5000 ∧ Hnd H a d ∧ ∀ bs H', bs.length = n → Hnd H' a d → Keep a H H' → Q (.str (sb bs)) H'
def spBits : Sp := fun vs H Q _ => ∃ n k : Nat, vs = [.int (n : Int), .int (k : Int)] ∧ n ≤ 5000 ∧ k < 2 ^ n ∧ Q (.str (sb (toB n k))) H
def spNumber : Sp := fun vs H Q _ => ∃ bs : List Bool, vs = [.str (sb bs)] ∧ bs.length ≤ 640 ∧ Q (.int ((val bs : Nat) : Int)) H
def spXor : Sp := fun vs H Q _ => ∃ l m : List Bool, vs = [.str (sb l), .str (sb m)] ∧ l.length = m.length ∧ l.length ≤ 640 ∧ Q (.str (sb (List.zipWith (fun x y => x != y) l m))) H
def spParity : Sp := fun vs H Q _ => ∃ l m : List Bool, vs = [.str (sb l), .str (sb m)] ∧ l.length = m.length ∧ l.length ≤ 640 ∧ Q (.int ((((List.zipWith (fun x y => x && y) l m).count true : Nat) : Int) % 2)) H
def spIsS : Sp := fun vs H Q _ => ∃ x y : Str, vs = [.str x, .str y] ∧ Q (.bl (decide (x = y))) H
def spIsN : Sp := fun vs H Q _ => ∃ x y : Int, vs = [.int x, .int y] ∧ Q (.bl (decide (x = y))) H
def spPair : Sp := fun vs H Q _ => ∃ l m : List Bool, vs = [.str (sb l), .str (sb m)] ∧ l.length = m.length ∧ l.length ≤ 640 ∧ ∀ H', Same H H' → Q (.bl true) H'
def spLaw (K : PySem.W.Frag) : Sp := fun vs H Q _ => ∃ (a : Addr) (ns : List Int), vs = [.ref a] ∧ SqL K H a (ns.map V.int) ∧ ns.length ≤ 63 ∧ ∀ H', Q (.bl true) H'
/-- what was made anew may change: nothing that was there is it -/
theorem Keep.set {a p : Addr} {H H' : Hp} {o : HO} (h : Keep a H H') (np : H p = none) : Keep a H (upd H' p o) := fun b u e n => by
  rw [upd_ne (ne_of_none e np)]
  exact h b u e n
theorem Keep.free {a p : Addr} {H H' : Hp} (h : Keep a H H') (np : H' p = none) (pa : p ≠ a) : H p = none := by
  cases e : H p with
  | none => rfl
  | some o =>
    have := h p o e pa
    rw [np] at this
    cases this
/-- the heap without the hand: what data stand on -/
def off (a : Addr) (H : Hp) : Hp := fun b => if b = a then none else H b
theorem off_ne {a b : Addr} {H : Hp} (h : b ≠ a) : off a H b = H b := if_neg h
theorem off_same (a : Addr) (H : Hp) : Same (off a H) H := fun b o e => by
  unfold off at e
  by_cases h : b = a
  · rw [if_pos h] at e
    cases e
  · rw [if_neg h] at e
    exact e
theorem Keep.off {a : Addr} {H H' : Hp} (k : Keep a H H') : Same (off a H) (off a H') := fun b o e => by
  unfold My.off at e ⊢
  by_cases h : b = a
  · rw [if_pos h] at e
    cases e
  · rw [if_neg h] at e ⊢
    exact k b o e h

def spWhole (K : PySem.W.Frag) : Sp := fun vs H Q _ => ∃ (v : V) (d : PyData) (lo hi : Int), vs = [v, .int lo, .int hi] ∧ Dp K H v d ∧ Q (.bl (whole d lo hi)) H
def spRows (K : PySem.W.Frag) : Sp := fun vs H Q _ => ∃ (v : V) (d : PyData) (n : Nat) (many m : Int), vs = [v, .int many, .int m] ∧ Dp K H v d ∧ Gd n d ∧ many ≤ 4096 ∧ m ≤ 40 ∧ ∀ H', Same H H' → Q (.bl (rowsOk d many m)) H'
def spGen (K : PySem.W.Frag) : Sp := fun vs H Q _ => ∃ (v : V) (d : PyData) (n : Nat), vs = [v] ∧ Dp K H v d ∧ Gd n d ∧ n ≤ 64 ∧ ∀ H', Same H H' → Q (.bl (genOk d)) H'
def spFun (K : PySem.W.Frag) : Sp := fun vs H Q _ => ∃ (v : V) (d : PyData) (n : Nat), vs = [v] ∧ Dp K H v d ∧ Gd n d ∧ n ≤ 64 ∧ ∀ H', Same H H' → Q (.bl (funOk d)) H'
def spCheck (K : PySem.W.Frag) (C : Addr) : Sp := fun vs H Q E => ∃ (v : V) (d : PyData) (n : Nat), vs = [v] ∧ Dp K H v d ∧ Gd n d ∧ n ≤ 64 ∧ ∀ H', Same H H' → (blockOk d = true → Q .non H') ∧ (blockOk d = false → E (.ref C) none H')

theorem for_text {x : Str} {g : TG} {tb : TS} {D : Ends} {σ : L2.St} {H : Hp} (Pv : Nat → L2.St → Hp → Prop) (h0 : Pv 0 σ H)
    (hs : ∀ i c σ H, x.cps[i]? = some c → Pv i σ H → g (.str ⟨#[c]⟩) σ H fun σ2 H2 => tb { D with nx := Pv (i + 1), ct := Pv (i + 1), bk := D.nx } σ2 H2) (hd : ∀ σ H, Pv x.cps.size σ H → D.nx σ H) :
    ∃ W : Nat → Nat → L2.St → Hp → Prop, (∃ m, W 0 m σ H) ∧ ∀ i m σ H, W i m σ H →
      ((Its x).stop i H ∧ D.nx σ H) ∨ ((Its x).go i H ∧ ∃ N : L2.St → Hp → Prop, (∀ σ' H', N σ' H' → ∃ m', m' < m ∧ W (i + 1) m' σ' H') ∧ ∀ y H', (Its x).yld i H y H' → g y σ H' fun σ2 H2 => tb { D with nx := N, ct := N, bk := D.nx } σ2 H2) := by
  refine ⟨fun i m σ H => m = x.cps.size - i ∧ i ≤ x.cps.size ∧ Pv i σ H, ⟨x.cps.size, by omega, Nat.zero_le _, h0⟩, ?_⟩
  rintro i m σ H ⟨rfl, hi, p⟩
  by_cases c : i < x.cps.size
  · refine .inr ⟨c, Pv (i + 1), fun σ' H' p' => ⟨x.cps.size - (i + 1), by omega, rfl, c, p'⟩, ?_⟩
    rintro y H' ⟨rfl, k, hk, rfl⟩
    exact hs i k σ _ hk p
  · have e : i = x.cps.size := by omega
    subst e
    exact .inl ⟨Nat.le_refl _, hd σ H p⟩

theorem ix_nat (n d i : Nat) : HT.sIx n d (some (i : Int)) = min i n := by
  unfold HT.sIx
  show (if (i : Int) < 0 then _ else min (i : Int).toNat n) = _
  rw [if_neg (by omega)]
  rfl
theorem sb_drop_take (l : List Bool) (a b : Nat) : (⟨(((sb l).cps.toList.drop a).take b).toArray⟩ : Str) = sb ((l.drop a).take b) := by
  unfold sb
  rw [List.map_take, List.map_drop]
theorem cut_pre {l : List Bool} {i : Nat} : cutS (sb l) none (some (i : Int)) = sb (l.take i) := by
  unfold cutS
  rw [sb_drop_take, ix_nat, HT.sIx_none, sb_len, List.drop_zero, Nat.sub_zero]
  congr 1
  by_cases h : i ≤ l.length
  · rw [Nat.min_eq_left h]
  · rw [List.take_of_length_le (by omega), List.take_of_length_le (by omega)]
theorem cut_suf {l : List Bool} {i : Nat} : cutS (sb l) (some (i : Int)) none = sb (l.drop i) := by
  unfold cutS
  rw [sb_drop_take, ix_nat, HT.sIx_none, sb_len, List.take_of_length_le (by rw [List.length_drop]; omega)]
  congr 1
  by_cases h : i ≤ l.length
  · rw [Nat.min_eq_left h]
  · rw [Nat.min_eq_right (by omega), List.drop_length, List.drop_of_length_le (by omega)]
theorem cut_one {l : List Bool} {i : Nat} : cutS (sb l) (some (i : Int)) (some ((i : Int) + 1)) = sb ((l.drop i).take 1) := by
  unfold cutS
  rw [show ((i : Int) + 1) = ((i + 1 : Nat) : Int) by omega, sb_drop_take, ix_nat, ix_nat, sb_len]
  congr 1
  by_cases h : i + 1 ≤ l.length
  · rw [Nat.min_eq_left h, Nat.min_eq_left (by omega)]
    congr 1
    omega
  · by_cases h' : i = l.length
    · subst h'
      rw [Nat.min_self, List.drop_length]
      simp
    · rw [Nat.min_eq_right (show l.length ≤ i by omega), List.drop_length, List.drop_eq_nil_of_le (show l.length ≤ i by omega)]
      simp
theorem rep_bits (b : Bool) (n : Nat) : SX.S (List.replicate n [cB b]).flatten = sb (List.replicate n b) := by
  unfold sb
  congr 1
  induction n with
  | zero => rfl
  | succ n ih =>
    rw [List.replicate_succ, List.flatten_cons, ih]
    rfl
theorem val_take (l : List Bool) (i : Nat) (h : i < l.length) : val (l.take (i + 1)) = 2 * val (l.take i) + bit l[i] := by
  rw [List.take_add_one, List.getElem?_eq_getElem h]
  exact val_snoc _ _
theorem val_zeros (n : Nat) : val (List.replicate n false) = 0 := by
  induction n with
  | zero => rfl
  | succ n ih =>
    rw [List.replicate_succ', val_snoc, ih]
    rfl
theorem sb_at {l : List Bool} {i c : Nat} (h : (sb l).cps[i]? = some c) : ∃ h : i < l.length, c = cB l[i] := by
  have e : (l.map cB)[i]? = some c := by
    rw [← h]
    show _ = ((l.map cB).toArray)[i]?
    simp
  rw [List.getElem?_map] at e
  obtain ⟨b, hb, rfl⟩ := Option.map_eq_some_iff.mp e
  obtain ⟨hi, rfl⟩ := List.getElem?_eq_some_iff.mp hb
  exact ⟨hi, rfl⟩

theorem name_ne {d : PyData} {x : Str} : (!PyData.eqv d (.str x)) = !named x d := rfl
theorem whole_int {d : PyData} {lo hi : Int} (h : whole d lo hi = true) : ∃ i, d = .int i ∧ lo ≤ i ∧ i ≤ hi := by
  cases d with
  | int i =>
    have h' : (decide (lo ≤ i) && decide (i ≤ hi)) = true := h
    rw [Bool.and_eq_true, decide_eq_true_eq, decide_eq_true_eq] at h'
    exact ⟨i, rfl, h'⟩
  | _ => cases h
theorem gen_eq {k n m r : PyData} : genOk (.tuple [k, n, m, r]) = (named "generator" k && whole n 1 10 && whole m 1 40 && genRows n m r) := rfl
theorem fun_eq {k n l m t : PyData} : funOk (.tuple [k, n, l, m, t]) = (named "function" k && whole n 1 8 && whole l 1 8 && sumLe n l && whole m 1 40 && funTabs n l m t) := rfl
theorem pow_le {n : Int} {b : Nat} (h0 : 1 ≤ n) (h : n ≤ (b : Int)) : (1 : Int) * 2 ^ n.toNat ≤ ((2 ^ b : Nat) : Int) := by
  have h1 : (2 : Nat) ^ n.toNat ≤ 2 ^ b := Nat.pow_le_pow_right (by decide) (by omega)
  have h2 : ((2 ^ n.toNat : Nat) : Int) ≤ ((2 ^ b : Nat) : Int) := Int.ofNat_le.mpr h1
  rw [Int.natCast_pow] at h2
  rw [Int.one_mul]
  exact h2
theorem dp4 {K : PySem.W.Frag} {H : Hp} {ws : List V} {xs : List PyData} (h : DpAll K H ws xs) (c : ws.length = 4) : ∃ v0 v1 v2 v3 d0 d1 d2 d3, ws = [v0, v1, v2, v3] ∧ xs = [d0, d1, d2, d3] ∧ Dp K H v0 d0 ∧ Dp K H v1 d1 ∧ Dp K H v2 d2 ∧ Dp K H v3 d3 := by
  match xs, ws, c, h with
  | _, [v0, v1, v2, v3], _, .cons h0 (.cons h1 (.cons h2 (.cons h3 .nil))) => exact ⟨_, _, _, _, _, _, _, _, rfl, rfl, h0, h1, h2, h3⟩
theorem dp5 {K : PySem.W.Frag} {H : Hp} {ws : List V} {xs : List PyData} (h : DpAll K H ws xs) (c : ws.length = 5) : ∃ v0 v1 v2 v3 v4 d0 d1 d2 d3 d4, ws = [v0, v1, v2, v3, v4] ∧ xs = [d0, d1, d2, d3, d4] ∧ Dp K H v0 d0 ∧ Dp K H v1 d1 ∧ Dp K H v2 d2 ∧ Dp K H v3 d3 ∧ Dp K H v4 d4 := by
  match xs, ws, c, h with
  | _, [v0, v1, v2, v3, v4], _, .cons h0 (.cons h1 (.cons h2 (.cons h3 (.cons h4 .nil)))) => exact ⟨_, _, _, _, _, _, _, _, _, _, rfl, rfl, h0, h1, h2, h3, h4⟩
theorem join_all : ∀ ys : List Str, (Txt.join "" ys).cps.toList = (ys.map (·.cps.toList)).flatten := by
  intro ys
  have j : ∀ ps : List (List Nat), TL.joinL [] ps = ps.flatten := by
    intro ps
    induction ps with
    | nil => rfl
    | cons x r ih =>
      cases r with
      | nil => exact (List.append_nil x).symm
      | cons y r =>
        show x ++ ([] ++ TL.joinL [] (y :: r)) = x ++ (y :: r).flatten
        rw [ih, List.nil_append]
  have e : ys = (ys.map (·.cps.toList)).map SX.S := by
    rw [List.map_map]
    exact (List.map_id'' (fun x => SX.S_tl x) ys).symm
  have h := SX.join_S [] (ys.map (·.cps.toList))
  rw [← e, j] at h
  exact congrArg (fun z : Str => z.cps.toList) h

def spTable (K : PySem.W.Frag) : Sp := fun vs H Q _ => ∃ (a d : Addr) (n m : Nat), vs = [.ref a, .int (n : Int), .int (m : Int)] ∧ n ≤ 8 ∧ m ≤ 200 ∧ Hnd H a d ∧
  ∀ v rows H', rows.length = 2 ^ n → (∀ r ∈ rows, r.length = m) → Dp K (off a H') v (tabD n m rows) → Hnd H' a d → Keep a H H' → Q v H'
def spFunction (K : PySem.W.Frag) : Sp := fun vs H Q _ => ∃ (a d : Addr) (n l m : Nat), vs = [.ref a, .int (n : Int), .int (l : Int), .int (m : Int)] ∧ n ≤ 8 ∧ l ≤ 8 ∧ m ≤ 200 ∧ Hnd H a d ∧
  ∀ v tabs H', tabs.length = 2 ^ n → (∀ rows ∈ tabs, rows.length = 2 ^ l ∧ ∀ r ∈ rows, r.length = m) → Dp K (off a H') v (funD n l m tabs) → Hnd H' a d → Keep a H H' → Q v H'

/-! ### data of a size -/
def okS (s : Nat) (x : Str) : Prop := PySem.PyData.strOk x = true ∧ x.length ≤ s
def Gz (s : Nat) : Nat → PyData → Prop
  | 0, d => match d with
    | .none => True
    | .bool _ => True
    | .int i => i.natAbs < 10 ^ s
    | .str x => okS s x
    | _ => False
  | n + 1, d => match d with
    | .none => True
    | .bool _ => True
    | .int i => i.natAbs < 10 ^ s
    | .str x => okS s x
    | .list xs => xs.length ≤ s ∧ ∀ x ∈ xs, Gz s n x
    | .tuple xs => xs.length ≤ s ∧ ∀ x ∈ xs, Gz s n x
    | .dict _ => False
theorem gz_str {s n : Nat} {x : Str} : Gz s n (.str x) ↔ okS s x := by
  cases n <;> exact Iff.rfl
theorem gz_int {s n : Nat} {i : Int} : Gz s n (.int i) ↔ i.natAbs < 10 ^ s := by
  cases n <;> exact Iff.rfl
theorem gz_bool {s n : Nat} {b : Bool} : Gz s n (.bool b) := by
  cases n <;> trivial
theorem gz_none {s n : Nat} : Gz s n .none := by
  cases n <;> trivial
theorem gz_tup {s n : Nat} {xs : List PyData} (h : Gz s n (.tuple xs)) : xs.length ≤ s ∧ ∃ m, n = m + 1 ∧ ∀ x ∈ xs, Gz s m x := by
  cases n with
  | zero => exact h.elim
  | succ n => exact ⟨h.1, n, rfl, h.2⟩
theorem gz_gd {s : Nat} (hs : s ≤ 5000) : ∀ {n : Nat} {d : PyData}, Gz s n d → Gd n d
  | 0, .none, h => h
  | 0, .bool _, h => h
  | 0, .int _, h => trivial
  | 0, .str _, h => ⟨h.1, Nat.le_trans h.2 hs⟩
  | n + 1, .none, h => h
  | n + 1, .bool _, h => h
  | n + 1, .int _, h => trivial
  | n + 1, .str _, h => ⟨h.1, Nat.le_trans h.2 hs⟩
  | n + 1, .list xs, h => ⟨Nat.le_trans h.1 hs, fun x hx => gz_gd hs (h.2 x hx)⟩
  | n + 1, .tuple xs, h => ⟨Nat.le_trans h.1 hs, fun x hx => gz_gd hs (h.2 x hx)⟩
theorem gz_up {s t : Nat} (hs : s ≤ t) : ∀ {n m : Nat} {d : PyData}, n ≤ m → Gz s n d → Gz t m d
  | n, m, .none, _, h => gz_none
  | n, m, .bool _, _, h => gz_bool
  | n, m, .int _, _, h => gz_int.mpr (Nat.lt_of_lt_of_le (gz_int.mp h) (Nat.pow_le_pow_right (by decide) hs))
  | n, m, .str _, _, h => gz_str.mpr ⟨(gz_str.mp h).1, Nat.le_trans (gz_str.mp h).2 hs⟩
  | 0, m, .list _, _, h => h.elim
  | 0, m, .tuple _, _, h => h.elim
  | 0, m, .dict _, _, h => h.elim
  | n + 1, m, .dict _, _, h => h.elim
  | n + 1, m + 1, .list xs, hm, h => ⟨Nat.le_trans h.1 hs, fun x hx => gz_up hs (Nat.le_of_succ_le_succ hm) (h.2 x hx)⟩
  | n + 1, m + 1, .tuple xs, hm, h => ⟨Nat.le_trans h.1 hs, fun x hx => gz_up hs (Nat.le_of_succ_le_succ hm) (h.2 x hx)⟩
theorem sqt_off {K : PySem.W.Frag} {H : Hp} {a d p : Addr} {xs : List V} (h : Hnd H a d) (s : SqT K H p xs) : SqT K (off a H) p xs := by
  obtain ⟨ds, i, h1, _⟩ := h
  rcases s with (s | ⟨o, s⟩) | s
  · refine .inl (.inl ?_)
    rw [off_ne fun e => ?_]
    · exact s
    · rw [e, h1] at s
      cases s
  · refine .inl (.inr ⟨o, ?_⟩)
    rw [off_ne fun e => ?_]
    · exact s
    · rw [e, h1] at s
      cases s
  · exact .inr s
theorem sqt_on {K : PySem.W.Frag} {H : Hp} {a p : Addr} {xs : List V} (s : SqT K (off a H) p xs) : SqT K H p xs := same_sqt (off_same a H) s
theorem sql_on {K : PySem.W.Frag} {H : Hp} {a p : Addr} {xs : List V} (s : SqL K (off a H) p xs) : SqL K H p xs := (off_same a H).seq s
/-- a value of data of a size, beside the hand -/
def Ok (K : PySem.W.Frag) (a : Addr) (H : Hp) (s n : Nat) (v : V) : Prop := ∃ D, Dp K (off a H) v D ∧ Gz s n D
theorem Ok.same {K : PySem.W.Frag} {a : Addr} {H H' : Hp} {s n : Nat} {v : V} (h : Ok K a H s n v) (e : Same (off a H) (off a H')) : Ok K a H' s n v := by
  obtain ⟨D, h1, h2⟩ := h
  exact ⟨D, dp_same e D h1, h2⟩
theorem Ok.keep {K : PySem.W.Frag} {a : Addr} {H H' : Hp} {s n : Nat} {v : V} (h : Ok K a H s n v) (e : Keep a H H') : Ok K a H' s n v := h.same e.off
theorem Ok.up {K : PySem.W.Frag} {a : Addr} {H : Hp} {s n t m : Nat} {v : V} (h : Ok K a H s n v) (hs : s ≤ t) (hm : n ≤ m) : Ok K a H t m v := by
  obtain ⟨D, h1, h2⟩ := h
  exact ⟨D, h1, gz_up hs hm h2⟩
theorem same_off {a : Addr} {H H' : Hp} (s : Same H H') : Same (off a H) (off a H') := (Keep.same (a := a) s).off
theorem cutV_all {xs : List V} {lo hi : Option Int} (h1 : HT.sIx xs.length 0 lo = 0) (h2 : HT.sIx xs.length xs.length hi = xs.length) : cutV xs lo hi = xs := by
  unfold cutV
  rw [h1, h2]
  simp
theorem sl_any {K : PySem.W.Frag} {H : Hp} {Q : VK} {lo hi : Option Int} {a : Addr} {xs : List V} (hT : SqT K H a xs) (q : ∀ p H', Same H H' → SqT K H' p (cutV xs lo hi) → Q (.ref p) H') : rSlA K (.ref a) lo hi H Q := by
  refine ⟨a, xs, rfl, hT, fun hw => ?_, fun hw p np => ?_⟩
  · exact q a H (Same.refl H) (by rw [cutV_all hw.1 hw.2]; exact hT)
  · exact q p _ (same_new np) (.inl (.inl upd_same))
theorem sl_anyN {K : PySem.W.Frag} {σ : L2.St} {H : Hp} {Q : VK} {l : Option Int} {a : Addr} {xs : List V} (hT : SqT K H a xs) (q : ∀ p H', Same H H' → SqT K H' p (cutV xs l none) → Q (.ref p) H') : tNoPart σ H fun u H3 => rSlA K (.ref a) l u H3 Q := sl_any hT q
theorem cat_any {K : PySem.W.Frag} {H : Hp} {Q : VK} {a b : Addr} {xs ys : List V} (ha : SqT K H a xs) (hb : SqT K H b ys) (hz : xs.length + ys.length ≤ sizeLine) (q : ∀ p H', Same H H' → SqT K H' p (xs ++ ys) → Q (.ref p) H') : rCatA K (.ref a) (.ref b) H Q := by
  refine ⟨a, b, xs, ys, rfl, rfl, ha, hb, hz, fun e => ?_, fun e1 e2 => ?_, fun e1 e2 p np => ?_⟩
  · subst e
    exact q b H (Same.refl H) hb
  · subst e2
    exact q a H (Same.refl H) (by rw [List.append_nil]; exact ha)
  · exact q p _ (same_new np) (.inl (.inl upd_same))
theorem dps_drop {K : PySem.W.Frag} {H : Hp} : ∀ (i : Nat) {vs : List V} {ds : List PyData}, DpAll K H vs ds → DpAll K H (vs.drop i) (ds.drop i)
  | 0, _, _, h => h
  | i + 1, _, _, .nil => .nil
  | i + 1, _, _, .cons _ t => dps_drop i t
theorem dps_take {K : PySem.W.Frag} {H : Hp} : ∀ (i : Nat) {vs : List V} {ds : List PyData}, DpAll K H vs ds → DpAll K H (vs.take i) (ds.take i)
  | 0, _, _, h => .nil
  | i + 1, _, _, .nil => .nil
  | i + 1, _, _, .cons h t => .cons h (dps_take i t)
theorem dps_app {K : PySem.W.Frag} {H : Hp} : ∀ {vs ws : List V} {ds es : List PyData}, DpAll K H vs ds → DpAll K H ws es → DpAll K H (vs ++ ws) (ds ++ es)
  | _, _, _, _, .nil, h => h
  | _, _, _, _, .cons h t, h' => .cons h (dps_app t h')
/-- the values of a row, all of a size -/
def Oks (K : PySem.W.Frag) (a : Addr) (H : Hp) (s n : Nat) (vs : List V) : Prop := ∃ ds, DpAll K (off a H) vs ds ∧ ∀ d ∈ ds, Gz s n d
theorem Oks.keep {K : PySem.W.Frag} {a : Addr} {H H' : Hp} {s n : Nat} {vs : List V} (h : Oks K a H s n vs) (e : Keep a H H') : Oks K a H' s n vs := by
  obtain ⟨D, h1, h2⟩ := h
  exact ⟨D, dps_same e.off D h1, h2⟩
theorem Oks.up {K : PySem.W.Frag} {a : Addr} {H : Hp} {s n t m : Nat} {vs : List V} (h : Oks K a H s n vs) (hs : s ≤ t) (hm : n ≤ m) : Oks K a H t m vs := by
  obtain ⟨D, h1, h2⟩ := h
  exact ⟨D, h1, fun d hd => gz_up hs hm (h2 d hd)⟩
theorem Oks.app {K : PySem.W.Frag} {a : Addr} {H : Hp} {s n : Nat} {vs ws : List V} (h : Oks K a H s n vs) (h' : Oks K a H s n ws) : Oks K a H s n (vs ++ ws) := by
  obtain ⟨D, h1, h2⟩ := h
  obtain ⟨E, h3, h4⟩ := h'
  refine ⟨D ++ E, dps_app h1 h3, fun d hd => ?_⟩
  rcases List.mem_append.mp hd with z | z
  · exact h2 d z
  · exact h4 d z
theorem Oks.cut {K : PySem.W.Frag} {a : Addr} {H : Hp} {s n : Nat} {vs : List V} (lo hi : Option Int) (h : Oks K a H s n vs) : Oks K a H s n (cutV vs lo hi) := by
  obtain ⟨D, h1, h2⟩ := h
  exact ⟨(D.drop _).take _, dps_take _ (dps_drop _ h1), fun d hd => h2 d (List.mem_of_mem_drop (List.mem_of_mem_take hd))⟩
theorem Oks.one {K : PySem.W.Frag} {a : Addr} {H : Hp} {s n : Nat} {v : V} (h : Ok K a H s n v) : Oks K a H s n [v] := by
  obtain ⟨D, h1, h2⟩ := h
  refine ⟨[D], .cons h1 .nil, fun d hd => ?_⟩
  rw [List.mem_singleton.mp hd]
  exact h2
theorem Oks.get {K : PySem.W.Frag} {a : Addr} {H : Hp} {s n i : Nat} {v : V} {vs : List V} (h : Oks K a H s n vs) (e : vs[i]? = some v) : Ok K a H s n v := by
  obtain ⟨D, h1, h2⟩ := h
  obtain ⟨d, hd, h3⟩ := dp_all_get h1 e
  exact ⟨d, h3, h2 d (List.mem_of_getElem? hd)⟩
theorem Ok.tup {K : PySem.W.Frag} {a d p : Addr} {H : Hp} {s n : Nat} {vs : List V} (hh : Hnd H a d) (hT : SqT K H p vs) (h : Oks K a H s n vs) (hl : vs.length ≤ s) : Ok K a H s (n + 1) (.ref p) := by
  obtain ⟨D, h1, h2⟩ := h
  exact ⟨.tuple D, .tup (sqt_off hh hT) h1, by rw [← dp_all_len h1]; exact hl, h2⟩
theorem Ok.lst {K : PySem.W.Frag} {a p : Addr} {H : Hp} {s n : Nat} {vs : List V} (pa : p ≠ a) (hL : H p = some (.lst vs)) (h : Oks K a H s n vs) (hl : vs.length ≤ s) : Ok K a H s (n + 1) (.ref p) := by
  obtain ⟨D, h1, h2⟩ := h
  exact ⟨.list D, .lst (.inl (.inl (by rw [off_ne pa]; exact hL))) h1, by rw [← dp_all_len h1]; exact hl, h2⟩
theorem Ok.str {K : PySem.W.Frag} {a : Addr} {H : Hp} {s n : Nat} {x : Str} (h : okS s x) : Ok K a H s n (.str x) := ⟨.str x, .str x, gz_str.mpr h⟩
theorem Ok.int {K : PySem.W.Frag} {a : Addr} {H : Hp} {s n : Nat} {i : Int} (h : i.natAbs < 10 ^ s) : Ok K a H s n (.int i) := ⟨.int i, .int i, gz_int.mpr h⟩
theorem Ok.bl {K : PySem.W.Frag} {a : Addr} {H : Hp} {s n : Nat} {b : Bool} : Ok K a H s n (.bl b) := ⟨.bool b, .bl b, gz_bool⟩
theorem Ok.non {K : PySem.W.Frag} {a : Addr} {H : Hp} {s n : Nat} : Ok K a H s n .non := ⟨.none, .non, gz_none⟩
/-! ### signs -/
theorem strOk_iff {x : Str} : PySem.PyData.strOk x = true ↔ ∀ c ∈ x.cps.toList, c < 1114112 := by
  unfold PySem.PyData.strOk
  rw [← Array.all_toList, List.all_eq_true]
  constructor
  · intro h c hc
    exact of_decide_eq_true (h c hc)
  · intro h c hc
    exact decide_eq_true (h c hc)
theorem strOk_app {x y : Str} (hx : PySem.PyData.strOk x = true) (hy : PySem.PyData.strOk y = true) : PySem.PyData.strOk (x ++ y) = true := by
  rw [strOk_iff] at hx hy ⊢
  intro c hc
  have e : (x ++ y).cps.toList = x.cps.toList ++ y.cps.toList := by
    show (x.cps ++ y.cps).toList = _
    simp
  rw [e] at hc
  rcases List.mem_append.mp hc with z | z
  · exact hx c z
  · exact hy c z
theorem strOk_cut {x : Str} {lo hi : Option Int} (hx : PySem.PyData.strOk x = true) : PySem.PyData.strOk (cutS x lo hi) = true := by
  rw [strOk_iff] at hx ⊢
  intro c hc
  exact hx c (List.mem_of_mem_drop (List.mem_of_mem_take hc))
theorem str_app_len (x y : Str) : (x ++ y).length = x.length + y.length := by
  show (x.cps ++ y.cps).size = _
  rw [Array.size_append]
  rfl
theorem cutS_len {x : Str} {lo hi : Option Int} : (cutS x lo hi).length = min (HT.sIx x.length x.length hi - HT.sIx x.length 0 lo) (x.length - HT.sIx x.length 0 lo) := by
  show (List.toArray _).size = _
  rw [List.size_toArray, List.length_take, List.length_drop]
  rfl
theorem cutV_len {x : List V} {lo hi : Option Int} : (cutV x lo hi).length = min (HT.sIx x.length x.length hi - HT.sIx x.length 0 lo) (x.length - HT.sIx x.length 0 lo) := by
  unfold cutV
  rw [List.length_take, List.length_drop]
theorem okS_int {s : Nat} {i : Int} (h : i.natAbs < 10 ^ s) (hs : 0 < s) : okS (s + 1) (Str.ofString (toString i)) := by
  refine ⟨?_, ?_⟩
  · rw [strOk_iff, Str.ofString_eq_toList]
    intro c hc
    obtain ⟨k, _, e⟩ := List.mem_map.mp hc
    rw [← e]
    have := k.valid
    rcases this with h | ⟨_, h⟩
    · show k.val.toNat < _
      have h' : k.val.toNat < 55296 := h
      omega
    · exact h
  · rw [PySem.ofString_length]
    exact int_text_length_le10 hs h
theorem atI_mem {xs : List V} {i : Int} (h0 : 0 ≤ i) (h1 : i < (xs.length : Int)) : ∃ x, atI xs i = some x ∧ x ∈ xs := by
  obtain ⟨k, rfl⟩ : ∃ k : Nat, i = (k : Int) := ⟨i.toNat, by omega⟩
  have hk : k < xs.length := by omega
  exact ⟨xs[k], atI_nat (List.getElem?_eq_getElem hk), List.getElem_mem hk⟩
theorem okS_mono {s t : Nat} {x : Str} (h : okS s x) (e : s ≤ t) : okS t x := ⟨h.1, Nat.le_trans h.2 e⟩
theorem okS_app {s t : Nat} {x y : Str} (hx : okS s x) (hy : okS t y) : okS (s + t) (x ++ y) := ⟨strOk_app hx.1 hy.1, by
  rw [str_app_len]
  have h1 := hx.2
  have h2 := hy.2
  omega⟩
theorem sIx_n (n d k : Nat) : HT.sIx n d (some (k : Int)) = min k n := HT.sIx_nat n d k
theorem okS_pre {s k : Nat} {x : Str} (hx : okS s x) (hk : k ≤ x.length) : okS k (cutS x none (some (k : Int))) := ⟨strOk_cut hx.1, by
  rw [cutS_len, sIx_n, HT.sIx_none]
  omega⟩
theorem okS_suf {s k : Nat} {x : Str} (hx : okS s x) : okS (x.length - k) (cutS x (some (k : Int)) none) := ⟨strOk_cut hx.1, by
  rw [cutS_len, sIx_n, HT.sIx_none]
  omega⟩
theorem Oks.nil {K : PySem.W.Frag} {a : Addr} {H : Hp} {s n : Nat} : Oks K a H s n [] := ⟨[], .nil, fun d hd => nomatch hd⟩
theorem Oks.cons {K : PySem.W.Frag} {a : Addr} {H : Hp} {s n : Nat} {v : V} {vs : List V} (h : Ok K a H s n v) (h' : Oks K a H s n vs) : Oks K a H s n (v :: vs) := (Oks.one h).app h'
theorem Oks.rep {K : PySem.W.Frag} {a : Addr} {H : Hp} {s n : Nat} {v : V} (h : Ok K a H s n v) : ∀ k : Nat, Oks K a H s n (List.replicate k v)
  | 0 => .nil
  | k + 1 => by
    rw [List.replicate_succ]
    exact .cons h (Oks.rep h k)
theorem Ok.small {K : PySem.W.Frag} {a : Addr} {H : Hp} {s n : Nat} {i : Int} (h : i.natAbs < 100) (hs : 2 ≤ s) : Ok K a H s n (.int i) := .int (Nat.lt_of_lt_of_le (show i.natAbs < 10 ^ 2 from h) (Nat.pow_le_pow_right (by decide) hs))
theorem shl_one (n : Nat) : (1 : Int) * 2 ^ ((n : Nat) : Int).toNat = ((2 ^ n : Nat) : Int) := by
  rw [Int.one_mul, Int.toNat_natCast, Int.natCast_pow]
  rfl
theorem two_pow_le {n b : Nat} (h : n ≤ b) : 2 ^ n ≤ 2 ^ b := Nat.pow_le_pow_right (by decide) h
theorem at0 {v : V} {ws : List V} : atI (v :: ws) 0 = some v := atI_nat (j := 0) rfl
theorem all4 {P : PyData → Prop} {a b c d : PyData} (h1 : P a) (h2 : P b) (h3 : P c) (h4 : P d) : ∀ x ∈ [a, b, c, d], P x := by
  intro x hx
  rcases List.mem_cons.mp hx with e | hx
  · exact e ▸ h1
  rcases List.mem_cons.mp hx with e | hx
  · exact e ▸ h2
  rcases List.mem_cons.mp hx with e | hx
  · exact e ▸ h3
  rcases List.mem_cons.mp hx with e | hx
  · exact e ▸ h4
  exact nomatch hx
theorem off_upd {R : Addr} {H : Hp} {o : HO} (a : Addr) : off R (off a (upd H R o)) = off R (off a H) := by
  funext b
  unfold off
  by_cases h : b = R
  · rw [if_pos h, if_pos h]
  · rw [if_neg h, if_neg h]
    by_cases h' : b = a
    · rw [if_pos h', if_pos h']
    · rw [if_neg h', if_neg h', upd_ne h]
theorem off_mono {R : Addr} {H H' : Hp} (s : Same H H') : Same (off R H) (off R H') := fun b o e => by
  unfold off at e ⊢
  by_cases h : b = R
  · rw [if_pos h] at e
    cases e
  · rw [if_neg h] at e ⊢
    exact s b o e

theorem dp_sbs {K : PySem.W.Frag} {H : Hp} : ∀ {vs : List V} {rows : List (List Bool)}, DpAll K H vs (rows.map fun r => PyData.str (sb r)) → vs = rows.map fun r => V.str (sb r)
  | _, [], .nil => rfl
  | _, _ :: _, .cons (.str _) t => by rw [List.map_cons, dp_sbs t]
/-! ### generators, as the document tells them -/
structure Wf (n m : Nat) (rows : List (List Bool)) : Prop where
  n1 : 1 ≤ n
  n2 : n ≤ 10
  m1 : 1 ≤ m
  m2 : m ≤ 40
  len : rows.length = 2 ^ n
  row : ∀ r ∈ rows, r.length = m
theorem bitRow_sb {m : Nat} {r : List Bool} (h : r.length = m) : bitRow (m : Int) (.str (sb r)) = true := by
  show (decide (((sb r).length : Int) = (m : Int)) && (sb r).cps.toList.all _) = true
  rw [sb_len, h, decide_eq_true rfl, Bool.true_and, List.all_eq_true]
  intro c hc
  have e : (sb r).cps.toList = r.map cB := by
    show ((r.map cB).toArray).toList = _
    simp
  rw [e] at hc
  obtain ⟨b, _, rfl⟩ := List.mem_map.mp hc
  cases b <;> rfl
theorem sb_bitRow {m : Int} {d : PyData} (h : bitRow m d = true) : ∃ r : List Bool, d = .str (sb r) ∧ (r.length : Int) = m := by
  cases d with
  | str x =>
    have h' : (decide ((x.length : Int) = m) && x.cps.toList.all (fun c => c == 48 || c == 49)) = true := h
    obtain ⟨h1, h2⟩ := Bool.and_eq_true_iff.mp h'
    have key : ∀ l : List Nat, l.all (fun c => c == 48 || c == 49) = true → ∃ r : List Bool, l = r.map cB := by
      intro l
      induction l with
      | nil => exact fun _ => ⟨[], rfl⟩
      | cons c l ih =>
        intro hl
        rw [List.all_cons, Bool.and_eq_true] at hl
        obtain ⟨r, e⟩ := ih hl.2
        rcases Bool.or_eq_true_iff.mp hl.1 with z | z
        · exact ⟨false :: r, by rw [e, beq_iff_eq.mp z]; rfl⟩
        · exact ⟨true :: r, by rw [e, beq_iff_eq.mp z]; rfl⟩
    obtain ⟨r, e⟩ := key _ h2
    have ex : x = sb r := TL.ext_tl (by
      show x.cps.toList = ((r.map cB).toArray).toList
      rw [e])
    refine ⟨r, by rw [ex], ?_⟩
    have := of_decide_eq_true h1
    rw [ex, sb_len] at this
    exact this
  | _ => cases h
theorem rows_ok {many m : Nat} {rows : List (List Bool)} (h1 : rows.length = many) (h2 : ∀ r ∈ rows, r.length = m) : rowsOk (rowsD rows) (many : Int) (m : Int) = true := by
  show (decide (((rows.map fun r => PyData.str (sb r)).length : Int) = (many : Int)) && (rows.map fun r => PyData.str (sb r)).all (bitRow (m : Int))) = true
  rw [List.length_map, h1, decide_eq_true rfl, Bool.true_and, List.all_eq_true]
  intro x hx
  obtain ⟨r, hr, rfl⟩ := List.mem_map.mp hx
  exact bitRow_sb (h2 r hr)
theorem ok_rowsD {many m : Int} {d : PyData} (h : rowsOk d many m = true) : ∃ rows : List (List Bool), d = rowsD rows ∧ (rows.length : Int) = many ∧ ∀ r ∈ rows, (r.length : Int) = m := by
  cases d with
  | tuple xs =>
    have h' : (decide ((xs.length : Int) = many) && xs.all (bitRow m)) = true := h
    obtain ⟨h1, h2⟩ := Bool.and_eq_true_iff.mp h'
    have key : ∀ l : List PyData, l.all (bitRow m) = true → ∃ rows : List (List Bool), l = rows.map (fun r => .str (sb r)) ∧ ∀ r ∈ rows, (r.length : Int) = m := by
      intro l
      induction l with
      | nil => exact fun _ => ⟨[], rfl, fun r hr => nomatch hr⟩
      | cons c l ih =>
        intro hl
        rw [List.all_cons, Bool.and_eq_true] at hl
        obtain ⟨rows, e, hr⟩ := ih hl.2
        obtain ⟨r, er, hl'⟩ := sb_bitRow hl.1
        refine ⟨r :: rows, by rw [e, er]; rfl, fun x hx => ?_⟩
        rcases List.mem_cons.mp hx with z | z
        · rw [z]
          exact hl'
        · exact hr x z
    obtain ⟨rows, e, hr⟩ := key _ h2
    refine ⟨rows, by rw [e]; rfl, ?_, hr⟩
    have := of_decide_eq_true h1
    rw [e, List.length_map] at this
    exact this
  | _ => cases h
theorem wf_gen {n m : Nat} {rows : List (List Bool)} (h : Wf n m rows) : genOk (tabD n m rows) = true := by
  have e1 : whole (.int (n : Int)) 1 10 = true := by
    show (decide _ && decide _) = true
    rw [decide_eq_true (show (1 : Int) ≤ (n : Int) by have := h.n1; omega), decide_eq_true (show (n : Int) ≤ 10 by have := h.n2; omega)]
    rfl
  have e2 : whole (.int (m : Int)) 1 40 = true := by
    show (decide _ && decide _) = true
    rw [decide_eq_true (show (1 : Int) ≤ (m : Int) by have := h.m1; omega), decide_eq_true (show (m : Int) ≤ 40 by have := h.m2; omega)]
    rfl
  have e3 : genRows (.int (n : Int)) (.int (m : Int)) (rowsD rows) = true := by
    show rowsOk (rowsD rows) (1 * 2 ^ (n : Int).toNat) (m : Int) = true
    rw [shl_one]
    exact rows_ok h.len h.row
  show genOk (.tuple [.str "generator", .int (n : Int), .int (m : Int), rowsD rows]) = true
  rw [gen_eq, e1, e2, e3]
  decide +kernel
theorem named_iff {x : Str} {d : PyData} (h : named x d = true) : d = .str x := by
  cases d with
  | str y =>
    have h' : (y == x) = true := h
    rw [beq_iff_eq.mp h']
  | _ => cases h
theorem gen_wf {d : PyData} (h : genOk d = true) : ∃ (n m : Nat) (rows : List (List Bool)), d = tabD n m rows ∧ Wf n m rows := by
  unfold genOk at h
  split at h
  · rename_i k n m r
    obtain ⟨g3, h4⟩ := Bool.and_eq_true_iff.mp h
    obtain ⟨g2, h3⟩ := Bool.and_eq_true_iff.mp g3
    obtain ⟨h1, h2⟩ := Bool.and_eq_true_iff.mp g2
    obtain ⟨n, rfl, n1, n2⟩ := whole_int h2
    obtain ⟨m, rfl, m1, m2⟩ := whole_int h3
    obtain ⟨n, rfl⟩ : ∃ k : Nat, n = (k : Int) := ⟨n.toNat, by omega⟩
    obtain ⟨m, rfl⟩ : ∃ k : Nat, m = (k : Int) := ⟨m.toNat, by omega⟩
    have h4' : rowsOk r (1 * 2 ^ (n : Int).toNat) (m : Int) = true := h4
    rw [shl_one] at h4'
    obtain ⟨rows, rfl, hl, hr⟩ := ok_rowsD h4'
    refine ⟨n, m, rows, by rw [named_iff h1]; rfl, by omega, by omega, by omega, by omega, by omega, fun r hr' => by have := hr r hr'; omega⟩
  · cases h
theorem fun_no_gen {d : PyData} (h : funOk d = true) : genOk d = false ∧ ∃ ds, d = .tuple (.str "function" :: ds) := by
  unfold funOk at h
  split at h
  · rename_i k n l m t
    have h1 : named "function" k = true := by
      obtain ⟨h, _⟩ := Bool.and_eq_true_iff.mp h
      obtain ⟨h, _⟩ := Bool.and_eq_true_iff.mp h
      obtain ⟨h, _⟩ := Bool.and_eq_true_iff.mp h
      obtain ⟨h, _⟩ := Bool.and_eq_true_iff.mp h
      exact (Bool.and_eq_true_iff.mp h).1
    have e := named_iff h1
    subst e
    exact ⟨gen_no (by show ¬ 5 = 4; decide), _, rfl⟩
  · cases h
theorem wf_block {n m : Nat} {rows : List (List Bool)} (h : Wf n m rows) : blockOk (tabD n m rows) = true := by
  unfold blockOk
  rw [wf_gen h]
  rfl
/-- data of tuples, texts and numbers alone -/
def Pl : Nat → PyData → Prop
  | 0, d => match d with
    | .int _ => True
    | .str x => okT x
    | _ => False
  | n + 1, d => match d with
    | .int _ => True
    | .str x => okT x
    | .tuple xs => xs.length ≤ 5000 ∧ ∀ x ∈ xs, Pl n x
    | _ => False
theorem pl_str {n : Nat} {x : Str} : Pl n (.str x) ↔ okT x := by cases n <;> exact Iff.rfl
theorem pl_int {n : Nat} {i : Int} : Pl n (.int i) := by cases n <;> trivial
theorem pl_tup {n : Nat} {xs : List PyData} (h : Pl n (.tuple xs)) : xs.length ≤ 5000 ∧ ∃ m, n = m + 1 ∧ ∀ x ∈ xs, Pl m x := by
  cases n with
  | zero => exact h.elim
  | succ n => exact ⟨h.1, n, rfl, h.2⟩
theorem pl_gd : ∀ {n : Nat} {d : PyData}, Pl n d → Gd n d
  | 0, .int _, _ => trivial
  | 0, .str _, h => h
  | n + 1, .int _, _ => trivial
  | n + 1, .str _, h => h
  | n + 1, .tuple xs, h => ⟨h.1, fun x hx => pl_gd (h.2 x hx)⟩
theorem dp_offs {K : PySem.W.Frag} {a d : Addr} {H : Hp} (hh : Hnd H a d) : ∀ {n : Nat} {D : PyData} {v : V}, Pl n D → Dp K H v D → Dp K (off a H) v D
  | 0, .int _, _, _, .int i => .int i
  | 0, .str _, _, _, .str x => .str x
  | n + 1, .int _, _, _, .int i => .int i
  | n + 1, .str _, _, _, .str x => .str x
  | n + 1, .tuple xs, _, h, .tup hT hA => .tup (sqt_off hh hT) (go h.2 hA)
where go {n : Nat} : ∀ {xs : List PyData} {vs : List V}, (∀ x ∈ xs, Pl n x) → DpAll K H vs xs → DpAll K (off a H) vs xs
  | [], _, _, .nil => .nil
  | x :: xs, _, h, .cons hv t => .cons (dp_offs hh (h x List.mem_cons_self) hv) (go (fun y hy => h y (List.mem_cons_of_mem _ hy)) t)
theorem okT_sb {r : List Bool} (h : r.length ≤ 5000) : okT (sb r) := by
  refine ⟨?_, by rw [sb_len]; exact h⟩
  unfold PySem.PyData.strOk
  rw [← Array.all_toList, List.all_eq_true]
  intro c hc
  have e : (sb r).cps.toList = r.map cB := by
    show ((r.map cB).toArray).toList = _
    simp
  rw [e] at hc
  obtain ⟨b, _, rfl⟩ := List.mem_map.mp hc
  cases b <;> decide
theorem pl_tab {n m : Nat} {rows : List (List Bool)} (h1 : rows.length ≤ 5000) (h2 : ∀ r ∈ rows, r.length ≤ 5000) : Pl 2 (tabD n m rows) := by
  refine ⟨by show 4 ≤ 5000; decide, fun x hx => ?_⟩
  rcases List.mem_cons.mp hx with e | hx
  · rw [e]
    exact pl_str.mpr ⟨by decide +kernel, by decide +kernel⟩
  rcases List.mem_cons.mp hx with e | hx
  · rw [e]
    exact pl_int
  rcases List.mem_cons.mp hx with e | hx
  · rw [e]
    exact pl_int
  rcases List.mem_cons.mp hx with e | hx
  · rw [e]
    refine ⟨by rw [List.length_map]; exact h1, fun y hy => ?_⟩
    obtain ⟨r, hr, rfl⟩ := List.mem_map.mp hy
    exact pl_str.mpr (okT_sb (h2 r hr))
  exact nomatch hx
theorem Wf.pl {n m : Nat} {rows : List (List Bool)} (h : Wf n m rows) : Pl 2 (tabD n m rows) := by
  have h2 := two_pow_le (b := 10) h.n2
  have h1 := h.len
  exact pl_tab (by omega) fun r hr => by
    have := h.row r hr
    have := h.m2
    omega
/-- where a generator stands -/
theorem dp_tab {K : PySem.W.Frag} {H : Hp} {v : V} {n m : Nat} {rows : List (List Bool)} (h : Dp K H v (tabD n m rows)) : ∃ a r, v = .ref a ∧ SqT K H a [.str "generator", .int (n : Int), .int (m : Int), .ref r] ∧ SqT K H r (rows.map fun r => V.str (sb r)) := by
  cases h with
  | @tup a ws _ hT hA =>
    cases hA with
    | cons h0 hA =>
      cases hA with
      | cons h1 hA =>
        cases hA with
        | cons h2 hA =>
          cases hA with
          | cons h3 hA =>
            cases hA
            cases h0
            cases h1
            cases h2
            cases h3 with
            | @tup r us _ hR hU => exact ⟨a, r, rfl, hT, by rw [← dp_sbs hU]; exact hR⟩
theorem tab_dp {K : PySem.W.Frag} {H : Hp} {a r : Addr} {n m : Nat} {rows : List (List Bool)} (h1 : SqT K H a [.str "generator", .int (n : Int), .int (m : Int), .ref r]) (h2 : SqT K H r (rows.map fun r => V.str (sb r))) : Dp K H (.ref a) (tabD n m rows) :=
  .tup h1 (.cons (.str _) (.cons (.int _) (.cons (.int _) (.cons (.tup h2 (dp_bits rows)) .nil))))

/-! ### data compared with a text or an empty tuple, of any depth -/
def rEqF (K : PySem.W.Frag) : R2 := fun x y H Q => ∃ d e, Dp K H x d ∧ Dp K H y e ∧ d.canLay0 = true ∧ e.canLay0 = true ∧ e.depth ≤ 8 ∧ Q (.bl (PyData.eqv d e)) H
def rNeF (K : PySem.W.Frag) : R2 := fun x y H Q => ∃ d e, Dp K H x d ∧ Dp K H y e ∧ d.canLay0 = true ∧ e.canLay0 = true ∧ e.depth ≤ 8 ∧ Q (.bl (!PyData.eqv d e)) H
/-- a dict that the module's top has written: its keys, and what each holds -/
inductive KeysAre (R : Str → Value → Prop) : List DictEntry → List Str → Prop where
  | nil : KeysAre R [] []
  | cons {e : DictEntry} {k : Str} {t : Tok} {es : List DictEntry} {ks : List Str} (h : e.key = .str k t) (r : R k e.val) (q : KeysAre R es ks) : KeysAre R (e :: es) (k :: ks)
/-- the values of a dict: what is told of each can be said of a value of the proof's own -/
def HasV (R : Str → Value → Prop) : Prop := ∀ z u, R z u → ∃ v, RelV v u
structure DictK (K : PySem.W.Frag) (w : World) (d : Addr) (ks : List Str) (R : Str → Value → Prop) : Prop where
  ex : ∃ es n, KDict K w d es n ∧ KeysAre R es.toList ks
  has : HasV R
theorem keys_isStr {k z : Str} {t : Tok} : (Value.str k t).isStr z = decide (k = z) := by
  show (k == z) = _
  by_cases h : k = z
  · rw [decide_eq_true h, h]
    exact beq_self_eq_true z
  · rw [decide_eq_false h]
    exact beq_eq_false_iff_ne.mpr h
theorem keys_no {R : Str → Value → Prop} {z : Str} : ∀ {es : List DictEntry} {ks : List Str}, KeysAre R es ks → z ∉ ks → es.find? (·.key.isStr z) = none ∧ es.any (·.refKey) = false
  | _, _, .nil, _ => ⟨rfl, rfl⟩
  | _, _, .cons (e := e) (k := k) h r q, hz => by
    obtain ⟨h1, h2⟩ := keys_no q fun m => hz (List.mem_cons_of_mem _ m)
    have hk : e.key.isStr z = false := by
      rw [h, keys_isStr]
      exact decide_eq_false fun m => hz (m ▸ List.mem_cons_self)
    have hr : e.refKey = false := by
      unfold DictEntry.refKey
      rw [h]
    exact ⟨by rw [List.find?_cons, hk]; exact h1, by rw [List.any_cons, hr, h2]; rfl⟩
theorem keys_yes {R : Str → Value → Prop} {z : Str} : ∀ {es : List DictEntry} {ks : List Str}, KeysAre R es ks → z ∈ ks → ∃ e, es.find? (·.key.isStr z) = some e ∧ R z e.val
  | _, _, .cons (e := e) (k := k) h r q, hz => by
    by_cases hk : k = z
    · refine ⟨e, ?_, hk ▸ r⟩
      rw [List.find?_cons, h, keys_isStr, decide_eq_true hk]
    · rcases List.mem_cons.mp hz with m | m
      · exact absurd m.symm hk
      · obtain ⟨e', h1, h2⟩ := keys_yes q m
        refine ⟨e', ?_, h2⟩
        rw [List.find?_cons, h, keys_isStr, decide_eq_false hk]
        exact h1
theorem nsIn_no {K : PySem.W.Frag} {w : World} {d : Addr} {es : Array DictEntry} {n : Nat} {R : Str → Value → Prop} {ks : List Str} {z : Str} (D : KDict K w d es n) (q : KeysAre R es.toList ks) (hz : z ∉ ks) : PySem.W.nsIn K d z = some none := by
  obtain ⟨h1, h2⟩ := keys_no q hz
  unfold PySem.W.nsIn
  rw [D.at_]
  dsimp only
  rw [h1]
  dsimp only
  rw [h2]
  rfl
theorem nsIn_yes {K : PySem.W.Frag} {w : World} {d : Addr} {es : Array DictEntry} {n : Nat} {R : Str → Value → Prop} {ks : List Str} {z : Str} (D : KDict K w d es n) (q : KeysAre R es.toList ks) (hz : z ∈ ks) : ∃ u, PySem.W.nsIn K d z = some (some u) ∧ R z u := by
  obtain ⟨e, h1, h2⟩ := keys_yes q hz
  refine ⟨e.val, ?_, h2⟩
  unfold PySem.W.nsIn
  rw [D.at_]
  dsimp only
  rw [h1]
def rInDk (d : Addr) (ks : List Str) : R2 := fun x y H Q => ∃ z : Str, x = .str z ∧ y = .ref d ∧ Q (.bl (decide (z ∈ ks))) H
def rIxDk (d : Addr) (ks : List Str) (R : Str → Value → Prop) : R2 := fun x y H Q => ∃ z : Str, x = .ref d ∧ y = .str z ∧ z ∈ ks ∧ ∀ v u, RelV v u → R z u → Q v H
section
variable {X : Cx}
theorem op_eqF (K : PySem.W.Frag) (hu : X.A.units + 64 < cLine) (h : X.K = K := by rfl) : OpR X (compareOp .Eq) (rEqF K) := by
  subst h
  intro pins s σ H x y v u Q I rx ry h
  obtain ⟨d, e, hd, he, sd, se, hdep, q⟩ := h
  obtain ⟨as, r1⟩ := Dp.reads I d x v hd rx
  obtain ⟨bs, r2⟩ := Dp.reads I e y u he ry
  exact SeqAt.compareEq_reads r1 r2 sd se (by have := Nat.min_le_right d.depth e.depth; omega) ⟨.bl _, H, I, rfl, q⟩
theorem op_neF (K : PySem.W.Frag) (hu : X.A.units + 64 < cLine) (h : X.K = K := by rfl) : OpR X (compareOp .NotEq) (rNeF K) := by
  subst h
  intro pins s σ H x y v u Q I rx ry h
  obtain ⟨d, e, hd, he, sd, se, hdep, q⟩ := h
  obtain ⟨as, r1⟩ := Dp.reads I d x v hd rx
  obtain ⟨bs, r2⟩ := Dp.reads I e y u he ry
  exact SeqAt.compareNe_reads r1 r2 sd se (by have := Nat.min_le_right d.depth e.depth; omega) ⟨.bl _, H, I, rfl, q⟩
theorem in_dk {d : Addr} {ks : List Str} {R : Str → Value → Prop} (D : DictK X.K X.w d ks R) : OpR X (compareOp .In) (rInDk d ks) := by
  obtain ⟨es, n, kd, ka⟩ := D.ex
  intro pins s σ H x y v u Q I rx ry h
  obtain ⟨z, rfl, rfl, q⟩ := h
  by_cases hz : z ∈ ks
  · obtain ⟨u', e, _⟩ := nsIn_yes kd ka hz
    rw [decide_eq_true hz] at q
    exact op_in_kd kd pins s σ H _ _ v u Q I rx ry ⟨z, some u', rfl, rfl, e, q⟩
  · rw [decide_eq_false hz] at q
    exact op_in_kd kd pins s σ H _ _ v u Q I rx ry ⟨z, none, rfl, rfl, nsIn_no kd ka hz, q⟩
theorem ix_dk {d : Addr} {ks : List Str} {R : Str → Value → Prop} (D : DictK X.K X.w d ks R) : IxR X (rIxDk d ks R) := by
  have hv := D.has
  obtain ⟨es, n, kd, ka⟩ := D.ex
  intro value slice pins s σ H x y v u Q I rx ry h hs
  obtain ⟨z, rfl, rfl, hz, q⟩ := h
  obtain ⟨u', e, r⟩ := nsIn_yes kd ka hz
  obtain ⟨v', rv⟩ := hv z u' r
  exact ix_kdict value slice pins s σ H _ _ v u Q I rx ry ⟨d, z, v', rfl, rfl, ⟨es, n, u', kd.at_, kd.lit, e, rv⟩, q v' u' rv r⟩ hs
/-- a local name that holds one of several defs -/
def tCallH (i : Nat) (R : Addr → Sp → Prop) (t : TA) : TE := fun σ H Q => ∃ f sp, σ[i]? = some (some (.ref f)) ∧ R f sp ∧ t σ H fun vs H1 => sp vs H1 Q (fun _ _ _ => False)
theorem pe_callH {k j i : Nat} {R : Addr → Sp → Prop} {x : Str} {p pos : Pos} {e : Expr} {es : List Expr} {t : TA} (A : ∀ f sp, R f sp → Held X.prog X.w X.K X.mg X.base k f sp) (hr : Room j X.A) (hk : k ≤ j) (hN : X.N[i]? = some x) (hv : Vis X.env.scope x) (ha : PA X (e :: es) t)
    (hdb : (x == ("__debug__" : Str)) = false := by decide) (hcd : (x == ("__classdict__" : Str)) = false := by decide)
    (he : starEach (e :: es) X.env = (false, eval e X.env) :: starEach es X.env := by rfl) (hpl : (backTo pos (starEach es X.env)).any (·.1) = false := by rfl) : PE X (.Call (.Name x p) (e :: es) [] pos) (tCallH i R t) :=
  ⟨fun pins s σ H Q I h => by
    obtain ⟨f, sp, h1, h2, h3⟩ := h
    exact (pe_callA (S := fun f' => if f' = f then some sp else none) (fun f' sp' q => by
      by_cases z : f' = f
      · rw [if_pos z] at q
        rw [z, ← Option.some.inj q]
        exact A f sp h2
      · rw [if_neg z] at q
        cases q) (hr.mono hk) hN hv ha hdb hcd he hpl).run pins s σ H Q I ⟨f, sp, h1, if_pos rfl, h3⟩⟩
end
theorem walk_zipT {K : PySem.W.Frag} {a b : Addr} {xs ys : List V} {n : Nat} (hx : xs.length = n) (hy : ys.length = n) : Walk (RZ.ItzT K a b) n (fun H => SqT K H a xs ∧ SqT K H b ys) (YPair (fun i => xs[i]?) (fun i => ys[i]?)) where
  goes := fun i _ hi q => ⟨xs, ys, xs[i]'(by omega), ys[i]'(by omega), q.1, q.2, List.getElem?_eq_getElem _, List.getElem?_eq_getElem _⟩
  stops := fun _ q => ⟨xs, ys, q.1, q.2, .inl (by omega)⟩
  yields := fun i H v H' _ q y => by
    obtain ⟨T, x, z, h1, h2, h3, h4, h5⟩ := y
    exact ⟨T, x, z, h1, h2, h3, h4 xs q.1, h5 ys q.2⟩
/-! ### facts of data -/
theorem gd_lay {n : Nat} {d : PyData} (h : Gd n d) : d.canLay0 = true := (gd_facts h).1
theorem named_str {x z : Str} : named x (.str z) = decide (z = x) := by
  show (PyData.eqv (.str z) (.str x)) = _
  simp only [PyData.eqv]
  by_cases h : z = x
  · rw [decide_eq_true h, h]
    exact beq_self_eq_true x
  · rw [decide_eq_false h]
    exact beq_eq_false_iff_ne.mpr h
theorem eqv_nil {xs : List PyData} : PyData.eqv (.tuple xs) (.tuple []) = xs.isEmpty := by
  cases xs <;> simp [PyData.eqv, PyData.eqvAll]
theorem str_lay (x : Str) (h : PySem.PyData.strOk x = true := by decide +kernel) : PyData.canLay0 (.str x) = true := by
  unfold PyData.canLay0
  exact h
theorem str_dep (x : Str) : PyData.depth (.str x) ≤ 8 := by
  unfold PyData.depth
  omega
theorem nil_lay : PyData.canLay0 (.tuple []) = true := by decide +kernel
theorem nil_dep : PyData.depth (.tuple []) ≤ 8 := by decide +kernel

/-! ### what a breaker is -/
def numL : List (Str × List (Int × Int)) := [("marks", [(1, 40), (1, 40)]), ("secrets", [(1, 40), (1, 40)]), ("once", [(1, 40)]), ("counter", [(1, 40), (1, 256), (1, 40)]), ("cut", [(1, 40)]), ("next", [(1, 40)]), ("guess", [(1, 40)]), ("bit", []), ("hard", [(1, 10)])]
def numK : List Str := ["marks", "secrets", "once", "counter", "cut", "next", "guess", "bit", "hard"]
def fitK : List Str := ["longer", "tree", "opening", "onetime"]
def numOf (z : Str) : List (Int × Int) := ((numL.find? fun p => decide (p.1 = z)).map (·.2)).getD []
def madeZ (z : Str) : Bool := decide (z ∈ numK) || decide (z ∈ fitK)
def madeD : PyData → Bool
  | .tuple (.str z :: _) => madeZ z
  | _ => false
def numsOk : List PyData → List (Int × Int) → Bool
  | [], [] => true
  | d :: ds, b :: bs => whole d b.1 b.2 && numsOk ds bs
  | _, _ => false
def pairD (b : Int × Int) : PyData := .tuple [.int b.1, .int b.2]
def pairsD (bs : List (Int × Int)) : PyData := .tuple (bs.map pairD)
def genNext : PyData → Bool
  | .tuple [_, .int n, .int m, _] => decide (m = n + 1)
  | _ => false
def genTwice (d q : PyData) : PyData → Bool
  | .tuple [_, .int n, .int m, _] => decide (m = 2 * n) && (decide (n ≤ 8) && (whole d 1 (if 12 - n < 8 then 12 - n else 8) && whole q 1 1000))
  | _ => false
def fitLonger : List PyData → Bool
  | [g, k] => genOk g && (genNext g && whole k 1 20)
  | _ => false
def fitTree : List PyData → Bool
  | [g, d, q] => genOk g && genTwice d q g
  | _ => false
def fitOpening : List PyData → Bool
  | [.str x] => decide ((1 : Int) ≤ (x.length : Int)) && (decide ((x.length : Int) ≤ 40) && rowsOk (.tuple [.str x]) 1 (x.length : Int))
  | _ => false
def fitOnetime : List PyData → Bool
  | [f, l] => genOk f && whole l 1 4
  | _ => false
def fitZ (z : Str) (own : List PyData) : Bool :=
  if z ∈ numK then numsOk own (numOf z) else if z = "longer" then fitLonger own else if z = "tree" then fitTree own else if z = "opening" then fitOpening own else fitOnetime own
def fitsD : PyData → Bool
  | .tuple (.str z :: r) => fitZ z r.dropLast
  | _ => false
def lastD : PyData → PyData
  | .tuple xs => xs.getLastD .none
  | _ => .none
def headIs (x : Str) : PyData → Bool
  | .tuple (k :: _) => named x k
  | _ => false
def partOk : PyData → Bool
  | .str x => decide (x = "0") || decide (x = "1")
  | d => whole d 0 9999
def partsOk : PyData → Bool
  | .tuple xs => xs.all partOk
  | _ => false
def sayOk : List PyData → Bool
  | [p] => partsOk p
  | _ => false
def tossOk : List PyData → Bool
  | [.tuple xs] => decide ((1 : Int) ≤ (xs.length : Int)) && decide ((xs.length : Int) ≤ 64)
  | _ => false
def lookOk : List PyData → Bool
  | [n, _, _] => whole n 0 9999
  | _ => false
def askOk : List PyData → Bool
  | [p, _] => partsOk p
  | _ => false
def looksOk : PyData → Bool
  | .tuple (k :: r) => if named "say" k then sayOk r else if named "toss" k then tossOk r else if named "look" k then lookOk r else named "ask" k && askOk r
  | _ => false
def kidsD : PyData → List PyData
  | .tuple (k :: r) => if named "toss" k then (match r with
    | .tuple xs :: _ => xs
    | _ => []) else r.drop 1
  | _ => []
def okN : Nat → PyData → Bool
  | 0, _ => false
  | n + 1, d => looksOk d && (kidsD d).all (okN n)
def szN : Nat → PyData → Nat
  | 0, _ => 1
  | n + 1, d => 1 + ((kidsD d).map (szN n)).sum
def plainOk (d : PyData) : Bool := okN 60 d && decide (szN 60 d ≤ 2001)
def chk : Nat → PyData → Bool
  | n, d => if madeD d then (match n with
    | 0 => false
    | m + 1 => fitsD d && (!(headIs "onetime" d && madeD (lastD d)) && chk m (lastD d))) else plainOk d
def brOk (d : PyData) : Bool := chk 20 d
/-! ### promises -/
def spD (K : PySem.W.Frag) (g : PyData → Bool) : Sp := fun vs H Q _ => ∃ (v : V) (d : PyData) (n : Nat), vs = [v] ∧ Dp K H v d ∧ Gd n d ∧ ∀ H', Same H H' → Q (.bl (g d)) H'
def spOwn (K : PySem.W.Frag) (g : List PyData → Bool) : Sp := fun vs H Q _ => ∃ (v : V) (ds : List PyData) (n : Nat), vs = [v] ∧ Dp K H v (.tuple ds) ∧ Gd n (.tuple ds) ∧ ∀ H', Same H H' → Q (.bl (g ds)) H'
def spNums (K : PySem.W.Frag) : Sp := fun vs H Q _ => ∃ (v y : V) (ds : List PyData) (bs : List (Int × Int)) (n : Nat), vs = [v, y] ∧ Dp K H v (.tuple ds) ∧ Gd n (.tuple ds) ∧ Dp K H y (pairsD bs) ∧ bs.length ≤ 100 ∧ ∀ H', Same H H' → Q (.bl (numsOk ds bs)) H'
def spKids (K : PySem.W.Frag) : Sp := fun vs H Q _ => ∃ (v : V) (d : PyData) (n : Nat) (G : Hp), vs = [v] ∧ Same G H ∧ Dp K G v d ∧ Gd n d ∧ looksOk d = true ∧ ∀ a us H', Same H H' → SqT K H' a us → DpAll K G us (kidsD d) → Q (.ref a) H'
def spCheckB (K : PySem.W.Frag) (C : Addr) : Sp := fun vs H Q E => ∃ (v : V) (d : PyData) (n : Nat), vs = [v] ∧ Dp K H v d ∧ Gd n d ∧ ∀ H', Same H H' → (brOk d = true → Q .non H') ∧ (brOk d = false → E (.ref C) none H')
/-- what the dicts of the made breakers hold -/
def numR (K : PySem.W.Frag) : Str → Value → Prop := fun z u => ∃ a, u = .ref a ∧ ∀ H, Dp K H (.ref a) (pairsD (numOf z))
def fitR (mg : Str → Option Value) : Str → Value → Prop := fun z u => ∃ f, u = .ref f ∧ ((z = "longer" ∧ mg "fits_longer" = some (.ref f)) ∨ (z = "tree" ∧ mg "fits_tree" = some (.ref f)) ∨ (z = "opening" ∧ mg "fits_opening" = some (.ref f)) ∨ (z = "onetime" ∧ mg "fits_onetime" = some (.ref f)))

/-! ### whole numbers and truth values alike -/
def wI : V → Option Int
  | .int i => some i
  | .bl b => some (b2i b)
  | _ => none
section
variable {X : Cx}
def rAddW : R2 := fun x y H Q => ∃ i j, wI x = some i ∧ y = .int j ∧ Q (.int (i + j)) H
def rSubW : R2 := fun x y H Q => ∃ i j, wI x = some i ∧ y = .int j ∧ Q (.int (i - j)) H
theorem op_addW : OpR X (binaryOp .Add) rAddW := by
  intro pins s σ H x y v u Q I rx ry h
  obtain ⟨i, j, hx, rfl, q⟩ := h
  obtain ⟨t', rfl⟩ := ry
  cases x with
  | int k =>
    cases hx
    obtain ⟨t, rfl⟩ := rx
    exact add_int ⟨.int _, H, I.tok _, ⟨_, rfl⟩, q⟩
  | bl b =>
    cases hx
    cases rx
    exact PySem.IntBool.add_bool_int ⟨.int _, H, I.tok _, ⟨_, rfl⟩, q⟩
  | _ => cases hx
theorem op_subW : OpR X (binaryOp .Sub) rSubW := by
  intro pins s σ H x y v u Q I rx ry h
  obtain ⟨i, j, hx, rfl, q⟩ := h
  obtain ⟨t', rfl⟩ := ry
  cases x with
  | int k =>
    cases hx
    obtain ⟨t, rfl⟩ := rx
    exact sub_int ⟨.int _, H, I.tok _, ⟨_, rfl⟩, q⟩
  | bl b =>
    cases hx
    cases rx
    exact PySem.IntBool.sub_bool_int ⟨.int _, H, I.tok _, ⟨_, rfl⟩, q⟩
  | _ => cases hx
theorem gives_neg_bool (a : Bool) : Gives (Builtin.«int.__neg__» ⟨[.bool a], []⟩) (.int (-(if a = true then (1 : Int) else 0))) :=
  .of_wp fun M A E s Q h => by obtain ⟨hp, g, d, tk, os⟩ := s; wp_walk; exact ⟨_, rfl, h⟩
theorem neg_boolW {prog : Program} {w : World} {A : Around} {E : Value → Shared → Prop} {s : Shared} {a : Bool} {Q : Value → Shared → Prop} (h : Q (.int (-(if a = true then (1 : Int) else 0)) s.toks) { s with toks := s.toks + 1 }) : wpAny (model prog w) A (unaryOp .USub (.bool a)) Q E s :=
  unaryOp_gives (op := .USub) (T := "bool") rfl rfl F.slot_bool_neg F.entry_int_neg (F.args_int_neg_1 _) (gives_neg_bool a) h
def rNegW : V → Hp → VK → Prop := fun x H Q => ∃ i, wI x = some i ∧ Q (.int (-i)) H
theorem un_negW : UnR X (unaryOp .USub) rNegW := by
  intro pins s σ H x v Q I rx h
  obtain ⟨i, hx, q⟩ := h
  cases x with
  | int k =>
    cases hx
    obtain ⟨t, rfl⟩ := rx
    exact neg_int ⟨.int _, H, I.tok _, ⟨_, rfl⟩, q⟩
  | bl b =>
    cases hx
    cases rx
    exact neg_boolW ⟨.int _, H, I.tok _, ⟨_, rfl⟩, q⟩
  | _ => cases hx
def rStrW : List V → Hp → VK → Prop := fun xs H Q => (∃ i, xs = [.int i] ∧ i.natAbs.log2 < 1920 ∧ Q (.str (toString i)) H) ∨ ∃ b, xs = [.bl b] ∧ Q (.str (if b then "True" else "False")) H
theorem call_strW : CallR X (.type "str") rStrW := by
  intro pins s σ H xs us Q I r h
  rcases h with ⟨i, rfl, hz, q⟩ | ⟨b, rfl, q⟩
  · obtain ⟨u, rfl, t, rfl⟩ := vals1 r
    exact PySem.P.str_of_int hz ⟨.str _, H, I.tok _, ⟨_, rfl⟩, q⟩
  · obtain ⟨u, rfl, r1⟩ := vals1 r
    cases r1
    exact PySem.P.str_of_bool ⟨.str _, H, I.tok _, ⟨_, rfl⟩, q⟩
end

theorem pss_when {X : Cx} {b : List Stmt} {cls : Value} {d : Option Addr} {C : Addr} {oe : Obj} {t : TS} (hz : Zc cls d oe) (h : Zc (.ref C) none oe → PSs X b t) : PSs X b (fun D σ H => (cls = .ref C ∧ d = none) ∧ t D σ H) := by
  refine ⟨fun pins s σ H D I q => ?_⟩
  obtain ⟨⟨e1, e2⟩, q⟩ := q
  subst e1
  subst e2
  exact (h hz).run pins s σ H D I q

/-! ### (z,) * k, k from 1 on -/
def rRep1 (K : PySem.W.Frag) : R2 := fun x y H Q => ∃ (l : Addr) (k : Int) (z : V), x = .ref l ∧ y = .int k ∧ SqT K H l [z] ∧ 1 ≤ k ∧ k ≤ 5000 ∧ ∀ p H', Same H H' → SqT K H' p (List.replicate k.toNat z) → Q (.ref p) H'
theorem tuple_once (l : Addr) (z : Value) (n : Nat) (dd : Option Addr) (sl : Array (Option Value)) (u : Tok) :
    Meets (Builtin.«tuple.__mul__» ⟨[.ref l, .int 1 u], []⟩) (fun _ R s => s.heap.get? l = some { cls := .type "tuple", dict := dd, data := .seq #[z] n, slots := sl } ∧ R (.ok (.ret (.ref l))) s) :=
  .of_wp fun prog w A R s h => by
    obtain ⟨hp, g, d, tk, os⟩ := s
    obtain ⟨hl, h⟩ := h
    have idx := AutoSeq1.idx_int
    wp_walk using wpAny_loadPart' hl
    exact ⟨_, rfl, h⟩
section
variable {X : Cx}
theorem op_rep1 (K : PySem.W.Frag) (hK : X.K = K := by rfl) : OpR X (binaryOp .Mult) (rRep1 K) := by
  subst hK
  intro pins s σ H x y v u Q I rx ry h
  obtain ⟨l, k, z, rfl, rfl, hT, h1, h2, q⟩ := h
  cases rx
  obtain ⟨t, rfl⟩ := ry
  obtain ⟨its, rz, ⟨⟨cls, dd, data, sl⟩, ho, hc, n, hd⟩, hs⟩ := I.tuple hT
  dsimp only at hc hd
  subst hc hd
  match its, rz with
  | [w], .cons rw' .nil =>
    -- what the slot of the tuple must do
    have road : ∀ {Q' : Value → Shared → Prop}, wpAny (model X.prog X.w) X.A (call (.builtin "tuple.__mul__") [.ref l, .int k t]) Q' X.xe s →
        wpAny (model X.prog X.w) X.A (binaryOp .Mult (.ref l) (.int k t)) Q' X.xe s := fun {Q'} c =>
      wpAny_binaryOp_repeat_ref (U := "int") (T := "tuple") (by decide)
        ⟨_, ho, rfl⟩ (fun s' => typeIs_int s' k t)
        noFill_tuple_mul F.fills_int_mul
        F.slot_int_rmul repeat_tuple
        F.slot_int_index.lookup
        (call_meets F.slot_int_rmul (typeIs_int s k t)
          F.entry_int_rmul (F.args_int_rmul_2 _ _)
          (int_rmul_tuple k t l _ n dd sl)
          ⟨ho, rfl, ⟨_, ho, rfl⟩, c⟩)
    refine road ?_
    by_cases one : k = 1
    · subst one
      refine call_meets F.slot_tuple_mul ⟨_, ho, rfl⟩
        F.entry_tuple_mul (F.args_tuple_mul_2 _ _)
        (tuple_once l w n dd sl t) ⟨ho, ?_⟩
      exact ⟨.ref l, H, I, rfl, q l H (Same.refl H) hT⟩
    · have a0 : (decide (k < -(2 ^ 63)) || decide (k ≥ 2 ^ 63)) = false := by
        rw [decide_eq_false (show ¬ k < -(2 ^ 63) by omega), Bool.false_or]
        exact decide_eq_false (by omega)
      have a1 : ((#[w] : Array Value).isEmpty || k == 1) = false := beq_eq_false_iff_ne.mpr one
      have a2 : (decide (k ≤ 0) || (#[w] : Array Value).isEmpty) = false := by
        rw [decide_eq_false (show ¬ k ≤ 0 by omega)]
        rfl
      have sz : (((#[w] : Array Value).size : Nat) : Int) = 1 := rfl
      have a4 : Builtin.Tuple.tupleTooMany ((((#[w] : Array Value).size : Nat) : Int) * k) = false := by
        rw [sz, Int.one_mul]
        unfold Builtin.Tuple.tupleTooMany
        exact decide_eq_false (by rw [sizeLine_eq]; omega)
      have len : (List.replicate k.toNat [w]).flatten.length = k.toNat := by
        rw [PyProof.Rows.lm_len_rep_flat]
        exact Nat.mul_one _
      refine call_meets F.slot_tuple_mul ⟨_, ho, rfl⟩
        F.entry_tuple_mul (F.args_tuple_mul_2 _ _)
        (tuple_mulW l #[w] n dd sl k t a0 a1 a2 (by rw [sz]; omega) a4 (by rw [show (#[w] : Array Value) = [w].toArray from rfl, size_rep, List.size_toArray, len, sizeLine_eq]; omega)) ⟨ho, ?_⟩
      rw [show (#[w] : Array Value) = [w].toArray from rfl, size_rep]
      have np := I.hok.fresh (Nat.le_refl s.heap.objs.size)
      have e1 : (List.replicate k.toNat [z]).flatten = List.replicate k.toNat z := by
        generalize k.toNat = j
        induction j with
        | zero => rfl
        | succ j ih => rw [List.replicate_succ, List.flatten_cons, ih, List.replicate_succ]; rfl
      refine ⟨.ref s.heap.objs.size, _, I.laid (t' := s.toks) (o := .tup (List.replicate k.toNat [z]).flatten) (fun _ _ g => Heap.get?_push_of_some _ g) (Nat.le_refl _) ?_, rfl, q _ _ (same_new np) (.inl (.inl (by rw [upd_same, e1])))⟩
      refine ⟨?_, _, (show Vals [z] [w] from .cons rw' .nil).rep k.toNat, IsTup.new _ _⟩
      rw [PyProof.Rows.lm_len_rep_flat, sizeLine_eq]
      show k.toNat * 1 ≤ _
      omega
end

/-! ### an own error that keeps a place -/
def spInit (K : PySem.W.Frag) (C : Addr) : Sp := fun vs H Q _ => ∃ (a : Addr) (y : V), vs = [.ref a, y] ∧ H a = some (exo a C none) ∧ ∀ dx, H dx = none → dx ≠ a → Q .non (upd (upd H dx (exd dx [("place", y)])) a (exo a C (some dx)))
structure Oin (P : Program) (w : World) (K : PySem.W.Frag) (mg : Str → Option Value) (base : Heap) (x : Str) (C : Addr) : Prop where
  ex : ∃ (fI : Addr) (fd : FuncData), PySem.W.findIn K (.ref C) "__init__" = some (some (.ref fI)) ∧ PySem.W.typeIn K (.ref fI) = some (.type "function") ∧ FnOk P w K mg base CX0 1 fI fd ["self", "place"] (spInit K C) ∧ Binds K fd ["self", "place"] []
  T : OexC K C
  gl : mg x = some (.ref C)
/-- behind the making -/
def MkAt (K : PySem.W.Frag) (C : Addr) (H1 : Hp) (y : V) (Q : XK) : Prop := [y].length ≤ 1000 ∧ ∀ a, H1 a = none → spInit K C (.ref a :: ([y] ++ [])) (upd H1 a (exo a C none))
  (fun v H2 => v = .non ∧ ∃ (d : Addr) (fs : List (Str × V)), H2 a = some (exo a C (some d)) ∧ H2 d = some (exd d fs) ∧ H1 d = none ∧ Q (.ref C) (some d) (upd (del H2 a) d (.xd fs))) (fun _ _ _ => False)
theorem raised {K : PySem.W.Frag} {C : Addr} {H1 : Hp} {y : V} {Q : XK} (q : ∀ d H', H' d = some (.xd [("place", y)]) → Same H1 H' → Q (.ref C) (some d) H') : MkAt K C H1 y Q := by
  refine ⟨by show 1 ≤ 1000; decide, fun a na => ⟨a, y, rfl, upd_same, fun dx nd ne => ⟨rfl, dx, [("place", y)], upd_same, ?_, ?_, ?_⟩⟩⟩
  · rw [upd_ne ne, upd_same]
  · rw [upd_ne ne] at nd
    exact nd
  · have nd1 : H1 dx = none := by
      rw [upd_ne ne] at nd
      exact nd
    refine q dx _ upd_same fun b u hb => ?_
    have b1 : b ≠ a := ne_of_none hb na
    have b2 : b ≠ dx := ne_of_none hb nd1
    rw [upd_ne b2, del_ne b1, upd_ne b1, upd_ne b2, upd_ne b1]
    exact hb
section
variable {X : Cx} {x : Str} {C : Addr} {e : Expr} {te : TE} {es : List Expr} {ta : TA} {p pos pos2 : Pos} {j : Nat} {W : WX}
theorem ps_raiseP (o : Oin X.prog X.w X.K X.mg X.base x C) (hc : X.calm = true) (tk : Takes X W) (hr : Room j X.A) (hj : 2 ≤ j) (hg : Gl X x) (ha : PA X (e :: es) ta)
    (hdb : (x == ("__debug__" : Str)) = false := by decide) (h1 : starEach (e :: es) X.env = (false, eval e X.env) :: starEach es X.env := by rfl) (hpl : (backTo pos (starEach es X.env)).any (·.1) = false := by rfl) :
    PS X (.Raise (some (.Call (.Name x p) (e :: es) [] pos)) none pos2) (fun _ σ H => tMkO C (spInit X.K C) [] ta σ H fun cls d H' => W cls d σ H') := by
  obtain ⟨fI, fd, i1, i2, F, hb⟩ := o.ex
  exact ps_raise hc tk (pmk_oex o.T i1 i2 F (hr.mono hj) hb .nil pass0 hg o.gl ha hdb h1 hpl)
/-- the error as a value -/
def tMkV (C : Addr) (ta : TA) : TE := fun σ H Q => ta σ H fun vs H1 => ∃ y, vs = [y] ∧ ∀ a d H', H1 a = none → H' a = some (exo a C (some d)) → H' d = some (exd d [("place", y)]) → Same H1 H' → Q (.ref a) H'
theorem pe_mkP (o : Oin X.prog X.w X.K X.mg X.base x C) (hr : Room j X.A) (hj : 2 ≤ j) (hg : Gl X x) (ha : PA X (e :: es) ta)
    (hdb : (x == ("__debug__" : Str)) = false := by decide) (h1 : starEach (e :: es) X.env = (false, eval e X.env) :: starEach es X.env := by rfl) (hpl : (backTo pos (starEach es X.env)).any (·.1) = false := by rfl) :
    PE X (.Call (.Name x p) (e :: es) [] pos) (tMkV C ta) := by
  obtain ⟨fI, fd, iC, tI, F1, hb⟩ := o.ex
  have T := o.T
  have hr2 := hr.mono hj
  refine ⟨fun pins s σ H Q I h => ?_⟩
  obtain ⟨nm, q, N, bs, bm, sn, sub, ab, col, dd, k0, k1, k2, k3, k5, hC, hbm⟩ := T.cls
  refine wpAny_Call_Name_kw (ld_glob I hg o.gl ?_ hdb)
  refine PySem.W.callWith_K (h₀ := X.base) I.ok.mod.kin T.kC (thn (ha.run pos pins s σ H _ I h) fun us s1 ⟨vs, H1, I1, r1, y, ev, q1⟩ => ⟨I1.kIn, ?_⟩) h1 hpl
  subst ev
  show wpAny _ _ (call (.ref C) us) _ _ _
  obtain ⟨hp, g, dr, tk, os⟩ := s1
  have hsz : hp.objs.size ≤ hp.objs.size + 1 := Nat.le_succ _
  have hn : H1 (hp.objs.size + 1) = none := I1.hok.fresh hsz
  have kk : ∀ b o, hp.get? b = some o → ((hp.push (PySem.W.kdv_tup us)).push (PySem.HandSPX.excO C hp.objs.size)).get? b = some o := fun b o e => Heap.get?_push_of_some _ (Heap.get?_push_of_some _ e)
  have hget : ((hp.push (PySem.W.kdv_tup us)).push (PySem.HandSPX.excO C hp.objs.size)).get? (hp.objs.size + 1) = some (PySem.HandSPX.excO C hp.objs.size) := by heap_get
  have I2 : Inv X pins σ (upd H1 (hp.objs.size + 1) (exo (hp.objs.size + 1) C none)) ⟨(hp.push (PySem.W.kdv_tup us)).push (PySem.HandSPX.excO C hp.objs.size), g, dr, tk, os⟩ :=
    I1.laid (t' := tk) (a := hp.objs.size + 1) (o := exo (hp.objs.size + 1) C none) (h' := (hp.push (PySem.W.kdv_tup us)).push (PySem.HandSPX.excO C hp.objs.size)) kk hsz (exo_ok hget)
  have r2 : Vals [V.ref (hp.objs.size + 1), y] (Value.ref (hp.objs.size + 1) :: us) := .cons rfl r1
  have hl : (Value.ref (hp.objs.size + 1) :: us ++ []).length = ["self", "place"].length := by
    have e := r2.length
    rw [List.append_nil]
    exact e.symm
  have hus : us.length ≤ sizeLine := by
    rw [← Paired.length r1, sizeLine_eq]
    show 1 ≤ _
    omega
  refine wpAny_call (PySem.HandSPX.call_own F.excBase_ValueError (fun Y => PySem.HandSPX.refsVE_contains Y bm hbm) (I1.kIn _ _ hC) (PySem.W.looks_findIn I1.kIn iC) (fun self => PySem.W.bind_fn I1.kIn self tI) hus
    (codeAny_mono (F1.run _ X.stack _ _ ⟨Value.ref (hp.objs.size + 1) :: us, []⟩ (Value.ref (hp.objs.size + 1) :: us) _ (fun v H2 => v = .non ∧ ∃ dx, H1 dx = none ∧ dx ≠ hp.objs.size + 1 ∧ H2 = upd (upd (upd H1 (hp.objs.size + 1) (exo (hp.objs.size + 1) C none)) dx (exd dx [("place", y)])) (hp.objs.size + 1) (exo (hp.objs.size + 1) C (some dx))) (fun _ _ _ => False) (hr2.make C us []) (I2.env0.make C us []) (by simpa using hb _ (Value.ref (hp.objs.size + 1) :: us) I2.kIn hl) r2 ⟨_, y, rfl, upd_same, fun dx nd ne => ⟨rfl, dx, by rw [upd_ne ne] at nd; exact nd, ne, rfl⟩⟩) fun r s' hq' => ?_))
  cases r with
  | error er => exact absurd hq' id
  | ok fl =>
    cases fl with
    | ret u =>
      obtain ⟨v, H2, os2, bare2, un2, hok2, rv, ev, dx, nd, ne, e2⟩ := hq'
      subst ev
      subst e2
      obtain ⟨h2, g2, d2, t2, os'⟩ := s'
      have J := I2.call' (ch := []) os2 un2 hok2 bare2 (fun b z => absurd z (by simp))
      refine ⟨rv, .ref (hp.objs.size + 1), _, J, rfl, q1 _ dx _ hn upd_same ?_ fun b z hz => ?_⟩
      · rw [upd_ne ne, upd_same]
      · have b1 : b ≠ hp.objs.size + 1 := ne_of_none hz hn
        have b2 : b ≠ dx := ne_of_none hz nd
        rw [upd_ne b1, upd_ne b2, upd_ne b1]
        exact hz
    | next => exact False.elim hq'
    | brk => exact False.elim hq'
    | cont => exact False.elim hq'
/-- the place of an error that is held -/
def tXof (C : Addr) (f : Str) (te : TE) : TE := fun σ H Q => te σ H fun x H1 => ∃ (a d : Addr) (fs : List (Str × V)) (v : V), x = .ref a ∧ H1 a = some (exo a C (some d)) ∧ H1 d = some (exd d fs) ∧ fs.lookup f = some v ∧ Q v H1
theorem inst_xo {X : Cx} {pins : List (Addr × Obj)} {σ : L2.St} {H : Hp} {s : Shared} {a d C : Addr} {fs : List (Str × V)} (I : Inv X pins σ H s) (ha : H a = some (exo a C (some d))) (hd : H d = some (exd d fs)) :
    ∃ (oe od : Obj) (mA : Str → Option Value), PySem.W.InstAt s.heap a oe C (some od) ∧ (∀ name, PySem.W.lookIn name od = some (mA name)) ∧ ∀ f, RelO (fs.lookup f) (mA f) := by
  obtain ⟨t1, h1⟩ := exo_at I.hok ha
  obtain ⟨mA, hns, rel⟩ := exd_at I.hok hd
  obtain ⟨od, ho, hl⟩ := lookIn_ns hns
  exact ⟨_, od, mA, ⟨h1, rfl, rfl, ho⟩, hl, rel⟩
theorem pe_xoF {n : Str} (T : XfC X.K C) (hno : PySem.W.findIn X.K (.ref C) n = some none) (he : PE X e te) (hb : attributeBase e n X.env (eval e X.env) = eval e X.env := by rfl) : PE X (.Attribute e n pos) (tXof C n te) := by
  refine ⟨fun pins s σ H Q I h => ?_⟩
  refine attr_of hb (thn (he.run pins s σ H _ I h) fun u s1 hh => ?_)
  obtain ⟨x, H1, I1, rx, a, d, fs, v, ex, ha, hd, l, q⟩ := hh
  subst ex
  obtain rfl : u = Value.ref a := rx
  obtain ⟨oe, od, mA, J, hl, hr⟩ := inst_xo I1 ha hd
  obtain ⟨u, hu, ru⟩ := RelO.some_of (v := v) (o := mA n) (by rw [← l]; exact hr n)
  exact HandSPX.exc_get I1.kIn J T.ga T.gg T.exC (PySem.W.findObj_own T.hdC hno rfl (by rw [hl, hu])) (handed_of ru) ⟨v, H1, I1.tok _, ru, q⟩
/-- isinstance of an error that is held -/
def rIsXo (K : PySem.W.Frag) (D : Addr) : List V → Hp → VK → Prop := fun xs H Q => ∃ (a d : Addr) (fs : List (Str × V)) (c : V) (cv : Value) (b : Bool), xs = [.ref a, c] ∧ H a = some (exo a D (some d)) ∧ H d = some (exd d fs) ∧ (∀ u, RelV c u → u = cv) ∧ PySem.W.kitOne K (.ref D) cv = some b ∧ Q (.bl b) H
theorem isd {K : PySem.W.Frag} {D : Addr} (h : PySem.W.hasDictIn K D = true) : (PySem.W.clsIn K D).isSome = true := by
  unfold PySem.W.hasDictIn at h
  cases e : PySem.W.clsIn K D with
  | none => rw [e] at h; cases h
  | some _ => rfl
theorem call_isXo {D : Addr} (C : ExcC X.K D) : CallR X (.builtin "isinstance") (rIsXo X.K D) := by
  intro pins s σ H xs us Q I r h
  obtain ⟨a, d, fs, c, cv, b, rfl, ha, hd, hcv, e, q⟩ := h
  cases r with
  | cons rx rr =>
    cases rr with
    | cons rt rr =>
      cases rr
      cases rx
      have ec := hcv _ rt
      subst ec
      obtain ⟨oe, od, mA, J, _, _⟩ := inst_xo I ha hd
      exact PySem.W.kia_one (PySem.W.kitx_exc (isd C.hd) C.hg C.hk C.hs C.ha C.hn C.ht C.hm) I.kIn J e (fun z => nomatch z) fun tk => ⟨.bl b, H, I.kept (t' := tk) fun _ _ z => z, rfl, q⟩
/-- isinstance of an error that was caught -/
def rIsXd (K : PySem.W.Frag) (D a : Addr) (cls : Value) (d : Option Addr) : List V → Hp → VK → Prop := fun xs H Q => ∃ (c : V) (cv : Value) (b : Bool) (dd : Addr) (fs : List (Str × V)), xs = [.ref a, c] ∧ cls = .ref D ∧ d = some dd ∧ H dd = some (.xd fs) ∧ (∀ u, RelV c u → u = cv) ∧ PySem.W.kitOne K (.ref D) cv = some b ∧ Q (.bl b) H
theorem call_isXd {a D : Addr} {oe : Obj} {cls : Value} {d : Option Addr} {pn : List (Addr × Obj)} (C : ExcC X.K D) (hz : Zc cls d oe) (hf : ∃ vs, oe.data = .fields vs) : CallR (X.suite a ((a, oe) :: pn)) (.builtin "isinstance") (rIsXd X.K D a cls d) := by
  intro pins s σ H xs us Q I r h
  obtain ⟨c, cv, b, dd, fs, rfl, rfl, rfl, hd, hcv, e, q⟩ := h
  cases r with
  | cons rx rr =>
    cases rr with
    | cons rt rr =>
      cases rr
      cases rx
      have ec := hcv _ rt
      subst ec
      obtain ⟨hget, _⟩ := I.pin (a, oe) (List.mem_append.mpr (.inl List.mem_cons_self))
      obtain ⟨vs, hv⟩ := hf
      have hx : ObjOk X.prog X.w H s.heap dd (.xd fs) := I.hok dd _ hd
      obtain ⟨mA, hns, _⟩ := hx
      obtain ⟨od, ho, _⟩ := lookIn_ns hns
      have J : PySem.W.InstAt s.heap a oe D (some od) := ⟨hget, hz.1, by unfold PySem.W.notCls; rw [hv] <;> rfl, by rw [hz.2]; exact ho⟩
      exact PySem.W.kia_one (PySem.W.kitx_exc (isd C.hd) C.hg C.hk C.hs C.ha C.hn C.ht C.hm) I.kIn J e (fun z => nomatch z) fun tk => ⟨.bl b, H, I.kept (t' := tk) fun _ _ z => z, rfl, q⟩
end

/-! ### that the written part says all of an own error's class -/
def heldCls (K : PySem.W.Frag) (C : Addr) : Bool := match K.lookup C with
  | some ⟨.type "type", _, .cls cd, sl⟩ => (match cd.mro, sl.toList with
    | .ref D :: bm, [_, _, _, _, some (.builtin n), _] => (D == C && n == "ValueError.__new__") && (cd.hasDict && (!cd.hasDel && PySem.HandSPX.refsVE bm))
    | _, _ => false)
  | _ => false
theorem held_cls {K : PySem.W.Frag} {C : Addr} (h : heldCls K C = true) : ∃ nm q N bs bm sn sub ab col dd k0 k1 k2 k3 k5, K.lookup C = some (excClassObj nm q C N bs bm true sn sub ab col dd k0 k1 k2 k3 k5 "ValueError.__new__") ∧ PySem.HandSPX.refsVE bm = true := by
  unfold heldCls at h
  split at h
  · rename_i dd cd sl ho
    split at h
    · rename_i D bm k0 k1 k2 k3 n k5 hm hs
      obtain ⟨ha, hb⟩ := Bool.and_eq_true_iff.mp h
      obtain ⟨a1, a2⟩ := Bool.and_eq_true_iff.mp ha
      obtain ⟨b1, hb⟩ := Bool.and_eq_true_iff.mp hb
      obtain ⟨b0, b3⟩ := Bool.and_eq_true_iff.mp hb
      have a1 := beq_iff_eq.mp a1
      have a2 := beq_iff_eq.mp a2
      clear h ha hb
      have b2 : cd.hasDel = false := by
        cases e : cd.hasDel with
        | false => rfl
        | true =>
          rw [e] at b0
          cases b0
      clear b0
      obtain ⟨nm, bs, mro, ns, qn, hd, sn, sub, ab, col, del⟩ := cd
      dsimp only at hm b1 b2
      subst hm b1 b2 a1 a2
      have es : sl = #[k0, k1, k2, k3, some (.builtin "ValueError.__new__"), k5] := by
        obtain ⟨l⟩ := sl
        dsimp only at hs
        rw [hs]
      subst es
      exact ⟨nm, qn, ns, bs, bm, sn, sub, ab, col, dd, k0, k1, k2, k3, k5, ho, b3⟩
    · cases h
  · cases h

def topS (i : Nat) : Stmt := PySem.Challenge.pw_breakback_k07_where_a_text_is_wrong.main.body.getD i (.Pass ⟨0, 0, 0, 0⟩)
def subS (c : Stmt) (j : Nat) : Stmt := match c with
  | .ClassDef _ _ _ b _ _ _ _ _ _ _ => b.getD j (.Pass ⟨0, 0, 0, 0⟩)
  | _ => .Pass ⟨0, 0, 0, 0⟩
abbrev s_init_BadText : Stmt := subS (topS 3) 0
abbrev s_awaited : Stmt := topS 8
abbrev s_told : Stmt := topS 9
abbrev s_shared : Stmt := topS 10
abbrev s_begun_number : Stmt := topS 11
abbrev s_begun : Stmt := topS 12
abbrev s_is_whole_word : Stmt := topS 13
abbrev s_meaning : Stmt := topS 14
abbrev s_word_at : Stmt := topS 15
abbrev s_take_word : Stmt := topS 16
abbrev s_take_left : Stmt := topS 17
abbrev s_take_right : Stmt := topS 18
abbrev s_breaker_of : Stmt := topS 19
abbrev s_read_breaker : Stmt := topS 21
abbrev s_law_draws : Stmt := topS 23
abbrev s_law_take : Stmt := topS 24
abbrev s_law_parts : Stmt := topS 25
abbrev s_law_breaker : Stmt := topS 26
abbrev s_law_far_parts : Stmt := topS 27
abbrev s_law_far : Stmt := topS 28
abbrev s_law_parts_words : Stmt := topS 29
abbrev s_law_words : Stmt := topS 30
abbrev s_law_text : Stmt := topS 31
abbrev s_law_spaced : Stmt := topS 32
abbrev s_law_same : Stmt := topS 33
abbrev s_law_after_name : Stmt := topS 34
abbrev s_law_is_begun : Stmt := topS 35
abbrev s_law_closed : Stmt := topS 36
abbrev s_law_wants : Stmt := topS 37
abbrev s_law_word_step : Stmt := topS 38
abbrev s_law_begin : Stmt := topS 39
abbrev s_law_step : Stmt := topS 40
abbrev s_law_read : Stmt := topS 41
abbrev s_law_piece : Stmt := topS 42
abbrev s_law_bent : Stmt := topS 43
abbrev s_law_longest : Stmt := topS 44
abbrev s_law_is_right : Stmt := topS 45
abbrev s_law : Stmt := topS 46
theorem sc_init_BadText : FnScope ["self", "place"] ["self", "place"] (defScope s_init_BadText) := ⟨rfl, rfl, rfl, by decide +kernel, rfl, by decide +kernel, by decide +kernel⟩
theorem sc_awaited : FnScope ["read", "kind", "many"] ["read"] (defScope s_awaited) := ⟨rfl, rfl, rfl, by decide +kernel, rfl, by decide +kernel, by decide +kernel⟩
theorem sc_told : FnScope ["read"] ["read"] (defScope s_told) := ⟨rfl, rfl, rfl, by decide +kernel, rfl, by decide +kernel, by decide +kernel⟩
theorem sc_shared : FnScope ["first", "second", "many"] ["first", "second"] (defScope s_shared) := ⟨rfl, rfl, rfl, by decide +kernel, rfl, by decide +kernel, by decide +kernel⟩
theorem sc_begun_number : FnScope ["word", "many"] ["word"] (defScope s_begun_number) := ⟨rfl, rfl, rfl, by decide +kernel, rfl, by decide +kernel, by decide +kernel⟩
theorem sc_begun : FnScope ["word", "kind", "other"] ["word", "kind"] (defScope s_begun) := ⟨rfl, rfl, rfl, by decide +kernel, rfl, by decide +kernel, by decide +kernel⟩
theorem sc_is_whole_word : FnScope ["word", "kind"] ["word", "kind"] (defScope s_is_whole_word) := ⟨rfl, rfl, rfl, by decide +kernel, rfl, by decide +kernel, by decide +kernel⟩
theorem sc_meaning : FnScope ["word", "kind"] ["word", "kind"] (defScope s_meaning) := ⟨rfl, rfl, rfl, by decide +kernel, rfl, by decide +kernel, by decide +kernel⟩
theorem sc_word_at : FnScope ["text", "at", "stop"] ["text", "at"] (defScope s_word_at) := ⟨rfl, rfl, rfl, by decide +kernel, rfl, by decide +kernel, by decide +kernel⟩
theorem sc_take_word : FnScope ["unclosed", "word", "at", "kind", "many"] ["unclosed", "word", "at"] (defScope s_take_word) := ⟨rfl, rfl, rfl, by decide +kernel, rfl, by decide +kernel, by decide +kernel⟩
theorem sc_take_left : FnScope ["unclosed", "at"] ["unclosed", "at"] (defScope s_take_left) := ⟨rfl, rfl, rfl, by decide +kernel, rfl, by decide +kernel, by decide +kernel⟩
theorem sc_take_right : FnScope ["unclosed", "at", "found"] ["unclosed", "at"] (defScope s_take_right) := ⟨rfl, rfl, rfl, by decide +kernel, rfl, by decide +kernel, by decide +kernel⟩
theorem sc_breaker_of : FnScope ["text", "unclosed", "found", "at", "sign", "width", "word"] ["text"] (defScope s_breaker_of) := ⟨rfl, rfl, rfl, by decide +kernel, rfl, by decide +kernel, by decide +kernel⟩
theorem sc_read_breaker : FnScope ["text"] ["text"] (defScope s_read_breaker) := ⟨rfl, rfl, rfl, by decide +kernel, rfl, by decide +kernel, by decide +kernel⟩
theorem sc_law_draws : FnScope ["script", "many", "rests", "draws", "k", "cell", "at", "mixed"] ["script", "many"] (defScope s_law_draws) := ⟨rfl, rfl, rfl, by decide +kernel, rfl, by decide +kernel, by decide +kernel⟩
theorem sc_law_take : FnScope ["hand", "many", "at", "draws"] ["hand", "many"] (defScope s_law_take) := ⟨rfl, rfl, rfl, by decide +kernel, rfl, by decide +kernel, by decide +kernel⟩
theorem sc_law_parts : FnScope ["hand", "length", "found", "k", "kind"] ["hand", "length"] (defScope s_law_parts) := ⟨rfl, rfl, rfl, by decide +kernel, rfl, by decide +kernel, by decide +kernel⟩
theorem sc_law_breaker : FnScope ["hand", "depth", "asks", "length", "said", "kind", "size", "first", "many", "k"] ["hand", "depth", "asks", "length", "said"] (defScope s_law_breaker) := ⟨rfl, rfl, rfl, by decide +kernel, rfl, by decide +kernel, by decide +kernel⟩
theorem sc_law_far_parts : FnScope ["hand", "parts", "found", "part"] ["hand", "parts"] (defScope s_law_far_parts) := ⟨rfl, rfl, rfl, by decide +kernel, rfl, by decide +kernel, by decide +kernel⟩
theorem sc_law_far : FnScope ["hand", "breaker", "number", "one"] ["hand", "breaker"] (defScope s_law_far) := ⟨rfl, rfl, rfl, by decide +kernel, rfl, by decide +kernel, by decide +kernel⟩
theorem sc_law_parts_words : FnScope ["parts", "found", "part"] ["parts"] (defScope s_law_parts_words) := ⟨rfl, rfl, rfl, by decide +kernel, rfl, by decide +kernel, by decide +kernel⟩
theorem sc_law_words : FnScope ["breaker", "words", "one"] ["breaker"] (defScope s_law_words) := ⟨rfl, rfl, rfl, by decide +kernel, rfl, by decide +kernel, by decide +kernel⟩
theorem sc_law_text : FnScope ["words", "text", "at"] ["words"] (defScope s_law_text) := ⟨rfl, rfl, rfl, by decide +kernel, rfl, by decide +kernel, by decide +kernel⟩
theorem sc_law_spaced : FnScope ["hand", "words", "text", "at", "many"] ["hand", "words"] (defScope s_law_spaced) := ⟨rfl, rfl, rfl, by decide +kernel, rfl, by decide +kernel, by decide +kernel⟩
theorem sc_law_same : FnScope ["found", "due", "at"] ["found", "due"] (defScope s_law_same) := ⟨rfl, rfl, rfl, by decide +kernel, rfl, by decide +kernel, by decide +kernel⟩
theorem sc_law_after_name : FnScope ["stack", "word"] ["stack", "word"] (defScope s_law_after_name) := ⟨rfl, rfl, rfl, by decide +kernel, rfl, by decide +kernel, by decide +kernel⟩
theorem sc_law_is_begun : FnScope ["word", "sign", "name"] ["word", "sign"] (defScope s_law_is_begun) := ⟨rfl, rfl, rfl, by decide +kernel, rfl, by decide +kernel, by decide +kernel⟩
theorem sc_law_closed : FnScope ["stack", "kind", "held"] ["stack"] (defScope s_law_closed) := ⟨rfl, rfl, rfl, by decide +kernel, rfl, by decide +kernel, by decide +kernel⟩
theorem sc_law_wants : FnScope ["stack", "kind", "held"] ["stack"] (defScope s_law_wants) := ⟨rfl, rfl, rfl, by decide +kernel, rfl, by decide +kernel, by decide +kernel⟩
theorem sc_law_word_step : FnScope ["state", "stack", "word", "sign", "digits", "part", "place"] ["state", "stack", "word", "sign"] (defScope s_law_word_step) := ⟨rfl, rfl, rfl, by decide +kernel, rfl, by decide +kernel, by decide +kernel⟩
theorem sc_law_begin : FnScope ["stack", "state", "sign", "glued"] ["stack", "state", "sign", "glued"] (defScope s_law_begin) := ⟨rfl, rfl, rfl, by decide +kernel, rfl, by decide +kernel, by decide +kernel⟩
theorem sc_law_step : FnScope ["state", "stack", "sign", "glued", "found", "whole"] ["state", "stack", "sign", "glued"] (defScope s_law_step) := ⟨rfl, rfl, rfl, by decide +kernel, rfl, by decide +kernel, by decide +kernel⟩
theorem sc_law_read : FnScope ["text", "state", "word", "stack", "at", "sign", "found"] ["text"] (defScope s_law_read) := ⟨rfl, rfl, rfl, by decide +kernel, rfl, by decide +kernel, by decide +kernel⟩
theorem sc_law_piece : FnScope ["hand", "words"] ["hand"] (defScope s_law_piece) := ⟨rfl, rfl, rfl, by decide +kernel, rfl, by decide +kernel, by decide +kernel⟩
theorem sc_law_bent : FnScope ["hand", "words", "at", "kind", "number", "sign", "piece", "text", "place"] ["hand", "words"] (defScope s_law_bent) := ⟨rfl, rfl, rfl, by decide +kernel, rfl, by decide +kernel, by decide +kernel⟩
theorem sc_law_longest : FnScope ["text", "many", "most", "sign"] ["text"] (defScope s_law_longest) := ⟨rfl, rfl, rfl, by decide +kernel, rfl, by decide +kernel, by decide +kernel⟩
theorem sc_law_is_right : FnScope ["text", "due", "found", "e"] ["text"] (defScope s_law_is_right) := ⟨rfl, rfl, rfl, by decide +kernel, rfl, by decide +kernel, by decide +kernel⟩
theorem sc_law : FnScope ["script", "hand", "words", "step", "pieces", "text", "wide", "place", "made", "k"] ["script"] (defScope s_law) := ⟨rfl, rfl, rfl, by decide +kernel, rfl, by decide +kernel, by decide +kernel⟩
structure Cs where
  BadBreaker : Addr
  BreakError : Addr
  BadText : Addr
  KINDS : Addr
structure Txt (K : PySem.W.Frag) (w : World) (mg : Str → Option Value) (cs : Cs) : Prop where
  gl_BadBreaker : mg "BadBreaker" = some (.ref cs.BadBreaker)
  gl_BreakError : mg "BreakError" = some (.ref cs.BreakError)
  gl_BadText : mg "BadText" = some (.ref cs.BadText)
  gl_KINDS : mg "KINDS" = some (.ref cs.KINDS)
  kt_KINDS : ∀ H, SqT K H cs.KINDS [.str "say", .str "toss", .str "look", .str "ask"]
  o_BadText : OexC K cs.BadText
  f_BadText : XfC K cs.BadText
  fn_BadText_place : PySem.W.findIn K (.ref cs.BadText) "place" = some none
  e_BadText : ExcC K cs.BadText
  exm_BadText_BadText : PySem.W.exmOne K (.ref cs.BadText) (.ref cs.BadText) = some true
  kit_BadText_BreakError : PySem.W.kitOne K (.ref cs.BadText) (.ref cs.BreakError) = some true
  kit_BadText_ValueError : PySem.W.kitOne K (.ref cs.BadText) (.type "ValueError") = some true
  kit_BadText_BadBreaker : PySem.W.kitOne K (.ref cs.BadText) (.ref cs.BadBreaker) = some false
  n_ValueError : mg "ValueError" = none
  n_abs : mg "abs" = none
  n_bool : mg "bool" = none
  n_int : mg "int" = none
  n_isinstance : mg "isinstance" = none
  n_len : mg "len" = none
  n_max : mg "max" = none
  n_min : mg "min" = none
  n_range : mg "range" = none
  n_str : mg "str" = none
  n_tuple : mg "tuple" = none
  g_FIGURES : ∃ u, mg "FIGURES" = some u ∧ RelV (.str "0123456789") u
  g_PARTS : ∃ u, mg "PARTS" = some u ∧ RelV (.str "parts") u
def top_level : Nat := 205
/-! ### plain breakers, their words and texts -/
inductive Pa where
  | bit (b : Bool)
  | ref (i : Nat)
inductive Br where
  | say (ps : List Pa)
  | toss (bs : List Br)
  | look (i : Nat) (a b : Br)
  | ask (ps : List Pa) (a : Br)
def sayC : List Nat := [115, 97, 121]
def tossC : List Nat := [116, 111, 115, 115]
def lookC : List Nat := [108, 111, 111, 107]
def askC : List Nat := [97, 115, 107]
theorem say_S : ("say" : Str) = SX.S sayC := by decide +kernel
theorem toss_S : ("toss" : Str) = SX.S tossC := by decide +kernel
theorem look_S : ("look" : Str) = SX.S lookC := by decide +kernel
theorem ask_S : ("ask" : Str) = SX.S askC := by decide +kernel
def paC : Pa → List Nat
  | .bit b => [cB b]
  | .ref i => 98 :: TL.numL i
def paD : Pa → PyData
  | .bit b => .str (sb [b])
  | .ref i => .int (i : Int)
def psD (ps : List Pa) : PyData := .tuple (ps.map paD)
mutual
def brD : Br → PyData
  | .say ps => .tuple [.str "say", psD ps]
  | .toss bs => .tuple [.str "toss", .tuple (brsD bs)]
  | .look i a b => .tuple [.str "look", .int (i : Int), brD a, brD b]
  | .ask ps a => .tuple [.str "ask", psD ps, brD a]
def brsD : List Br → List PyData
  | [] => []
  | b :: bs => brD b :: brsD bs
end
mutual
def txtC : Br → List Nat
  | .say ps => 40 :: (TL.joinL [32] (sayC :: ps.map paC) ++ [41])
  | .toss bs => 40 :: (TL.joinL [32] (tossC :: txtsC bs) ++ [41])
  | .look i a b => 40 :: (TL.joinL [32] [lookC, TL.numL i, txtC a, txtC b] ++ [41])
  | .ask ps a => 40 :: (TL.joinL [32] [askC, 40 :: (TL.joinL [32] (ps.map paC) ++ [41]), txtC a] ++ [41])
def txtsC : List Br → List (List Nat)
  | [] => []
  | b :: bs => txtC b :: txtsC bs
end
mutual
def wordsC : Br → List (List Nat)
  | .say ps => [40] :: sayC :: (ps.map paC ++ [[41]])
  | .toss bs => [40] :: tossC :: (wordssC bs ++ [[41]])
  | .look i a b => [40] :: lookC :: TL.numL i :: (wordsC a ++ (wordsC b ++ [[41]]))
  | .ask ps a => [40] :: askC :: [40] :: (ps.map paC ++ [41] :: (wordsC a ++ [[41]]))
def wordssC : List Br → List (List Nat)
  | [] => []
  | b :: bs => wordsC b ++ wordssC bs
end
/-- the words behind a word, with the blanks between -/
def behind : List Nat → List (List Nat) → List Nat
  | _, [] => []
  | p, w :: ws => (if w ≠ [41] ∧ p ≠ [40] then [32] else []) ++ (w ++ behind w ws)
def lawTxt : List (List Nat) → List Nat
  | [] => []
  | w :: ws => w ++ behind w ws
theorem join_cons (w : List Nat) : ∀ ws : List (List Nat), TL.joinL [32] (w :: ws) = w ++ ws.flatMap (fun x => 32 :: x)
  | [] => by
    show w = w ++ []
    rw [List.append_nil]
  | x :: xs => by
    show w ++ ([32] ++ TL.joinL [32] (x :: xs)) = _
    rw [join_cons x xs]
    rfl
theorem numL_ne (n : Nat) : TL.numL n ≠ [40] ∧ TL.numL n ≠ [41] := by
  refine ⟨fun h => ?_, fun h => ?_⟩
  · exact TL.numL_free (n := n) (s := 40) (.inl (by decide)) (h ▸ List.mem_cons_self)
  · exact TL.numL_free (n := n) (s := 41) (.inl (by decide)) (h ▸ List.mem_cons_self)
theorem paC_ne (p : Pa) : paC p ≠ [40] ∧ paC p ≠ [41] := by
  cases p with
  | bit b => cases b <;> decide
  | ref i => exact ⟨fun h => absurd (List.cons.inj h).1 (by decide), fun h => absurd (List.cons.inj h).1 (by decide)⟩
theorem behind_word {p w : List Nat} (h : w ≠ [41]) (ws : List (List Nat)) (hp : p ≠ [40]) : behind p (w :: ws) = 32 :: (w ++ behind w ws) := by
  show (if w ≠ [41] ∧ p ≠ [40] then [32] else []) ++ (w ++ behind w ws) = _
  rw [if_pos ⟨h, hp⟩]
  rfl
theorem behind_open (w : List Nat) (ws : List (List Nat)) : behind [40] (w :: ws) = w ++ behind w ws := by
  show (if w ≠ [41] ∧ [40] ≠ [40] then [32] else []) ++ (w ++ behind w ws) = _
  rw [if_neg fun h => h.2 rfl]
  rfl
theorem behind_close (p : List Nat) (ws : List (List Nat)) : behind p ([41] :: ws) = 41 :: behind [41] ws := by
  show (if [41] ≠ [41] ∧ p ≠ [40] then [32] else []) ++ ([41] ++ behind [41] ws) = _
  rw [if_neg fun h => h.1 rfl]
  rfl
theorem behind_parts : ∀ (ps : List Pa) (p : List Nat) (ws : List (List Nat)), p ≠ [40] → behind p (ps.map paC ++ [41] :: ws) = (ps.map paC).flatMap (fun x => 32 :: x) ++ 41 :: behind [41] ws
  | [], p, ws, _ => by
    show behind p ([41] :: ws) = _
    rw [behind_close]
    rfl
  | q :: ps, p, ws, hp => by
    show behind p (paC q :: (ps.map paC ++ [41] :: ws)) = _
    rw [behind_word (paC_ne q).2 _ hp, behind_parts ps _ ws (paC_ne q).1]
    simp
mutual
/-- a breaker's words behind a word that is no opening one -/
theorem behind_br : ∀ (b : Br) (p : List Nat) (ws : List (List Nat)), p ≠ [40] → behind p (wordsC b ++ ws) = 32 :: (txtC b ++ behind [41] ws)
  | .say ps, p, ws, hp => by
    show behind p ([40] :: sayC :: (ps.map paC ++ [[41]] ++ ws)) = _
    rw [behind_word (by decide) _ hp, behind_open, List.append_assoc]
    show 32 :: ([40] ++ (sayC ++ behind sayC (ps.map paC ++ [41] :: ws))) = 32 :: (40 :: (TL.joinL [32] (sayC :: ps.map paC) ++ [41]) ++ behind [41] ws)
    rw [behind_parts ps _ ws (by decide), join_cons]
    simp
  | .toss bs, p, ws, hp => by
    show behind p ([40] :: tossC :: (wordssC bs ++ [[41]] ++ ws)) = _
    rw [behind_word (by decide) _ hp, behind_open, List.append_assoc]
    show 32 :: ([40] ++ (tossC ++ behind tossC (wordssC bs ++ [41] :: ws))) = 32 :: (40 :: (TL.joinL [32] (tossC :: txtsC bs) ++ [41]) ++ behind [41] ws)
    rw [behind_brs bs _ ws (by decide), join_cons]
    simp
  | .look i a b, p, ws, hp => by
    show behind p ([40] :: lookC :: TL.numL i :: (wordsC a ++ (wordsC b ++ [[41]]) ++ ws)) = _
    rw [behind_word (by decide) _ hp, behind_open, behind_word (numL_ne i).2 _ (by decide), List.append_assoc, behind_br a _ _ (numL_ne i).1, List.append_assoc, behind_br b _ _ (by decide)]
    show 32 :: ([40] ++ (lookC ++ 32 :: (TL.numL i ++ 32 :: (txtC a ++ 32 :: (txtC b ++ behind [41] ([41] :: ws)))))) = 32 :: (40 :: (TL.joinL [32] [lookC, TL.numL i, txtC a, txtC b] ++ [41]) ++ behind [41] ws)
    rw [behind_close, join_cons]
    simp
  | .ask ps a, p, ws, hp => by
    show behind p ([40] :: askC :: [40] :: (ps.map paC ++ [41] :: (wordsC a ++ [[41]]) ++ ws)) = _
    rw [behind_word (by decide) _ hp, behind_open, behind_word (by decide) _ (by decide)]
    show 32 :: ([40] ++ (askC ++ 32 :: ([40] ++ behind [40] (ps.map paC ++ [41] :: (wordsC a ++ [[41]]) ++ ws)))) = 32 :: (40 :: (TL.joinL [32] [askC, 40 :: (TL.joinL [32] (ps.map paC) ++ [41]), txtC a] ++ [41]) ++ behind [41] ws)
    have inner : behind [40] (ps.map paC ++ [41] :: (wordsC a ++ [[41]]) ++ ws) = TL.joinL [32] (ps.map paC) ++ 41 :: 32 :: (txtC a ++ 41 :: behind [41] ws) := by
      have tail : behind [41] ((wordsC a ++ [[41]]) ++ ws) = 32 :: (txtC a ++ 41 :: behind [41] ws) := by
        rw [List.append_assoc, behind_br a _ _ (by decide)]
        show 32 :: (txtC a ++ behind [41] ([41] :: ws)) = _
        rw [behind_close]
      cases ps with
      | nil =>
        show behind [40] ([41] :: ((wordsC a ++ [[41]]) ++ ws)) = _
        rw [behind_close, tail]
        rfl
      | cons q ps =>
        rw [List.append_assoc]
        show behind [40] (paC q :: (ps.map paC ++ [41] :: ((wordsC a ++ [[41]]) ++ ws))) = _
        rw [behind_open, behind_parts ps _ _ (paC_ne q).1, tail, List.map_cons, join_cons]
        simp
    rw [inner, join_cons]
    simp
theorem behind_brs : ∀ (bs : List Br) (p : List Nat) (ws : List (List Nat)), p ≠ [40] → behind p (wordssC bs ++ [41] :: ws) = (txtsC bs).flatMap (fun x => 32 :: x) ++ 41 :: behind [41] ws
  | [], p, ws, _ => by
    show behind p ([41] :: ws) = _
    rw [behind_close]
    rfl
  | b :: bs, p, ws, hp => by
    show behind p ((wordsC b ++ wordssC bs) ++ [41] :: ws) = _
    rw [List.append_assoc, behind_br b _ _ hp, behind_brs bs _ ws (by decide)]
    show _ = (txtC b :: txtsC bs).flatMap (fun x => 32 :: x) ++ 41 :: behind [41] ws
    simp
end
/-- the law's text of a breaker's words is the program's -/
theorem lawTxt_br (b : Br) : lawTxt (wordsC b) = txtC b := by
  have h := behind_br b [] [] (by decide)
  rw [List.append_nil] at h
  have hw : ∃ ws, wordsC b = [40] :: ws := by cases b <;> exact ⟨_, rfl⟩
  obtain ⟨ws, e⟩ := hw
  rw [e] at h ⊢
  rw [behind_word (by decide) _ (by decide)] at h
  have := (List.cons.inj h).2
  rw [show behind [41] [] = [] from rfl, List.append_nil] at this
  exact this

theorem ps_never {X : Cx} {st : Stmt} : PS X st (fun _ _ _ => False) := ⟨fun _ _ _ _ _ _ h => h.elim⟩
theorem join_S (ws : List (List Nat)) : Txt.join " " (ws.map SX.S) = SX.S (TL.joinL [32] ws) := by
  refine TL.ext_tl ?_
  rw [TL.join_eq, TL.tl_join, SX.map_S_tl]
  rfl
theorem joinL_len (ws : List (List Nat)) : (TL.joinL [32] ws).length ≤ (ws.map List.length).sum + ws.length := by
  cases ws with
  | nil => exact Nat.zero_le _
  | cons w ws =>
    rw [join_cons, List.length_append, List.map_cons, List.sum_cons, List.length_cons]
    have : ∀ l : List (List Nat), (l.flatMap fun x => 32 :: x).length = (l.map List.length).sum + l.length := by
      intro l
      induction l with
      | nil => rfl
      | cons x l ih =>
        rw [List.flatMap_cons, List.length_append, ih, List.length_cons, List.map_cons, List.sum_cons, List.length_cons]
        omega
    rw [this]
    omega
def paOk : Pa → Prop
  | .bit _ => True
  | .ref i => i ≤ 9999
def okB : Nat → Br → Prop
  | 0, _ => False
  | n + 1, .say ps => ∀ p ∈ ps, paOk p
  | n + 1, .toss bs => bs ≠ [] ∧ ∀ b ∈ bs, okB n b
  | n + 1, .look i a b => i ≤ 9999 ∧ okB n a ∧ okB n b
  | n + 1, .ask ps a => (∀ p ∈ ps, paOk p) ∧ okB n a
theorem log_small {i : Nat} (h : i ≤ 9999) : ((i : Int)).natAbs.log2 < 1920 := by
  have h1 : ((i : Int)).natAbs.log2 ≤ ((i : Int)).natAbs := Nat.log2_le_self _
  rcases Nat.eq_zero_or_pos i with z | z
  · rw [z]
    decide
  · have h2 : i.log2 < 14 := (Nat.log2_lt (by omega)).mpr (Nat.lt_of_le_of_lt h (by decide))
    show i.log2 < 1920
    omega
theorem b_S (i : Nat) : (Str.empty ++ "b" : Str) ++ Str.ofString (toString ((i : Nat) : Int)) = SX.S (98 :: TL.numL i) := by
  rw [SX.num_S, show (Str.empty ++ "b" : Str) = SX.S [98] by decide +kernel, SX.S_cat]
  rfl
theorem numL_small {i : Nat} (h : i ≤ 9999) : (TL.numL i).length ≤ 4 := TL.numL_len (k := 4) (by decide) (by omega)
theorem paC_small {p : Pa} (h : paOk p) : (paC p).length ≤ 5 := by
  cases p with
  | bit b =>
    show 1 ≤ 5
    decide
  | ref i =>
    show (TL.numL i).length + 1 ≤ 5
    have := numL_small h
    omega
theorem psD_at {ps : List Pa} {K : PySem.W.Frag} {H : Hp} {us : List V} {i : Nat} {x : V} (h : DpAll K H us (ps.map paD)) (e : us[i]? = some x) : ∃ p, ps[i]? = some p ∧ Dp K H x (paD p) := by
  obtain ⟨d, h1, h2⟩ := dp_all_get h e
  rw [List.getElem?_map] at h1
  obtain ⟨p, hp, rfl⟩ := Option.map_eq_some_iff.mp h1
  exact ⟨p, hp, h2⟩
theorem brsD_at : ∀ {bs : List Br} {i : Nat} {d : PyData}, (brsD bs)[i]? = some d → ∃ b, bs[i]? = some b ∧ d = brD b
  | [], i, d, h => by cases i <;> cases h
  | b :: bs, 0, d, h => ⟨b, rfl, (Option.some.inj h).symm⟩
  | b :: bs, i + 1, d, h => brsD_at (bs := bs) (i := i) h
theorem brsD_len : ∀ bs : List Br, (brsD bs).length = bs.length
  | [] => rfl
  | b :: bs => congrArg Nat.succ (brsD_len bs)
theorem txtsC_map : ∀ bs : List Br, txtsC bs = bs.map txtC
  | [] => rfl
  | b :: bs => congrArg (txtC b :: ·) (txtsC_map bs)
theorem join_sum (w : List Nat) (ws : List (List Nat)) : (TL.joinL [32] (w :: ws)).length = w.length + (ws.map List.length).sum + ws.length := by
  rw [join_cons, List.length_append]
  have : ∀ l : List (List Nat), (l.flatMap fun x => 32 :: x).length = (l.map List.length).sum + l.length := by
    intro l
    induction l with
    | nil => rfl
    | cons x l ih =>
      rw [List.flatMap_cons, List.length_append, ih, List.length_cons, List.map_cons, List.sum_cons, List.length_cons]
      omega
  rw [this]
  omega
theorem sum_mem {l : List (List Nat)} {x : List Nat} (h : x ∈ l) : x.length ≤ (l.map List.length).sum := by
  induction l with
  | nil => cases h
  | cons y l ih =>
    rw [List.map_cons, List.sum_cons]
    rcases List.mem_cons.mp h with e | h
    · rw [e]
      omega
    · have := ih h
      omega
def spPartText (K : PySem.W.Frag) : Sp := fun vs H Q _ => ∃ (v : V) (p : Pa), vs = [v] ∧ Dp K H v (paD p) ∧ paOk p ∧ Q (.str (SX.S (paC p))) H
def spPar (K : PySem.W.Frag) : Sp := fun vs H Q _ => ∃ (L : Addr) (ws : List (List Nat)), vs = [.ref L] ∧ SqL K H L (ws.map fun w => V.str (SX.S w)) ∧ (ws.map List.length).sum + ws.length ≤ 1000000 ∧ Q (.str (SX.S (40 :: (TL.joinL [32] ws ++ [41])))) H
def spText (K : PySem.W.Frag) (j : Nat) : Sp := fun vs H Q _ => ∃ (v : V) (b : Br), vs = [v] ∧ Dp K H v (brD b) ∧ okB j b ∧ (txtC b).length ≤ 400000 ∧ ∀ H', Same H H' → Q (.str (SX.S (txtC b))) H'
def spTextB (K : PySem.W.Frag) (j : Nat) : Sp := fun vs H Q E => 1 ≤ j ∧ spText K (j - 1) vs H Q E
theorem same_set {H H' : Hp} {p : Addr} {o : HO} (s : Same H H') (np : H p = none) : Same H (upd H' p o) := fun b x e => by
  rw [upd_ne (ne_of_none e np)]
  exact s b x e
theorem behind_snoc (w : List Nat) : ∀ (ws : List (List Nat)) (p : List Nat), behind p (ws ++ [w]) = behind p ws ++ ((if w ≠ [41] ∧ (p :: ws).getLast (by simp) ≠ [40] then [32] else []) ++ w)
  | [], p => by
    show (if w ≠ [41] ∧ p ≠ [40] then [32] else []) ++ (w ++ []) = [] ++ _
    rw [List.append_nil]
    rfl
  | x :: ws, p => by
    show (if x ≠ [41] ∧ p ≠ [40] then [32] else []) ++ (x ++ behind x (ws ++ [w])) = _
    rw [behind_snoc w ws x, List.getLast_cons_cons]
    show _ = (if x ≠ [41] ∧ p ≠ [40] then [32] else []) ++ (x ++ behind x ws) ++ _
    simp only [List.append_assoc]
theorem lawTxt_step {ws : List (List Nat)} {i : Nat} {x y : List Nat} (hx : ws[i]? = some x) (hy : ws[i + 1]? = some y) : lawTxt (ws.take (i + 2)) = lawTxt (ws.take (i + 1)) ++ ((if y ≠ [41] ∧ x ≠ [40] then [32] else []) ++ y) := by
  rw [List.take_add_one (l := ws) (i := i + 1), hy]
  obtain ⟨hi, ex⟩ := List.getElem?_eq_some_iff.mp hx
  cases ws with
  | nil => cases hx
  | cons w ws =>
    show lawTxt (w :: (ws.take i ++ [y])) = lawTxt (w :: ws.take i) ++ _
    show w ++ behind w (ws.take i ++ [y]) = w ++ behind w (ws.take i) ++ _
    rw [behind_snoc, List.append_assoc]
    have last : (w :: ws.take i).getLast (by simp) = x := by
      have e : w :: ws.take i = (w :: ws).take (i + 1) := rfl
      rw [List.getLast_eq_getElem]
      have hl : (w :: ws.take i).length = i + 1 := by
        rw [e, List.length_take]
        omega
      have : (w :: ws.take i)[(w :: ws.take i).length - 1]? = some x := by
        rw [hl, e, List.getElem?_take_of_lt (by omega)]
        exact hx
      exact (List.getElem?_eq_some_iff.mp this).2
    rw [last]
theorem lawTxt_one (w : List Nat) (ws : List (List Nat)) : lawTxt ((w :: ws).take 1) = w := by
  show w ++ [] = w
  exact List.append_nil w
def spPW (K : PySem.W.Frag) : Sp := fun vs H Q _ => ∃ (a : Addr) (us : List V) (ps : List Pa), vs = [.ref a] ∧ SqT K H a us ∧ DpAll K H us (ps.map paD) ∧ (∀ p ∈ ps, paOk p) ∧ ps.length ≤ 400000 ∧
  ∀ p H', Same H H' → H' p = some (.lst ((ps.map paC).map fun w => V.str (SX.S w))) → Q (.ref p) H'
def wordV (ws : List (List Nat)) : List V := ws.map fun w => V.str (SX.S w)
def spWords (K : PySem.W.Frag) (j : Nat) : Sp := fun vs H Q _ => ∃ (v : V) (b : Br), vs = [v] ∧ Dp K H v (brD b) ∧ okB j b ∧ (txtC b).length ≤ 400000 ∧ ∀ p H', Same H H' → H' p = some (.lst (wordV (wordsC b))) → Q (.ref p) H'
def spWordsB (K : PySem.W.Frag) (j : Nat) : Sp := fun vs H Q E => 1 ≤ j ∧ spWords K (j - 1) vs H Q E
def spLawTxt (K : PySem.W.Frag) : Sp := fun vs H Q _ => ∃ (L : Addr) (ws : List (List Nat)), vs = [.ref L] ∧ SqL K H L (wordV ws) ∧ ws.length ≤ 400000 ∧ (lawTxt ws).length ≤ 400000 ∧ ∀ H', Same H H' → Q (.str (SX.S (lawTxt ws))) H'
theorem S_eq (a b : List Nat) : (V.str (SX.S a) = V.str (SX.S b)) ↔ a = b := ⟨fun h => SX.S_inj (V.str.inj h), fun h => by rw [h]⟩
theorem behind_take_len (p : List Nat) : ∀ (ws : List (List Nat)) (i : Nat), (behind p (ws.take i)).length ≤ (behind p ws).length
  | [], i => by rw [List.take_nil]; exact Nat.le_refl _
  | w :: ws, 0 => Nat.zero_le _
  | w :: ws, i + 1 => by
    show ((if w ≠ [41] ∧ p ≠ [40] then [32] else []) ++ (w ++ behind w (ws.take i))).length ≤ ((if w ≠ [41] ∧ p ≠ [40] then [32] else []) ++ (w ++ behind w ws)).length
    have := behind_take_len w ws i
    simp only [List.length_append]
    omega
theorem lawTxt_take_len (ws : List (List Nat)) (i : Nat) : (lawTxt (ws.take i)).length ≤ (lawTxt ws).length := by
  cases ws with
  | nil => rw [List.take_nil]; exact Nat.le_refl _
  | cons w ws =>
    cases i with
    | zero => exact Nat.zero_le _
    | succ i =>
      show (w ++ behind w (ws.take i)).length ≤ (w ++ behind w ws).length
      have := behind_take_len w ws i
      simp only [List.length_append]
      omega
theorem paC_pos (p : Pa) : 1 ≤ (paC p).length := by
  cases p with
  | bit b => exact Nat.le_refl 1
  | ref i => exact Nat.succ_le_succ (Nat.zero_le _)
theorem sum_pos {l : List (List Nat)} (h : ∀ x ∈ l, 1 ≤ x.length) : l.length ≤ (l.map List.length).sum := by
  induction l with
  | nil => exact Nat.le_refl 0
  | cons x l ih =>
    rw [List.map_cons, List.sum_cons, List.length_cons]
    have h1 := h x List.mem_cons_self
    have h2 := ih fun y hy => h y (List.mem_cons_of_mem _ hy)
    omega
theorem join_ge (ps : List Pa) : ps.length ≤ (TL.joinL [32] (ps.map paC)).length := by
  cases ps with
  | nil => exact Nat.zero_le _
  | cons p ps =>
    rw [List.map_cons, join_sum, List.length_cons, List.length_map]
    have := paC_pos p
    omega
mutual
theorem words_len : ∀ b : Br, (wordsC b).length ≤ (txtC b).length
  | .say ps => by
    show (ps.map paC ++ [[41]]).length + 1 + 1 ≤ (TL.joinL [32] (sayC :: ps.map paC) ++ [41]).length + 1
    rw [List.length_append, List.length_append, join_sum, List.length_map]
    show _ + 1 + 1 + 1 ≤ 3 + _ + _ + 1 + 1
    omega
  | .toss bs => by
    show (wordssC bs ++ [[41]]).length + 1 + 1 ≤ (TL.joinL [32] (tossC :: txtsC bs) ++ [41]).length + 1
    rw [List.length_append, List.length_append, join_sum]
    have := wordss_len bs
    show _ + 1 + 1 + 1 ≤ 4 + _ + _ + 1 + 1
    omega
  | .look i a b => by
    show (wordsC a ++ (wordsC b ++ [[41]])).length + 1 + 1 + 1 ≤ (TL.joinL [32] [lookC, TL.numL i, txtC a, txtC b] ++ [41]).length + 1
    rw [List.length_append, List.length_append, List.length_append, join_sum]
    have h1 := words_len a
    have h2 := words_len b
    show _ + (_ + 1) + 1 + 1 + 1 ≤ 4 + ((TL.numL i).length + ((txtC a).length + ((txtC b).length + 0))) + 3 + 1 + 1
    omega
  | .ask ps a => by
    show (ps.map paC ++ [41] :: (wordsC a ++ [[41]])).length + 1 + 1 + 1 ≤ (TL.joinL [32] [askC, 40 :: (TL.joinL [32] (ps.map paC) ++ [41]), txtC a] ++ [41]).length + 1
    rw [List.length_append, List.length_cons, List.length_append, List.length_append, join_sum, List.length_map]
    have h1 := words_len a
    have h2 := join_ge ps
    show _ + (_ + 1 + 1) + 1 + 1 + 1 ≤ 3 + ((TL.joinL [32] (ps.map paC) ++ [41]).length + 1 + ((txtC a).length + 0)) + 2 + 1 + 1
    rw [List.length_append]
    omega
theorem wordss_len : ∀ bs : List Br, (wordssC bs).length ≤ ((txtsC bs).map List.length).sum
  | [] => Nat.le_refl 0
  | b :: bs => by
    show (wordsC b ++ wordssC bs).length ≤ ((txtC b :: txtsC bs).map List.length).sum
    rw [List.length_append, List.map_cons, List.sum_cons]
    have h1 := words_len b
    have h2 := wordss_len bs
    omega
end
theorem par_S : (Str.ofString "(" : Str) = SX.S [40] := by decide +kernel
theorem cl_S : (Str.ofString ")" : Str) = SX.S [41] := by decide +kernel
theorem wordV_app (a b : List (List Nat)) : wordV (a ++ b) = wordV a ++ wordV b := by
  unfold wordV
  rw [List.map_append]
theorem wordV_len (a : List (List Nat)) : (wordV a).length = a.length := by
  unfold wordV
  rw [List.length_map]
theorem wordss_app : ∀ a b : List Br, wordssC (a ++ b) = wordssC a ++ wordssC b
  | [], b => rfl
  | x :: a, b => by
    show wordsC x ++ wordssC (a ++ b) = (wordsC x ++ wordssC a) ++ wordssC b
    rw [wordss_app a b, List.append_assoc]
theorem free_of {H H' : Hp} {p : Addr} (s : Same H H') (h : H' p = none) : H p = none := by
  cases e : H p with
  | none => rfl
  | some o =>
    rw [s p o e] at h
    cases h

/-! ### the reader's stack, word by word -/
/-- an open list that awaits a breaker -/
inductive Aw : List PyData → Prop where
  | toss (xs : List PyData) : Aw (.str "toss" :: xs)
  | look0 (i : Int) : Aw [.str "look", .int i]
  | look1 (i : Int) (a : PyData) : Aw [.str "look", .int i, a]
  | ask (ps : List PyData) : Aw [.str "ask", .tuple ps]
/-- what a list that is full is told as -/
inductive Told : List PyData → PyData → Prop where
  | parts (ps : List PyData) : Told (.str "parts" :: ps) (.tuple ps)
  | say (ps : List PyData) : Told (.str "say" :: ps) (.tuple [.str "say", .tuple ps])
  | toss (b : PyData) (bs : List PyData) : Told (.str "toss" :: b :: bs) (.tuple [.str "toss", .tuple (b :: bs)])
  | look (i : Int) (a b : PyData) : Told [.str "look", .int i, a, b] (.tuple [.str "look", .int i, a, b])
  | ask (ps : List PyData) (a : PyData) : Told [.str "ask", .tuple ps, a] (.tuple [.str "ask", .tuple ps, a])
/-- one word: the stack (the innermost list first), then the last breaker found -/
inductive Step : List (List PyData) → List Nat → List (List PyData) → Option PyData → Prop where
  | open0 : Step [] [40] [[]] none
  | openA (st : List (List PyData)) : Step ([.str "ask"] :: st) [40] ([.str "parts"] :: [.str "ask"] :: st) none
  | openB (top : List PyData) (st : List (List PyData)) (h : Aw top) : Step (top :: st) [40] ([] :: top :: st) none
  | kind (k : List Nat) (st : List (List PyData)) (h : k ∈ [sayC, tossC, lookC, askC]) : Step ([] :: st) k ([.str (SX.S k)] :: st) none
  | part (k : Str) (xs : List PyData) (st : List (List PyData)) (p : Pa) (h : k = "say" ∨ k = "parts") (hp : paOk p) : Step ((.str k :: xs) :: st) (paC p) ((.str k :: (xs ++ [paD p])) :: st) none
  | num (i : Nat) (st : List (List PyData)) (h : i ≤ 9999) : Step ([.str "look"] :: st) (TL.numL i) ([.str "look", .int (i : Int)] :: st) none
  | close (top under : List PyData) (d : PyData) (st : List (List PyData)) (h : Told top d) : Step (top :: under :: st) [41] ((under ++ [d]) :: st) (some d)
  | close0 (top : List PyData) (d : PyData) (h : Told top d) : Step [top] [41] [] (some d)
inductive Steps : List (List PyData) → Option PyData → List (List Nat) → List (List PyData) → Option PyData → Prop where
  | nil (S : List (List PyData)) (f : Option PyData) : Steps S f [] S f
  | cons {S S1 S2 : List (List PyData)} {f g f2 : Option PyData} {w : List Nat} {ws : List (List Nat)} (e : S = [] → f = none) (h : Step S w S1 g) (r : Steps S1 (g <|> f) ws S2 f2) : Steps S f (w :: ws) S2 f2
theorem Steps.trans {S S1 S2 : List (List PyData)} {f f1 f2 : Option PyData} {ws vs : List (List Nat)} (a : Steps S f ws S1 f1) (b : Steps S1 f1 vs S2 f2) : Steps S f (ws ++ vs) S2 f2 := by
  induction a with
  | nil => exact b
  | cons e h r ih => exact .cons e h (ih b)
theorem Steps.one {S S1 : List (List PyData)} {f g : Option PyData} {w : List Nat} (e : S = [] → f = none) (h : Step S w S1 g) : Steps S f [w] S1 (g <|> f) := .cons e h (.nil _ _)
theorem nz {a : List PyData} {st : List (List PyData)} {f : Option PyData} : a :: st = [] → f = none := fun h => nomatch h
theorem steps_parts {k : Str} (hk : k = "say" ∨ k = "parts") {st : List (List PyData)} {f : Option PyData} : ∀ (ps : List Pa) (xs : List PyData), (∀ p ∈ ps, paOk p) → Steps ((.str k :: xs) :: st) f (ps.map paC) ((.str k :: (xs ++ ps.map paD)) :: st) f
  | [], xs, _ => by
    rw [List.map_nil, List.map_nil, List.append_nil]
    exact .nil _ _
  | p :: ps, xs, h => by
    rw [List.map_cons, List.map_cons, List.append_cons]
    exact .cons nz (.part k xs st p hk (h p List.mem_cons_self)) (steps_parts hk ps (xs ++ [paD p]) fun q hq => h q (List.mem_cons_of_mem _ hq))
def midC : Br → List (List Nat)
  | .say ps => sayC :: ps.map paC
  | .toss bs => tossC :: wordssC bs
  | .look i a b => lookC :: TL.numL i :: (wordsC a ++ wordsC b)
  | .ask ps a => askC :: [40] :: (ps.map paC ++ [41] :: wordsC a)
theorem words_mid : ∀ b : Br, wordsC b = [40] :: (midC b ++ [[41]])
  | .say ps => rfl
  | .toss bs => rfl
  | .look i a b => by
    show [40] :: lookC :: TL.numL i :: (wordsC a ++ (wordsC b ++ [[41]])) = [40] :: (lookC :: TL.numL i :: (wordsC a ++ wordsC b) ++ [[41]])
    simp
  | .ask ps a => by
    show [40] :: askC :: [40] :: (ps.map paC ++ [41] :: (wordsC a ++ [[41]])) = [40] :: (askC :: [40] :: (ps.map paC ++ [41] :: wordsC a) ++ [[41]])
    simp
mutual
theorem steps_mid : ∀ (b : Br) {n : Nat} (st : List (List PyData)) (f : Option PyData), okB n b → ∃ top f', Steps ([] :: st) f (midC b) (top :: st) f' ∧ Told top (brD b)
  | .say ps, 0, st, f, h => h.elim
  | .say ps, n + 1, st, f, h => by
    refine ⟨.str "say" :: ps.map paD, f, .cons nz (.kind sayC st (by simp)) ?_, ?_⟩
    · rw [← say_S]
      exact steps_parts (.inl rfl) ps [] h
    · exact .say _
  | .toss bs, 0, st, f, h => h.elim
  | .toss bs, n + 1, st, f, h => by
    obtain ⟨f', r⟩ := steps_brs bs [] st f h.2
    refine ⟨.str "toss" :: brsD bs, f', .cons nz (.kind tossC st (by simp)) ?_, ?_⟩
    · rw [← toss_S]
      exact r
    · show Told _ (.tuple [.str "toss", .tuple (brsD bs)])
      cases bs with
      | nil => exact absurd rfl h.1
      | cons b bs => exact .toss _ _
  | .look i a b, 0, st, f, h => h.elim
  | .look i a b, n + 1, st, f, h => by
    obtain ⟨h1, h2, h3⟩ := h
    obtain ⟨f1, r1⟩ := steps_br a (n := n) [.str "look", .int (i : Int)] st f (.look0 _) h2
    obtain ⟨f2, r2⟩ := steps_br b (n := n) [.str "look", .int (i : Int), brD a] st f1 (.look1 _ _) h3
    refine ⟨[.str "look", .int (i : Int), brD a, brD b], f2, .cons nz (.kind lookC st (by simp)) ?_, .look _ _ _⟩
    rw [← look_S]
    exact .cons nz (.num i st h1) (r1.trans r2)
  | .ask ps a, 0, st, f, h => h.elim
  | .ask ps a, n + 1, st, f, h => by
    obtain ⟨h1, h2⟩ := h
    obtain ⟨f1, r1⟩ := steps_br a (n := n) [.str "ask", psD ps] st (some (psD ps)) (.ask _) h2
    refine ⟨[.str "ask", psD ps, brD a], f1, .cons nz (.kind askC st (by simp)) ?_, .ask _ _⟩
    rw [← ask_S]
    refine .cons nz (.openA st) ((steps_parts (.inr rfl) ps [] h1).trans ?_)
    exact .cons nz (.close _ _ _ _ (.parts _)) r1
theorem steps_br : ∀ (b : Br) {n : Nat} (top : List PyData) (st : List (List PyData)) (f : Option PyData), Aw top → okB n b → ∃ f', Steps (top :: st) f (wordsC b) ((top ++ [brD b]) :: st) f'
  | b, n, top, st, f, aw, h => by
    obtain ⟨t, f', r, told⟩ := steps_mid b (top :: st) f h
    rw [words_mid b]
    exact ⟨_, .cons nz (.openB top st aw) (r.trans (Steps.one nz (.close t top _ st told)))⟩
theorem steps_brs : ∀ (bs : List Br) {n : Nat} (xs : List PyData) (st : List (List PyData)) (f : Option PyData), (∀ b ∈ bs, okB n b) → ∃ f', Steps ((.str "toss" :: xs) :: st) f (wordssC bs) ((.str "toss" :: (xs ++ brsD bs)) :: st) f'
  | [], n, xs, st, f, h => by
    refine ⟨f, ?_⟩
    show Steps _ f [] ((.str "toss" :: (xs ++ [])) :: st) f
    rw [List.append_nil]
    exact .nil _ _
  | b :: bs, n, xs, st, f, h => by
    obtain ⟨f1, r1⟩ := steps_br b (n := n) (.str "toss" :: xs) st f (.toss xs) (h b List.mem_cons_self)
    obtain ⟨f2, r2⟩ := steps_brs bs (n := n) (xs ++ [brD b]) st f1 fun x hx => h x (List.mem_cons_of_mem _ hx)
    refine ⟨f2, ?_⟩
    show Steps _ f (wordsC b ++ wordssC bs) ((.str "toss" :: (xs ++ brD b :: brsD bs)) :: st) f2
    rw [List.append_cons]
    exact r1.trans r2
end
/-- a breaker's words, read from the start -/
theorem steps_all {b : Br} {n : Nat} (h : okB n b) : Steps [] none (wordsC b) [] (some (brD b)) := by
  obtain ⟨t, f', r, told⟩ := steps_mid b [] none h
  rw [words_mid b]
  exact .cons (fun _ => rfl) .open0 (r.trans (Steps.one nz (.close0 t _ told)))

/-! ### a text read sign by sign -/
/-- an open breaker that awaits one more -/
inductive Und where
  | toss (bs : List Br)
  | look1 (i : Nat)
  | look2 (i : Nat) (a : Br)
  | ask1 (ps : List Pa)
inductive Top where
  | name
  | say (ps : List Pa)
  | list (ps : List Pa)
  | und (u : Und)
  | look0
  | look3 (i : Nat) (a b : Br)
  | ask0
  | ask2 (ps : List Pa) (a : Br)
inductive Rs where
  | start
  | whole (b : Br)
  | op (t : Top) (us : List Und)
inductive Kd where
  | kind
  | part
  | num
def putU : Und → Br → Top
  | .toss bs, b => .und (.toss (bs ++ [b]))
  | .look1 i, a => .und (.look2 i a)
  | .look2 i a, b => .look3 i a b
  | .ask1 ps, a => .ask2 ps a
def doneR (b : Br) : List Und → Rs
  | [] => .whole b
  | u :: us => .op (putU u b) us
def opnR : Rs → Option Rs
  | .start => some (.op .name [])
  | .op (.und u) us => some (.op .name (u :: us))
  | .op .ask0 us => some (.op (.list []) us)
  | _ => none
/-- the breaker that is closed -/
def clsB : Top → Option Br
  | .say ps => some (.say ps)
  | .und (.toss (b :: bs)) => some (.toss (b :: bs))
  | .look3 i a b => some (.look i a b)
  | .ask2 ps a => some (.ask ps a)
  | _ => none
def clsR : Rs → Option Rs
  | .op (.list ps) us => some (.op (.und (.ask1 ps)) us)
  | .op t us => (clsB t).map fun b => doneR b us
  | _ => none
def kdT : Top → Option Kd
  | .name => some .kind
  | .say _ => some .part
  | .list _ => some .part
  | .look0 => some .num
  | _ => none
def kdR : Rs → Option Kd
  | .op t _ => kdT t
  | _ => none
def figL : List Nat := [48, 49, 50, 51, 52, 53, 54, 55, 56, 57]
def kindsL : List (List Nat) := [sayC, tossC, lookC, askC]
def numX : List Nat → Bool
  | [] => false
  | c :: t => decide (c ∈ figL) && (t.isEmpty || (decide (c ≠ 48) && t.all fun d => decide (d ∈ figL)))
def partX : List Nat → Bool
  | [] => false
  | c :: t => if c = 98 then t.isEmpty || numX t else decide (c ∈ [48, 49]) && t.isEmpty
/-- some word of the kind begins so -/
def extK : Kd → List Nat → Bool
  | .kind, w => kindsL.any fun o => decide (o.take w.length = w)
  | .num, w => numX w
  | .part, w => partX w
def wholeK : Kd → List Nat → Bool
  | .kind, w => decide (w ∈ kindsL)
  | .num, _ => true
  | .part, w => decide (w ≠ [98])
def runK (k : Kd) : List Nat → List Nat → Nat
  | _, [] => 0
  | pre, c :: t => if extK k (pre ++ [c]) = true then runK k (pre ++ [c]) t + 1 else 0
def paW : List Nat → Pa
  | [] => .bit false
  | c :: t => if c = 98 then .ref (NumText.digitsVal t) else .bit (decide (c = 49))
def namT (w : List Nat) : Top := if w = sayC then .say [] else if w = tossC then .und (.toss []) else if w = lookC then .look0 else .ask0
/-- a word put behind what was read -/
def flT : Top → List Nat → Top
  | .name, w => namT w
  | .say ps, w => .say (ps ++ [paW w])
  | .list ps, w => .list (ps ++ [paW w])
  | .look0, w => .und (.look1 (NumText.digitsVal w))
  | t, _ => t
def flR : Rs → List Nat → Rs
  | .op t us, w => .op (flT t w) us
  | r, _ => r
inductive LS where
  | bd (r : Rs)
  | inw (r : Rs) (w : List Nat)
def bstep (r : Rs) (c : Nat) (glued : Bool) : Option LS :=
  if c = 32 then some (.bd r) else if c = 40 then (opnR r).map .bd else if c = 41 then (clsR r).map .bd
  else if glued = true then none else match kdR r with
    | some k => if extK k [c] = true then some (.inw r [c]) else none
    | none => none
def lstep : LS → Nat → Option LS
  | .bd r, c => bstep r c false
  | .inw r w, c => match kdR r with
    | some k => if extK k (w ++ [c]) = true then some (.inw r (w ++ [c])) else if wholeK k w = true then bstep (flR r w) c true else none
    | none => none
inductive Res where
  | bad (n : Nat)
  | good (b : Br)
def endR : LS → Nat → Res
  | .bd (.whole b), _ => .good b
  | _, n => .bad n
def lrun : LS → List Nat → Nat → Res
  | s, [], n => endR s n
  | s, c :: t, n => match lstep s c with
    | some s' => lrun s' t (n + 1)
    | none => .bad n
def Wch (c : Nat) : Prop := c ≠ 32 ∧ c ≠ 40 ∧ c ≠ 41
theorem numX_sign {w : List Nat} (h : numX w = true) : ∀ c ∈ w, c ∈ figL := by
  cases w with
  | nil => cases h
  | cons x t =>
    obtain ⟨h1, h2⟩ := Bool.and_eq_true_iff.mp h
    intro c hc
    rcases List.mem_cons.mp hc with e | hc
    · rw [e]
      exact of_decide_eq_true h1
    · rcases Bool.or_eq_true_iff.mp h2 with z | z
      · rw [List.isEmpty_iff.mp z] at hc
        cases hc
      · obtain ⟨_, z⟩ := Bool.and_eq_true_iff.mp z
        exact of_decide_eq_true (List.all_eq_true.mp z c hc)
theorem figL_wch {c : Nat} (h : c ∈ figL) : Wch c := by
  have : c ∈ [48, 49, 50, 51, 52, 53, 54, 55, 56, 57] := h
  simp only [List.mem_cons, List.not_mem_nil, or_false] at this
  unfold Wch
  omega
theorem ext_wch {k : Kd} {w : List Nat} (h : extK k w = true) : ∀ c ∈ w, Wch c := by
  intro c hc
  cases k with
  | kind =>
    obtain ⟨o, ho, e⟩ := List.any_eq_true.mp (show (kindsL.any fun o => decide (o.take w.length = w)) = true from h)
    have e := of_decide_eq_true e
    have hc2 : c ∈ o := by
      rw [← e] at hc
      exact List.mem_of_mem_take hc
    have key : ∀ o ∈ kindsL, ∀ x ∈ o, x ≠ 32 ∧ x ≠ 40 ∧ x ≠ 41 := by decide
    exact key o ho c hc2
  | num => exact figL_wch (numX_sign h c hc)
  | part =>
    have h : partX w = true := h
    cases w with
    | nil => cases hc
    | cons x t =>
      have h : (if x = 98 then t.isEmpty || numX t else decide (x ∈ [48, 49]) && t.isEmpty) = true := h
      split at h
      · rename_i e
        rcases List.mem_cons.mp hc with z | z
        · rw [z, e]
          exact ⟨by decide, by decide, by decide⟩
        · rcases Bool.or_eq_true_iff.mp h with y | y
          · rw [List.isEmpty_iff.mp y] at z
            cases z
          · exact figL_wch (numX_sign y c z)
      · obtain ⟨h1, h2⟩ := Bool.and_eq_true_iff.mp h
        rw [List.isEmpty_iff.mp h2] at hc
        rw [List.mem_singleton.mp hc]
        have h1 := of_decide_eq_true h1
        simp only [List.mem_cons, List.not_mem_nil, or_false] at h1
        unfold Wch
        omega
theorem ext_not {k : Kd} {w : List Nat} {c : Nat} (h : c = 32 ∨ c = 40 ∨ c = 41) : extK k (w ++ [c]) = false := by
  cases e : extK k (w ++ [c]) with
  | false => rfl
  | true =>
    have := ext_wch e c (List.mem_append_right _ List.mem_cons_self)
    unfold Wch at this
    omega
theorem bstep_glue {r : Rs} {c : Nat} {g : Bool} (h : c = 32 ∨ c = 40 ∨ c = 41) : bstep r c g = bstep r c false := by
  rcases h with e | e | e <;> subst e <;> rfl
theorem bstep_word {r : Rs} {c : Nat} (h : Wch c) : bstep r c true = none := by
  unfold bstep
  rw [if_neg h.1, if_neg h.2.1, if_neg h.2.2, if_pos rfl]
theorem bstep_new {r : Rs} {c : Nat} (h : Wch c) : bstep r c false = match kdR r with
    | some k => if extK k [c] = true then some (.inw r [c]) else none
    | none => none := by
  unfold bstep
  rw [if_neg h.1, if_neg h.2.1, if_neg h.2.2, if_neg (by decide)]
theorem fl_end {r : Rs} {k : Kd} (w : List Nat) (h : kdR r = some k) (n : Nat) : endR (.bd (flR r w)) n = .bad n := by
  cases r with
  | op t us => rfl
  | start => cases h
  | whole b => cases h
def Stop (rest : List Nat) : Prop := ∀ c l, rest = c :: l → c = 32 ∨ c = 40 ∨ c = 41
theorem inw_run {r : Rs} {k : Kd} (hk : kdR r = some k) {rest : List Nat} (hr : Stop rest) : ∀ (w pre : List Nat) (n : Nat), (∀ c ∈ w, Wch c) →
    lrun (.inw r pre) (w ++ rest) n = if runK k pre w < w.length then .bad (n + runK k pre w) else if wholeK k (pre ++ w) = true then lrun (.bd (flR r (pre ++ w))) rest (n + w.length) else .bad (n + w.length)
  | [], pre, n, _ => by
    rw [if_neg (show ¬ runK k pre [] < ([] : List Nat).length from Nat.not_lt_zero _), List.append_nil]
    show lrun (.inw r pre) rest n = if wholeK k pre = true then lrun (.bd (flR r pre)) rest n else .bad n
    cases rest with
    | nil =>
      show Res.bad n = if wholeK k pre = true then endR (.bd (flR r pre)) n else .bad n
      rw [fl_end pre hk, ite_self]
    | cons d l =>
      have hd := hr d l rfl
      have e : lstep (.inw r pre) d = if wholeK k pre = true then bstep (flR r pre) d false else none := by
        show (match kdR r with
          | some k => if extK k (pre ++ [d]) = true then some (LS.inw r (pre ++ [d])) else if wholeK k pre = true then bstep (flR r pre) d true else none
          | none => none) = _
        rw [hk]
        show (if extK k (pre ++ [d]) = true then some (LS.inw r (pre ++ [d])) else if wholeK k pre = true then bstep (flR r pre) d true else none) = _
        rw [ext_not hd, if_neg (by decide), bstep_glue hd]
      show (match lstep (.inw r pre) d with
        | some s' => lrun s' l (n + 1)
        | none => .bad n) = if wholeK k pre = true then (match lstep (.bd (flR r pre)) d with
        | some s' => lrun s' l (n + 1)
        | none => .bad n) else .bad n
      rw [e]
      by_cases hw : wholeK k pre = true
      · rw [if_pos hw, if_pos hw]
        rfl
      · rw [if_neg hw, if_neg hw]
  | c :: w, pre, n, h => by
    have hc := h c List.mem_cons_self
    show (match lstep (.inw r pre) c with
        | some s' => lrun s' (w ++ rest) (n + 1)
        | none => .bad n) = _
    have e : lstep (.inw r pre) c = if extK k (pre ++ [c]) = true then some (LS.inw r (pre ++ [c])) else none := by
      show (match kdR r with
          | some k => if extK k (pre ++ [c]) = true then some (LS.inw r (pre ++ [c])) else if wholeK k pre = true then bstep (flR r pre) c true else none
          | none => none) = _
      rw [hk]
      show (if extK k (pre ++ [c]) = true then some (LS.inw r (pre ++ [c])) else if wholeK k pre = true then bstep (flR r pre) c true else none) = _
      rw [bstep_word hc, ite_self]
    rw [e]
    have er : runK k pre (c :: w) = if extK k (pre ++ [c]) = true then runK k (pre ++ [c]) w + 1 else 0 := rfl
    rw [er]
    by_cases hx : extK k (pre ++ [c]) = true
    · rw [if_pos hx, if_pos hx]
      show lrun (.inw r (pre ++ [c])) (w ++ rest) (n + 1) = _
      rw [inw_run hk hr w (pre ++ [c]) (n + 1) fun x hx => h x (List.mem_cons_of_mem _ hx), List.append_assoc, List.length_cons]
      show (if runK k (pre ++ [c]) w < w.length then Res.bad (n + 1 + runK k (pre ++ [c]) w) else if wholeK k (pre ++ c :: w) = true then lrun (.bd (flR r (pre ++ c :: w))) rest (n + 1 + w.length) else .bad (n + 1 + w.length)) = _
      rw [show n + 1 + runK k (pre ++ [c]) w = n + (runK k (pre ++ [c]) w + 1) by omega, show n + 1 + w.length = n + (w.length + 1) by omega]
      by_cases hl : runK k (pre ++ [c]) w < w.length
      · rw [if_pos hl, if_pos (show runK k (pre ++ [c]) w + 1 < w.length + 1 by omega)]
      · rw [if_neg hl, if_neg (show ¬ runK k (pre ++ [c]) w + 1 < w.length + 1 by omega)]
    · rw [if_neg hx, if_neg hx, if_pos (by rw [List.length_cons]; omega)]
      rfl
/-- a word that begins where something else may stand -/
theorem word_run {r : Rs} {k : Kd} (hk : kdR r = some k) {rest : List Nat} (hr : Stop rest) {w : List Nat} (hw : w ≠ []) (n : Nat) (h : ∀ c ∈ w, Wch c) :
    lrun (.bd r) (w ++ rest) n = if runK k [] w < w.length then .bad (n + runK k [] w) else if wholeK k w = true then lrun (.bd (flR r w)) rest (n + w.length) else .bad (n + w.length) := by
  cases w with
  | nil => exact absurd rfl hw
  | cons c w =>
    have hc := h c List.mem_cons_self
    show (match bstep r c false with
        | some s' => lrun s' (w ++ rest) (n + 1)
        | none => .bad n) = _
    rw [bstep_new hc, hk]
    show (match (if extK k [c] = true then some (LS.inw r [c]) else none) with
        | some s' => lrun s' (w ++ rest) (n + 1)
        | none => .bad n) = _
    have er : runK k [] (c :: w) = if extK k [c] = true then runK k [c] w + 1 else 0 := rfl
    rw [er]
    by_cases hx : extK k [c] = true
    · rw [if_pos hx, if_pos hx]
      show lrun (.inw r [c]) (w ++ rest) (n + 1) = _
      rw [inw_run hk hr w [c] (n + 1) fun x hx => h x (List.mem_cons_of_mem _ hx), List.length_cons]
      show (if runK k [c] w < w.length then Res.bad (n + 1 + runK k [c] w) else if wholeK k (c :: w) = true then lrun (.bd (flR r (c :: w))) rest (n + 1 + w.length) else .bad (n + 1 + w.length)) = _
      rw [show n + 1 + runK k [c] w = n + (runK k [c] w + 1) by omega, show n + 1 + w.length = n + (w.length + 1) by omega]
      by_cases hl : runK k [c] w < w.length
      · rw [if_pos hl, if_pos (show runK k [c] w + 1 < w.length + 1 by omega)]
      · rw [if_neg hl, if_neg (show ¬ runK k [c] w + 1 < w.length + 1 by omega)]
    · rw [if_neg hx, if_neg hx, if_pos (by rw [List.length_cons]; omega)]
      rfl
theorem noword_run {r : Rs} (hk : kdR r = none) {c : Nat} {l : List Nat} (n : Nat) (h : Wch c) : lrun (.bd r) (c :: l) n = .bad n := by
  show (match bstep r c false with
        | some s' => lrun s' l (n + 1)
        | none => .bad n) = _
  rw [bstep_new h, hk]
theorem blank_run {r : Rs} {l : List Nat} (n : Nat) : lrun (.bd r) (32 :: l) n = lrun (.bd r) l (n + 1) := rfl
theorem open_run {r : Rs} {l : List Nat} (n : Nat) : lrun (.bd r) (40 :: l) n = match opnR r with
    | some r' => lrun (.bd r') l (n + 1)
    | none => .bad n := by
  show (match (opnR r).map LS.bd with
        | some s' => lrun s' l (n + 1)
        | none => .bad n) = _
  cases opnR r <;> rfl
theorem close_run {r : Rs} {l : List Nat} (n : Nat) : lrun (.bd r) (41 :: l) n = match clsR r with
    | some r' => lrun (.bd r') l (n + 1)
    | none => .bad n := by
  show (match (clsR r).map LS.bd with
        | some s' => lrun s' l (n + 1)
        | none => .bad n) = _
  cases clsR r <;> rfl
/-- so deep and no list longer -/
def okBr (L : Nat) : Nat → Br → Prop
  | 0, _ => False
  | _ + 1, .say ps => ps.length ≤ L
  | n + 1, .toss bs => bs.length ≤ L ∧ ∀ b ∈ bs, okBr L n b
  | n + 1, .look _ a b => okBr L n a ∧ okBr L n b
  | n + 1, .ask ps a => ps.length ≤ L ∧ okBr L n a
theorem okBr_up {L M : Nat} (hl : L ≤ M) : ∀ {n m : Nat} {b : Br}, n ≤ m → okBr L n b → okBr M m b
  | 0, _, _, _, h => h.elim
  | n + 1, 0, _, hn, _ => absurd hn (by omega)
  | n + 1, m + 1, .say ps, _, h => Nat.le_trans h hl
  | n + 1, m + 1, .toss bs, hn, h => ⟨Nat.le_trans h.1 hl, fun b hb => okBr_up hl (Nat.le_of_succ_le_succ hn) (h.2 b hb)⟩
  | n + 1, m + 1, .look _ a b, hn, h => ⟨okBr_up hl (Nat.le_of_succ_le_succ hn) h.1, okBr_up hl (Nat.le_of_succ_le_succ hn) h.2⟩
  | n + 1, m + 1, .ask ps a, hn, h => ⟨Nat.le_trans h.1 hl, okBr_up hl (Nat.le_of_succ_le_succ hn) h.2⟩
/-- what an open breaker holds: lists of at most L, breakers of at most so deep -/
def okUd (L n : Nat) : Und → Prop
  | .toss bs => bs.length ≤ L ∧ ∀ b ∈ bs, okBr L n b
  | .look1 _ => True
  | .look2 _ a => okBr L n a
  | .ask1 ps => ps.length ≤ L
def okTp (L n : Nat) : Top → Prop
  | .name => True
  | .say ps => ps.length ≤ L
  | .list ps => ps.length ≤ L
  | .und u => okUd L n u
  | .look0 => True
  | .look3 _ a b => okBr L n a ∧ okBr L n b
  | .ask0 => True
  | .ask2 ps a => ps.length ≤ L ∧ okBr L n a
/-- n parentheses were opened -/
def okUds (L n : Nat) : List Und → Prop
  | [] => True
  | u :: us => us.length + 1 ≤ n ∧ okUd L (n - (us.length + 1)) u ∧ okUds L n us
def okRs (L n : Nat) : Rs → Prop
  | .start => True
  | .whole b => okBr L n b
  | .op t us => us.length + 1 ≤ n ∧ okTp L (n - (us.length + 1)) t ∧ okUds L n us
theorem okUd_up {L M n m : Nat} (hl : L ≤ M) (hn : n ≤ m) : ∀ {u : Und}, okUd L n u → okUd M m u
  | .toss bs, h => ⟨Nat.le_trans h.1 hl, fun b hb => okBr_up hl hn (h.2 b hb)⟩
  | .look1 _, _ => trivial
  | .look2 _ a, h => okBr_up hl hn h
  | .ask1 ps, h => Nat.le_trans h hl
theorem okTp_up {L M n m : Nat} (hl : L ≤ M) (hn : n ≤ m) : ∀ {t : Top}, okTp L n t → okTp M m t
  | .name, _ => trivial
  | .say ps, h => Nat.le_trans h hl
  | .list ps, h => Nat.le_trans h hl
  | .und u, h => okUd_up hl hn h
  | .look0, _ => trivial
  | .look3 _ a b, h => ⟨okBr_up hl hn h.1, okBr_up hl hn h.2⟩
  | .ask0, _ => trivial
  | .ask2 ps a, h => ⟨Nat.le_trans h.1 hl, okBr_up hl hn h.2⟩
theorem okUds_up {L M n m : Nat} (hl : L ≤ M) (hn : n ≤ m) : ∀ {us : List Und}, okUds L n us → okUds M m us
  | [], _ => trivial
  | u :: us, h => ⟨by have := h.1; omega, okUd_up hl (by omega) h.2.1, okUds_up hl hn h.2.2⟩
theorem okRs_up {L M n m : Nat} (hl : L ≤ M) (hn : n ≤ m) : ∀ {r : Rs}, okRs L n r → okRs M m r
  | .start, _ => trivial
  | .whole b, h => okBr_up hl hn h
  | .op t us, h => ⟨by have := h.1; omega, okTp_up hl (by omega) h.2.1, okUds_up hl hn h.2.2⟩
theorem done_ok {L n : Nat} {b : Br} {us : List Und} (hu : okUds L n us) (hb : okBr L (n - us.length) b) : okRs (L + 1) n (doneR b us) := by
  cases us with
  | nil => exact okBr_up (Nat.le_succ L) (Nat.le_refl _) hb
  | cons u us =>
    obtain ⟨h1, h2, h3⟩ := hu
    refine ⟨h1, ?_, okUds_up (Nat.le_succ L) (Nat.le_refl _) h3⟩
    have hb : okBr L (n - (us.length + 1)) b := hb
    have hb1 := okBr_up (Nat.le_succ L) (Nat.le_refl _) hb
    have h2' := okUd_up (Nat.le_succ L) (Nat.le_refl _) h2
    cases u with
    | toss bs =>
      refine ⟨by rw [List.length_append]; exact Nat.succ_le_succ h2.1, fun x hx => ?_⟩
      rcases List.mem_append.mp hx with z | z
      · exact h2'.2 x z
      · rw [List.mem_singleton.mp z]
        exact hb1
    | look1 i => exact hb1
    | look2 i a => exact ⟨h2', hb1⟩
    | ask1 ps => exact ⟨h2', hb1⟩
theorem opn_ok {L n : Nat} {r r' : Rs} (h : okRs L n r) (e : opnR r = some r') : okRs (L + 1) (n + 1) r' := by
  cases r with
  | start =>
    cases e
    exact ⟨Nat.succ_le_succ (Nat.zero_le _), trivial, trivial⟩
  | whole b => cases e
  | op t us =>
    obtain ⟨h1, h2, h3⟩ := h
    cases t with
    | und u =>
      cases e
      exact ⟨by rw [List.length_cons]; omega, trivial, by omega, okUd_up (Nat.le_succ L) (by omega) h2, okUds_up (Nat.le_succ L) (Nat.le_succ n) h3⟩
    | ask0 =>
      cases e
      exact ⟨by omega, Nat.zero_le _, okUds_up (Nat.le_succ L) (Nat.le_succ n) h3⟩
    | _ => cases e
theorem cls_ok {L n : Nat} {r r' : Rs} (h : okRs L n r) (e : clsR r = some r') : okRs (L + 1) n r' := by
  cases r with
  | start => cases e
  | whole b => cases e
  | op t us =>
    obtain ⟨h1, h2, h3⟩ := h
    obtain ⟨m, em⟩ : ∃ m, n - us.length = m + 1 := ⟨n - (us.length + 1), by omega⟩
    have em2 : n - (us.length + 1) = m := by omega
    rw [em2] at h2
    cases t with
    | list ps =>
      cases e
      exact ⟨h1, Nat.le_succ_of_le h2, okUds_up (Nat.le_succ L) (Nat.le_refl _) h3⟩
    | say ps =>
      cases e
      exact done_ok h3 (by rw [em]; exact h2)
    | look3 i a b =>
      cases e
      exact done_ok h3 (by rw [em]; exact h2)
    | ask2 ps a =>
      cases e
      exact done_ok h3 (by rw [em]; exact h2)
    | und u =>
      cases u with
      | toss bs =>
        cases bs with
        | nil => cases e
        | cons b bs =>
          cases e
          exact done_ok h3 (by rw [em]; exact h2)
      | _ => cases e
    | _ => cases e
theorem fl_ok {L n : Nat} {r : Rs} {w : List Nat} (h : okRs L n r) : okRs (L + 1) n (flR r w) := by
  cases r with
  | start => trivial
  | whole b => exact okBr_up (Nat.le_succ L) (Nat.le_refl _) h
  | op t us =>
    obtain ⟨h1, h2, h3⟩ := h
    refine ⟨h1, ?_, okUds_up (Nat.le_succ L) (Nat.le_refl _) h3⟩
    cases t with
    | name =>
      show okTp _ _ (namT w)
      unfold namT
      split
      · exact Nat.zero_le _
      · split
        · exact ⟨Nat.zero_le _, fun b hb => nomatch hb⟩
        · split <;> trivial
    | say ps =>
      show (ps ++ [paW w]).length ≤ L + 1
      rw [List.length_append]
      exact Nat.succ_le_succ h2
    | list ps =>
      show (ps ++ [paW w]).length ≤ L + 1
      rw [List.length_append]
      exact Nat.succ_le_succ h2
    | _ => exact okTp_up (Nat.le_succ L) (Nat.le_refl _) h2

/-! ### a word's own readings -/
def spWordAt : Sp := fun vs H Q _ => ∃ (pre wd rest : List Nat), vs = [.str (SX.S (pre ++ wd ++ rest)), .int (pre.length : Int)] ∧ (pre ++ wd ++ rest).length ≤ 1000000 ∧ (∀ c ∈ wd, c ≠ 32 ∧ c ≠ 40 ∧ c ≠ 41) ∧ (∀ c l, rest = c :: l → c = 32 ∨ c = 40 ∨ c = 41) ∧ Q (.str (SX.S wd)) H
def spBegunNum : Sp := fun vs H Q _ => ∃ i : Nat, vs = [.str (SX.S (TL.numL i))] ∧ i ≤ 9999 ∧ Q (.int (((TL.numL i).length : Nat) : Int)) H
def com : List Nat → List Nat → Nat
  | a :: as, b :: bs => if a = b then com as bs + 1 else 0
  | _, _ => 0
def spShared : Sp := fun vs H Q _ => ∃ l m : List Nat, vs = [.str (SX.S l), .str (SX.S m)] ∧ l.length ≤ 1000 ∧ m.length ≤ 1000 ∧ Q (.int ((com l m : Nat) : Int)) H
theorem com_le : ∀ l m : List Nat, com l m ≤ l.length ∧ com l m ≤ m.length
  | [], m => ⟨Nat.zero_le _, Nat.zero_le _⟩
  | a :: as, [] => ⟨Nat.zero_le _, Nat.zero_le _⟩
  | a :: as, b :: bs => by
    have h := com_le as bs
    unfold com
    split
    · exact ⟨Nat.succ_le_succ h.1, Nat.succ_le_succ h.2⟩
    · exact ⟨Nat.zero_le _, Nat.zero_le _⟩
theorem com_take : ∀ (l m : List Nat) (k : Nat), k < l.length → k < m.length → k ≤ com l m → (l.take (k + 1) = m.take (k + 1) ↔ k < com l m)
  | [], m, k, h, _, _ => absurd h (Nat.not_lt_zero _)
  | a :: as, [], k, _, h, _ => absurd h (Nat.not_lt_zero _)
  | a :: as, b :: bs, k, h1, h2, h3 => by
    unfold com at h3 ⊢
    by_cases e : a = b
    · rw [if_pos e] at h3 ⊢
      cases k with
      | zero => simp [e]
      | succ k =>
        have ih := com_take as bs k (Nat.lt_of_succ_lt_succ h1) (Nat.lt_of_succ_lt_succ h2) (by omega)
        rw [List.take_succ_cons, List.take_succ_cons, e]
        simp only [List.cons.injEq, true_and]
        rw [ih]
        omega
    · rw [if_neg e] at h3 ⊢
      have : k = 0 := by omega
      subst this
      simp [e]
theorem cut_S {l : List Nat} {i j : Nat} (hi : i ≤ j) (hj : j ≤ l.length) : cutS (SX.S l) (some (i : Int)) (some (j : Int)) = SX.S ((l.drop i).take (j - i)) := by
  unfold cutS
  rw [ix_nat, ix_nat, SX.S_len, Nat.min_eq_left hj, Nat.min_eq_left (by omega)]
theorem cut_SP {l : List Nat} {j : Nat} : cutS (SX.S l) none (some (j : Int)) = SX.S (l.take j) := by
  unfold cutS
  rw [ix_nat, HT.sIx_none, SX.S_len, Nat.sub_zero]
  show SX.S ((l.drop 0).take (min j l.length)) = _
  rw [List.drop_zero]
  by_cases h : j ≤ l.length
  · rw [Nat.min_eq_left h]
  · rw [Nat.min_eq_right (by omega), List.take_of_length_le (Nat.le_refl _), List.take_of_length_le (by omega)]
theorem at_S {l : List Nat} {i c : Nat} (h : l[i]? = some c) : atI (SX.S l).cps.toList (i : Int) = some c := atI_nat h
theorem S_small {l : List Nat} (h : l.length ≤ 1000000) : (SX.S l).length ≤ sizeLine := by
  rw [SX.S_len, sizeLine_eq]
  omega
theorem par_signs : (Str.ofString " ()" : Str).cps.toList = [32, 40, 41] := by decide +kernel
theorem numL_head : ∀ n : Nat, 0 < n → ∃ c l, TL.numL n = c :: l ∧ c ≠ 48
  | n, h => by
    by_cases h10 : n < 10
    · exact ⟨48 + n, [], TL.numL_lt h10, by omega⟩
    · obtain ⟨c, l, e, hc⟩ := numL_head (n / 10) (by omega)
      refine ⟨c, l ++ [48 + n % 10], ?_, hc⟩
      rw [TL.numL_step (by omega), e]
      rfl
theorem numL_sign {n c : Nat} (h : c ∈ TL.numL n) : c ∈ [48, 49, 50, 51, 52, 53, 54, 55, 56, 57] := by
  have r := TL.numL_digits n c h
  simp only [List.mem_cons, List.not_mem_nil, or_false]
  omega
theorem fig_signs : (Str.ofString "0123456789" : Str).cps.toList = [48, 49, 50, 51, 52, 53, 54, 55, 56, 57] := by decide +kernel

theorem cut_SX {l : List Nat} {j : Nat} : cutS (SX.S l) (some (j : Int)) none = SX.S (l.drop j) := by
  unfold cutS
  rw [ix_nat, HT.sIx_none, SX.S_len]
  show SX.S ((l.drop (min j l.length)).take (l.length - min j l.length)) = _
  by_cases h : j ≤ l.length
  · rw [Nat.min_eq_left h, List.take_of_length_le (by rw [List.length_drop]; exact Nat.le_refl _)]
  · rw [Nat.min_eq_right (by omega), List.drop_length, List.drop_of_length_le (by omega), List.take_nil]
theorem com_self : ∀ l : List Nat, com l l = l.length
  | [] => rfl
  | a :: l => by
    unfold com
    rw [if_pos rfl, com_self l]
    rfl
theorem kinds_V : [V.str "say", V.str "toss", V.str "look", V.str "ask"] = [sayC, tossC, lookC, askC].map fun o => V.str (SX.S o) := by
  rw [say_S, toss_S, look_S, ask_S]
  rfl
theorem kinds_small {o : List Nat} (h : o ∈ [sayC, tossC, lookC, askC]) : o.length ≤ 4 := by
  simp only [List.mem_cons, List.not_mem_nil, or_false] at h
  rcases h with e | e | e | e <;> subst e <;> decide
theorem sign_is (c : Nat) (x : Str) (n : Nat) (hx : x = SX.S [n]) : decide (V.str (⟨#[c]⟩ : Str) = V.str x) = decide (c = n) := by
  subst hx
  by_cases e : c = n
  · rw [decide_eq_true e, decide_eq_true (show V.str (⟨#[c]⟩ : Str) = V.str (SX.S [n]) by rw [e])]
  · rw [decide_eq_false e, decide_eq_false fun h => e (List.cons.inj (SX.S_inj (a := [c]) (b := [n]) (V.str.inj h))).1]
theorem bl_S : (Str.ofString " " : Str) = SX.S [32] := by decide +kernel

/-! ### how far a word goes -/
def kdS : Kd → Str
  | .kind => "kind"
  | .part => "part"
  | .num => "number"
def lead : List Nat → Nat
  | [] => 0
  | c :: t => if c ∈ figL then lead t + 1 else 0
def bnum : List Nat → Nat
  | [] => 0
  | c :: t => if c = 48 then 1 else lead (c :: t)
theorem numX_eq {x : Nat} {t : List Nat} (h : x ∈ figL) (hx : x ≠ 48) (ht : ∀ d ∈ t, d ∈ figL) : numX (x :: t) = true := by
  show (decide (x ∈ figL) && (t.isEmpty || (decide (x ≠ 48) && t.all fun d => decide (d ∈ figL)))) = true
  rw [decide_eq_true h, decide_eq_true hx, List.all_eq_true.mpr fun d hd => decide_eq_true (ht d hd), Bool.and_self, Bool.or_true, Bool.true_and]
theorem run_fig {x : Nat} (h : x ∈ figL) (hx : x ≠ 48) : ∀ (w t : List Nat), (∀ d ∈ t, d ∈ figL) → runK .num (x :: t) w = lead w
  | [], t, _ => rfl
  | c :: w, t, ht => by
    show (if extK .num ((x :: t) ++ [c]) = true then runK .num ((x :: t) ++ [c]) w + 1 else 0) = if c ∈ figL then lead w + 1 else 0
    by_cases hc : c ∈ figL
    · have hts : ∀ d ∈ t ++ [c], d ∈ figL := fun d hd => by
        rcases List.mem_append.mp hd with z | z
        · exact ht d z
        · rw [List.mem_singleton.mp z]
          exact hc
      rw [if_pos hc, if_pos (show extK .num ((x :: t) ++ [c]) = true from numX_eq h hx hts)]
      exact congrArg Nat.succ (run_fig h hx w (t ++ [c]) hts)
    · rw [if_neg hc, if_neg (show ¬ extK .num ((x :: t) ++ [c]) = true from fun e => hc (numX_sign (w := (x :: t) ++ [c]) e c (List.mem_append_right _ List.mem_cons_self)))]
theorem run_num (w : List Nat) : runK .num [] w = bnum w := by
  cases w with
  | nil => rfl
  | cons c w =>
    show (if numX [c] = true then runK .num [c] w + 1 else 0) = if c = 48 then 1 else if c ∈ figL then lead w + 1 else 0
    by_cases z : c = 48
    · subst z
      rw [if_pos (by decide), if_pos rfl]
      cases w with
      | nil => rfl
      | cons d w =>
        show (if extK .num ([48] ++ [d]) = true then _ else 0) + 1 = 1
        have : extK .num ([48] ++ [d]) = false := by
          show (decide (48 ∈ figL) && ([d].isEmpty || (decide (48 ≠ 48) && [d].all fun x => decide (x ∈ figL)))) = false
          rfl
        rw [this]
        rfl
    · rw [if_neg z]
      by_cases h : c ∈ figL
      · have no : ∀ d ∈ ([] : List Nat), d ∈ figL := fun _ hd => nomatch hd
        rw [if_pos h, if_pos (numX_eq h z no), run_fig h z w [] no]
      · rw [if_neg h, if_neg fun e => h (numX_sign e c List.mem_cons_self)]
theorem run_b : ∀ (w pre : List Nat), runK .part (98 :: pre) w = runK .num pre w
  | [], _ => rfl
  | c :: w, pre => by
    have e : extK .part ((98 :: pre) ++ [c]) = extK .num (pre ++ [c]) := by
      show ((pre ++ [c]).isEmpty || numX (pre ++ [c])) = numX (pre ++ [c])
      cases h : pre ++ [c] with
      | nil => simp at h
      | cons _ _ => rfl
    show (if extK .part ((98 :: pre) ++ [c]) = true then runK .part ((98 :: pre) ++ [c]) w + 1 else 0) = if extK .num (pre ++ [c]) = true then runK .num (pre ++ [c]) w + 1 else 0
    rw [e, show (98 :: pre) ++ [c] = 98 :: (pre ++ [c]) from rfl, run_b w (pre ++ [c])]
theorem run_part (c : Nat) (t : List Nat) : runK .part [] (c :: t) = if c = 98 then 1 + bnum t else if c ∈ [48, 49] then 1 else 0 := by
  show (if partX [c] = true then runK .part [c] t + 1 else 0) = _
  by_cases z : c = 98
  · subst z
    rw [if_pos (show partX [98] = true from rfl), if_pos rfl, run_b, run_num, Nat.add_comm]
  · rw [if_neg z]
    have e : partX [c] = (decide (c ∈ [48, 49]) && true) := by
      show (if c = 98 then _ else decide (c ∈ [48, 49]) && true) = _
      rw [if_neg z]
    rw [e, Bool.and_true]
    by_cases h : c ∈ [48, 49]
    · rw [decide_eq_true h, if_pos rfl, if_pos h]
      cases t with
      | nil => rfl
      | cons d t =>
        have e : extK .part ([c] ++ [d]) = false := by
          show (if c = 98 then _ else decide (c ∈ [48, 49]) && false) = false
          rw [if_neg z, Bool.and_false]
        show (if extK .part ([c] ++ [d]) = true then _ else 0) + 1 = 1
        rw [e]
        rfl
    · rw [decide_eq_false h, if_neg (by decide), if_neg h]
theorem drop_cons_of {o pre : List Nat} {c : Nat} {r : List Nat} (h : o.take pre.length = pre) (e : o.drop pre.length = c :: r) : o.take (pre ++ [c]).length = pre ++ [c] ∧ o.drop (pre ++ [c]).length = r := by
  have ho : o = pre ++ c :: r := by
    rw [← e]
    conv => rhs; lhs; rw [← h]
    exact (List.take_append_drop _ o).symm
  have ho2 : o = (pre ++ [c]) ++ r := by rw [ho]; simp
  constructor
  · rw [ho2, List.take_left]
  · rw [ho2, List.drop_left]
theorem com_run {o : List Nat} (ho : o ∈ kindsL) : ∀ (w pre : List Nat), o.take pre.length = pre → com w (o.drop pre.length) ≤ runK .kind pre w
  | [], _, _ => by cases (List.drop _ o) <;> exact Nat.le_refl 0
  | c :: w, pre, h => by
    cases e : o.drop pre.length with
    | nil => exact Nat.zero_le _
    | cons d r =>
      show (if c = d then com w r + 1 else 0) ≤ if extK .kind (pre ++ [c]) = true then runK .kind (pre ++ [c]) w + 1 else 0
      by_cases z : c = d
      · subst z
        obtain ⟨h1, h2⟩ := drop_cons_of h e
        rw [if_pos rfl, if_pos (show extK .kind (pre ++ [c]) = true from List.any_eq_true.mpr ⟨o, ho, decide_eq_true h1⟩)]
        have := com_run ho w (pre ++ [c]) h1
        rw [h2] at this
        exact Nat.succ_le_succ this
      · rw [if_neg z]
        exact Nat.zero_le _
theorem run_com : ∀ (w pre : List Nat), (∃ o ∈ kindsL, o.take pre.length = pre) → ∃ o ∈ kindsL, o.take pre.length = pre ∧ runK .kind pre w ≤ com w (o.drop pre.length)
  | [], pre, ⟨o, ho, h⟩ => ⟨o, ho, h, Nat.zero_le _⟩
  | c :: w, pre, ⟨o, ho, h⟩ => by
    show ∃ o ∈ kindsL, o.take pre.length = pre ∧ (if extK .kind (pre ++ [c]) = true then runK .kind (pre ++ [c]) w + 1 else 0) ≤ com (c :: w) (o.drop pre.length)
    by_cases hx : extK .kind (pre ++ [c]) = true
    · rw [if_pos hx]
      obtain ⟨o2, ho2, e2⟩ := List.any_eq_true.mp (show (kindsL.any fun o => decide (o.take (pre ++ [c]).length = pre ++ [c])) = true from hx)
      obtain ⟨o3, ho3, h3, h4⟩ := run_com w (pre ++ [c]) ⟨o2, ho2, of_decide_eq_true e2⟩
      have e3 : o3 = pre ++ c :: o3.drop (pre ++ [c]).length := by
        have := (List.take_append_drop (pre ++ [c]).length o3).symm
        rw [h3] at this
        simpa using this
      have e4 : o3.take pre.length = pre := by rw [e3, List.take_left]
      have e5 : o3.drop pre.length = c :: o3.drop (pre ++ [c]).length := by
        conv => lhs; rw [e3]
        rw [List.drop_left]
      refine ⟨o3, ho3, e4, ?_⟩
      rw [e5]
      show _ ≤ if c = c then com w (o3.drop (pre ++ [c]).length) + 1 else 0
      rw [if_pos rfl]
      exact Nat.succ_le_succ h4
    · rw [if_neg hx]
      exact ⟨o, ho, h, Nat.zero_le _⟩
/-- the longest that the names have in common with the word -/
theorem max_run {w : List Nat} {mx : Int} (h : mx ∈ kindsL.map fun o => ((com w o : Nat) : Int)) (g : ∀ y ∈ kindsL.map (fun o => ((com w o : Nat) : Int)), y ≤ mx) : mx = ((runK .kind [] w : Nat) : Int) := by
  obtain ⟨o, ho, rfl⟩ := List.mem_map.mp h
  have h1 := com_run ho w [] rfl
  obtain ⟨o2, ho2, _, h2⟩ := run_com w [] ⟨o, ho, rfl⟩
  have h3 := g _ (List.mem_map.mpr ⟨o2, ho2, rfl⟩)
  have h1 : com w o ≤ runK .kind [] w := h1
  have h2 : runK .kind [] w ≤ com w o2 := h2
  omega
theorem run_ext {k : Kd} : ∀ (w pre : List Nat), w ≠ [] → runK k pre w = w.length → extK k (pre ++ w) = true
  | [], _, h, _ => absurd rfl h
  | c :: w, pre, _, e => by
    have e : (if extK k (pre ++ [c]) = true then runK k (pre ++ [c]) w + 1 else 0) = w.length + 1 := e
    by_cases hx : extK k (pre ++ [c]) = true
    · rw [if_pos hx] at e
      by_cases hw : w = []
      · rw [hw]
        exact hx
      · have := run_ext w (pre ++ [c]) hw (Nat.succ.inj e)
        simpa using this
    · rw [if_neg hx] at e
      cases e
theorem run_le {k : Kd} : ∀ (w pre : List Nat), runK k pre w ≤ w.length
  | [], _ => Nat.le_refl 0
  | c :: w, pre => by
    show (if extK k (pre ++ [c]) = true then runK k (pre ++ [c]) w + 1 else 0) ≤ w.length + 1
    split
    · exact Nat.succ_le_succ (run_le w _)
    · exact Nat.zero_le _
/-- no run of more than nine figures -/
def Few (t : List Nat) : Prop := ∀ a w b, t = a ++ (w ++ b) → (∀ c ∈ w, c ∈ figL) → w.length ≤ 9
/-- what a word of a kind is -/
theorem part_word {w : List Nat} (h : extK .part w = true) (g : wholeK .part w = true) : (∃ b, w = [cB b] ∧ paW w = .bit b) ∨ ∃ t, w = 98 :: t ∧ t ≠ [] ∧ (∀ c ∈ t, c ∈ figL) ∧ paW w = .ref (NumText.digitsVal t) := by
  cases w with
  | nil => cases h
  | cons c t =>
    have h : (if c = 98 then t.isEmpty || numX t else decide (c ∈ [48, 49]) && t.isEmpty) = true := h
    have p : paW (c :: t) = if c = 98 then .ref (NumText.digitsVal t) else .bit (decide (c = 49)) := rfl
    by_cases z : c = 98
    · subst z
      rw [if_pos rfl] at h p
      have ne : t ≠ [] := fun e => of_decide_eq_true (show decide ((98 :: t) ≠ [98]) = true from g) (by rw [e])
      rcases Bool.or_eq_true_iff.mp h with y | y
      · exact absurd (List.isEmpty_iff.mp y) ne
      · exact .inr ⟨t, rfl, ne, numX_sign y, p⟩
    · rw [if_neg z] at h p
      obtain ⟨h1, h2⟩ := Bool.and_eq_true_iff.mp h
      rw [List.isEmpty_iff.mp h2] at p ⊢
      have h1 := of_decide_eq_true h1
      simp only [List.mem_cons, List.not_mem_nil, or_false] at h1
      rcases h1 with e | e
      · subst e
        exact .inl ⟨false, rfl, p⟩
      · subst e
        exact .inl ⟨true, rfl, p⟩
theorem kind_word {w : List Nat} (g : wholeK .kind w = true) : w ∈ kindsL := of_decide_eq_true g
theorem num_word {w : List Nat} (h : extK .num w = true) : w ≠ [] ∧ ∀ c ∈ w, c ∈ figL := ⟨fun e => (by rw [e] at h; cases h), numX_sign h⟩

/-! ### words, right or not -/
def spShared7 : Sp := fun vs H Q _ => ∃ l m : List Nat, vs = [.str (SX.S l), .str (SX.S m)] ∧ l.length ≤ 900000 ∧ m.length ≤ 900000 ∧ Q (.int ((com l m : Nat) : Int)) H
def spBegunNum7 : Sp := fun vs H Q _ => ∃ wd : List Nat, vs = [.str (SX.S wd)] ∧ wd.length ≤ 900000 ∧ Q (.int ((bnum wd : Nat) : Int)) H
def spBegun7 : Sp := fun vs H Q _ => ∃ (wd : List Nat) (k : Kd), vs = [.str (SX.S wd), .str (kdS k)] ∧ wd ≠ [] ∧ wd.length ≤ 900000 ∧ ∀ H', Same H H' → Q (.int ((runK k [] wd : Nat) : Int)) H'
def spWholeW7 : Sp := fun vs H Q _ => ∃ (wd : List Nat) (k : Kd), vs = [.str (SX.S wd), .str (kdS k)] ∧ extK k wd = true ∧ Q (.bl (wholeK k wd)) H
def paV : Pa → V
  | .bit b => .str (sb [b])
  | .ref i => .int (i : Int)
def meaV : Kd → List Nat → V
  | .kind, w => .str (SX.S w)
  | .num, w => .int ((NumText.digitsVal w : Nat) : Int)
  | .part, w => paV (paW w)
def meaD : Kd → List Nat → PyData
  | .kind, w => .str (SX.S w)
  | .num, w => .int ((NumText.digitsVal w : Nat) : Int)
  | .part, w => paD (paW w)
def spMean7 : Sp := fun vs H Q _ => ∃ (wd : List Nat) (k : Kd), vs = [.str (SX.S wd), .str (kdS k)] ∧ extK k wd = true ∧ wholeK k wd = true ∧ Few wd ∧ Q (meaV k wd) H
theorem few_all {w : List Nat} (h : Few w) (d : ∀ c ∈ w, c ∈ figL) : w.length ≤ 9 := h [] w [] (by simp) d
theorem few_tail {c : Nat} {w : List Nat} (h : Few (c :: w)) (d : ∀ c ∈ w, c ∈ figL) : w.length ≤ 9 := h [c] w [] (by simp) d
theorem fig_dig {w : List Nat} (d : ∀ c ∈ w, c ∈ figL) : NumText.AllDigits w := fun c hc => by
  have : c ∈ [48, 49, 50, 51, 52, 53, 54, 55, 56, 57] := d c hc
  simp only [List.mem_cons, List.not_mem_nil, or_false] at this
  omega
theorem lead_le : ∀ w : List Nat, lead w ≤ w.length
  | [] => Nat.le_refl 0
  | c :: t => by
    show (if c ∈ figL then lead t + 1 else 0) ≤ t.length + 1
    split
    · exact Nat.succ_le_succ (lead_le t)
    · exact Nat.zero_le _
theorem lead_at : ∀ (w : List Nat) (i c : Nat), i ≤ lead w → w[i]? = some c → (c ∈ figL ↔ i < lead w)
  | [], i, c, _, h => by cases h
  | x :: t, 0, c, _, h => by
    obtain rfl : x = c := Option.some.inj h
    show x ∈ figL ↔ 0 < if x ∈ figL then lead t + 1 else 0
    by_cases z : x ∈ figL
    · rw [if_pos z]
      exact ⟨fun _ => Nat.succ_pos _, fun _ => z⟩
    · rw [if_neg z]
      exact ⟨fun y => absurd y z, fun y => absurd y (Nat.lt_irrefl 0)⟩
  | x :: t, i + 1, c, hi, h => by
    have e : lead (x :: t) = if x ∈ figL then lead t + 1 else 0 := rfl
    rw [e] at hi ⊢
    by_cases z : x ∈ figL
    · rw [if_pos z] at hi ⊢
      exact (lead_at t i c (Nat.le_of_succ_le_succ hi) h).trans ⟨Nat.succ_lt_succ, Nat.lt_of_succ_lt_succ⟩
    · rw [if_neg z] at hi
      exact absurd hi (Nat.not_succ_le_zero i)
theorem int_digits {w : List Nat} (d : ∀ c ∈ w, c ∈ figL) (ne : w ≠ []) (hl : w.length ≤ 9) : intText? (SX.S w) = some ((NumText.digitsVal w : Nat) : Int) := by
  have e := intText_digits (x := SX.S w) (fig_dig d) ne (by rw [SX.S_len]; omega)
  exact e
theorem kinds_in (w : List Nat) : inV (V.str (SX.S w)) [V.str "say", V.str "toss", V.str "look", V.str "ask"] = decide (w ∈ kindsL) := by
  have q : ∀ (o : List Nat), eqV (.str (SX.S o)) (.str (SX.S w)) = decide (w = o) := fun o => by
    show (SX.S o == SX.S w) = _
    by_cases h : w = o
    · rw [h, decide_eq_true rfl]
      exact beq_self_eq_true _
    · rw [decide_eq_false h]
      exact beq_eq_false_iff_ne.mpr fun z => h (SX.S_inj z).symm
  rw [kinds_V]
  show ([V.str (SX.S sayC), V.str (SX.S tossC), V.str (SX.S lookC), V.str (SX.S askC)].any fun y => eqV y (.str (SX.S w))) = _
  rw [List.any_cons, List.any_cons, List.any_cons, List.any_cons, List.any_nil, q, q, q, q, Bool.or_false, Bool.eq_iff_iff]
  simp only [Bool.or_eq_true, decide_eq_true_eq]
  show _ ↔ w ∈ [sayC, tossC, lookC, askC]
  simp only [List.mem_cons, List.not_mem_nil, or_false]
theorem b_S1 : (Str.ofString "b" : Str) = SX.S [98] := by decide +kernel

section
variable {P : Program} {w : World} {K : PySem.W.Frag} {mg : Str → Option Value} {base : Heap} {cs : Cs}
theorem ok_shared7 {f : Addr} {fd : FuncData} (D : Df K mg "shared" s_shared ["first", "second"] f fd) (T : Txt K w mg cs) : FnOk P w K mg base CX0 1 f fd ["first", "second"] spShared7 := by
  refine D.fn.ok sc_shared (fun vs H Q E h => ?_) (fun cdv A outer s H vs Q E hr h => ?_)
  · obtain ⟨l, m, rfl, _⟩ := h
    rfl
  · obtain ⟨l, m, rfl, hl, hm, q⟩ := h
    refine ⟨_, (pss_cons (ps_set (i := 2) sc_shared.nd rfl (.inl rfl) pe_int) (pss_cons (ps_while PassesOwn.never (PW.pt (pw_and (pt_cmpR op_eq (pe_slice sl_str (pv 0) po_none (po_some (pe_op op_add (pv 2) pe_int))) (pe_slice sl_str (pv 1) po_none (po_some (pe_op op_add (pv 2) pe_int))) (nomark _)) (pw_and1 (pt_cmpR op_lt (pv 2) (pe_callB (call_min2 rfl) (by rfl) T.n_min (by decide +kernel) (pa_cons (pe_callB call_len_str (by rfl) T.n_len (by decide +kernel) (pa_cons (pv 0) pa_nil)) (pa_cons (pe_callB call_len_str (by rfl) T.n_len (by decide +kernel) (pa_cons (pv 1) pa_nil)) pa_nil))) (nomark _))))) (pss_one (ps_aug (i := 2) sc_shared.nd rfl (.inl rfl) pe_int ip_add))) (pss_one (ps_ret (pv 2))))), ?_⟩
    refine ⟨fun n σ H' => ∃ k, n = com l m - k ∧ k ≤ com l m ∧ σ = [some (.str (SX.S l)), some (.str (SX.S m)), some (.int (k : Int))] ∧ H' = H, ⟨com l m - 0, 0, rfl, Nat.zero_le _, rfl, rfl⟩, ?_⟩
    rintro n σ H' ⟨k, rfl, hk, rfl, rfl⟩
    have cl := com_le l m
    have done : k = com l m → tRet (tVar 2) { nx := fun x H' => Q V.non H', rt := Q } [some (.str (SX.S l)), some (.str (SX.S m)), some (.int (k : Int))] H' := fun e => ⟨_, rfl, e ▸ q⟩
    refine ⟨_, rfl, _, rfl, _, _, rfl, rfl, _, rfl, _, rfl, S_small (by omega), _, rfl, _, rfl, _, _, rfl, rfl, _, rfl, _, rfl, S_small (by omega), rfl, _, rfl, ?_⟩
    rw [show (k : Int) + 1 = ((k + 1 : Nat) : Int) from rfl, cut_SP, cut_SP, decide_eq_decide.mpr (S_eq _ _)]
    by_cases c : l.take (k + 1) = m.take (k + 1)
    · rw [decide_eq_true c]
      refine ⟨_, rfl, _, rfl, _, rfl, S_small (by omega), _, rfl, _, rfl, S_small (by omega), _, _, rfl, _, _, rfl, rfl, _, rfl, ?_⟩
      rw [SX.S_len, SX.S_len]
      by_cases lt : k < l.length ∧ k < m.length
      · rw [decide_eq_true (show (k : Int) < (if (m.length : Int) < (l.length : Int) then (m.length : Int) else (l.length : Int)) by split <;> omega)]
        have h := (com_take l m k lt.1 lt.2 hk).mp c
        refine ⟨fun σ' H'' => H'' = H' ∧ σ' = [some (.str (SX.S l)), some (.str (SX.S m)), some (.int ((k + 1 : Nat) : Int))], fun σ' H'' h2 => ⟨com l m - (k + 1), by omega, k + 1, rfl, h, h2.2, h2.1⟩, _, rfl, _, _, rfl, rfl, rfl, rfl⟩
      · rw [decide_eq_false (show ¬ (k : Int) < (if (m.length : Int) < (l.length : Int) then (m.length : Int) else (l.length : Int)) by split <;> omega)]
        exact done (by omega)
    · rw [decide_eq_false c]
      refine done ?_
      by_cases h : k < com l m
      · exact absurd ((com_take l m k (by omega) (by omega) hk).mpr h) c
      · omega
theorem ok_begunnum7 {f : Addr} {fd : FuncData} (D : Df K mg "begun_number" s_begun_number ["word"] f fd) (T : Txt K w mg cs) : FnOk P w K mg base CX0 1 f fd ["word"] spBegunNum7 := by
  refine D.fn.ok sc_begun_number (fun vs H Q E h => ?_) (fun cdv A outer s H vs Q E hr h => ?_)
  · obtain ⟨i, rfl, _⟩ := h
    rfl
  · obtain ⟨ds, rfl, hl, q⟩ := h
    refine ⟨_, (pss_cons (ps_if (pt_cmpR op_eq (pe_slice sl_str (pv 0) po_none (po_some pe_int)) pe_str (nomark _)) (pss_one (ps_ret pe_int)) pss_nil) (pss_cons (ps_set (i := 1) sc_begun_number.nd rfl (.inl rfl) pe_int) (pss_cons (ps_while PassesOwn.never (PW.pt (pw_and (pt_cmpR op_lt (pv 1) (pe_callB call_len_str (by rfl) T.n_len (by decide +kernel) (pa_cons (pv 0) pa_nil)) (nomark _)) (pw_and1 (pt_cmpR op_in_sign (pe_ix ix_str (pv 0) (pv 1) (fun _ _ => rfl)) (C8.pe_gc (by rfl) T.g_FIGURES) (by rfl))))) (pss_one (ps_aug (i := 1) sc_begun_number.nd rfl (.inl rfl) pe_int ip_add))) (pss_one (ps_ret (pv 1)))))), ?_⟩
    have size : (SX.S ds).length ≤ sizeLine := S_small (by omega)
    refine ⟨_, rfl, _, rfl, _, rfl, size, rfl, _, rfl, ?_⟩
    rw [show (1 : Int) = ((1 : Nat) : Int) from rfl, cut_SP, show (Str.ofString "0" : Str) = SX.S [48] by decide +kernel, decide_eq_decide.mpr (S_eq _ _)]
    by_cases z : ds.take 1 = [48]
    · rw [decide_eq_true z]
      have e : bnum ds = 1 := by
        cases ds with
        | nil => cases z
        | cons c t =>
          show (if c = 48 then 1 else _) = 1
          rw [if_pos (List.cons.inj z).1]
      rw [e] at q
      exact q
    · rw [decide_eq_false z]
      have e : bnum ds = lead ds := by
        cases ds with
        | nil => rfl
        | cons c t =>
          show (if c = 48 then 1 else lead (c :: t)) = _
          rw [if_neg fun y => z (by rw [y]; rfl)]
      rw [e] at q
      have ll := lead_le ds
      refine ⟨fun n σ H' => ∃ k, n = ds.length - k ∧ k ≤ lead ds ∧ σ = [some (.str (SX.S ds)), some (.int (k : Int))] ∧ H' = H, ⟨ds.length - 0, 0, rfl, Nat.zero_le _, rfl, rfl⟩, ?_⟩
      rintro n σ H' ⟨k, rfl, hk, rfl, rfl⟩
      refine ⟨_, rfl, _, rfl, _, rfl, size, _, _, rfl, rfl, _, rfl, ?_⟩
      rw [SX.S_len]
      by_cases lt : k < ds.length
      · rw [decide_eq_true (show (k : Int) < (ds.length : Int) by omega)]
        have ec := List.getElem?_eq_getElem lt
        have la := lead_at ds k _ hk ec
        refine ⟨_, rfl, _, rfl, _, _, _, rfl, rfl, size, at_S ec, _, _, rfl, rfl, _, rfl, ?_⟩
        rw [fig_signs]
        by_cases hc : ds[k] ∈ figL
        · rw [decide_eq_true (show ds[k] ∈ [48, 49, 50, 51, 52, 53, 54, 55, 56, 57] from hc)]
          have := la.mp hc
          refine ⟨fun σ' H'' => H'' = H' ∧ σ' = [some (.str (SX.S ds)), some (.int ((k + 1 : Nat) : Int))], fun σ' H'' h2 => ⟨ds.length - (k + 1), by omega, k + 1, rfl, this, h2.2, h2.1⟩, _, rfl, _, _, rfl, rfl, rfl, rfl⟩
        · rw [decide_eq_false (show ¬ ds[k] ∈ [48, 49, 50, 51, 52, 53, 54, 55, 56, 57] from hc)]
          have e : k = lead ds := by
            have : ¬ k < lead ds := fun y => hc (la.mpr y)
            omega
          exact ⟨_, rfl, e ▸ q⟩
      · rw [decide_eq_false (show ¬ (k : Int) < (ds.length : Int) by omega)]
        have e : k = lead ds := by omega
        exact ⟨_, rfl, e ▸ q⟩
theorem ok_begun7 {f : Addr} {fd : FuncData} (D : Df K mg "begun" s_begun ["word", "kind"] f fd) (T : Txt K w mg cs) (c_shared : Cl P w K mg base CX0 1 "shared" spShared7) (c_begun_number : Cl P w K mg base CX0 1 "begun_number" spBegunNum7) : FnOk P w K mg base CX0 2 f fd ["word", "kind"] spBegun7 := by
  refine D.fn.ok sc_begun (fun vs H Q E h => ?_) (fun cdv A outer s H vs Q E hr h => ?_)
  · obtain ⟨wd, k, rfl, _⟩ := h
    rfl
  · obtain ⟨wd, k, rfl, ne, hl, q⟩ := h
    refine ⟨_, (pss_cons (ps_if (pt_cmpR op_eq (pv 1) pe_str (nomark _)) (pss_one (ps_ret (pe_callB (cr_max rfl) (by rfl) T.n_max (by decide +kernel) (pa_cons (pe_lc (own := [("other", 2)]) (g := gName 2) (tt := tYes) rfl sc_begun.nd (pi_tup (pe_glob (v := .ref cs.KINDS) (by rfl) T.gl_KINDS rfl)) (blkOk_by (own := [("other", 2)]) (N := ["word", "kind", "other"]) (sc := defScope s_begun) (by decide +kernel)) (fun _ _ _ _ _ => (pg_name (i := 2) sc_begun.nd rfl (.inl rfl))) (fun _ _ _ _ _ => pts_nil) (fun _ _ _ _ _ => (pe_cl c_shared hr (by first | decide | omega) (by rfl) (pa_cons (pv 0) (pa_cons (pv 2) pa_nil))))) pa_nil)))) pss_nil) (pss_cons (ps_if (pt_cmpR op_eq (pv 1) pe_str (nomark _)) (pss_one (ps_ret (pe_cl c_begun_number hr (by first | decide | omega) (by rfl) (pa_cons (pv 0) pa_nil)))) pss_nil) (pss_cons (ps_if (pt_cmpR op_eq (pe_ix ix_str (pv 0) pe_int (fun _ _ => rfl)) pe_str (nomark _)) (pss_one (ps_ret (pe_op op_add pe_int (pe_cl c_begun_number hr (by first | decide | omega) (by rfl) (pa_cons (pe_slice sl_str (pv 0) (po_some pe_int) po_none) pa_nil))))) pss_nil) (pss_one (ps_ret (pe_ifExp (pt_cmpR op_in_sign (pe_ix ix_str (pv 0) pe_int (fun _ _ => rfl)) pe_str (by rfl)) pe_int pe_int)))))), ?_⟩
    have size : (SX.S wd).length ≤ sizeLine := S_small (by omega)
    cases k with
    | kind =>
      refine ⟨_, rfl, rfl, _, rfl, ?_⟩
      have hK := T.kt_KINDS H
      refine ⟨_, rfl, ⟨_, hK⟩, fun Dl nD => ?_⟩
      rw [kinds_V] at hK
      refine lc_tup (xs := [sayC, tossC, lookC, askC].map fun o => V.str (SX.S o)) (fun i H' => Same H H' ∧ H' Dl = some (.lst ((([sayC, tossC, lookC, askC].take i).map fun o => ((com wd o : Nat) : Int)).map V.int))) ?_ (fun i H' _ h => same_sqt h.1 hK) ?_ ?_
      · exact ⟨same_new nD, upd_same⟩
      · rintro i x H' hx ⟨h1, h2⟩
        rw [List.getElem?_map] at hx
        obtain ⟨o, ho, rfl⟩ := Option.map_eq_some_iff.mp hx
        have o4 := kinds_small (List.mem_of_getElem? ho)
        refine ⟨rfl, _, rfl, _, rfl, wd, o, rfl, by omega, by omega, _, h2, ?_, same_set h1 nD, ?_⟩
        · rw [List.length_map, List.length_map, List.length_take, sizeLine_eq]
          show min i 4 < _
          omega
        · rw [upd_same, List.take_add_one, ho, List.map_append, List.map_append]
          rfl
      · rintro H' ⟨h1, h2⟩
        refine ⟨Dl, [sayC, tossC, lookC, askC].map fun o => ((com wd o : Nat) : Int), rfl, .inl (.inl h2), by show 0 < 4; decide, fun mx hm hmax => ?_⟩
        have e := max_run (w := wd) hm hmax
        rw [e]
        exact q _ h1
    | num =>
      refine ⟨_, rfl, rfl, _, rfl, ?_⟩
      refine ⟨_, rfl, rfl, _, rfl, ?_⟩
      refine ⟨_, rfl, wd, rfl, hl, ?_⟩
      rw [← run_num]
      exact q _ fun _ _ e => e
    | part =>
      refine ⟨_, rfl, rfl, _, rfl, ?_⟩
      refine ⟨_, rfl, rfl, _, rfl, ?_⟩
      cases wd with
      | nil => exact absurd rfl ne
      | cons c t =>
        refine ⟨_, rfl, _, 0, c, rfl, rfl, size, at_S (i := 0) rfl, rfl, _, rfl, ?_⟩
        rw [sign_is c _ 98 b_S1]
        rw [run_part] at q
        by_cases z : c = 98
        · rw [decide_eq_true z]
          rw [if_pos z] at q
          refine ⟨_, rfl, _, rfl, _, rfl, size, t, ?_, by rw [List.length_cons] at hl; omega, _, _, rfl, rfl, ?_⟩
          · rw [show (1 : Int) = ((1 : Nat) : Int) from rfl]
            show [V.str (cutS (SX.S (c :: t)) (some ((1 : Nat) : Int)) none)] = _
            rw [cut_SX]
            rfl
          · show Q (V.int (1 + ((bnum t : Nat) : Int))) H
            rw [show (1 : Int) + ((bnum t : Nat) : Int) = ((1 + bnum t : Nat) : Int) by omega]
            exact q _ fun _ _ e => e
        · rw [decide_eq_false z]
          rw [if_neg z] at q
          refine ⟨_, rfl, _, 0, c, rfl, rfl, size, at_S (i := 0) rfl, c, _, rfl, rfl, _, rfl, ?_⟩
          rw [show (Str.ofString "01" : Str).cps.toList = [48, 49] by decide +kernel]
          by_cases y : c ∈ [48, 49]
          · rw [decide_eq_true y]
            rw [if_pos y] at q
            exact q _ fun _ _ e => e
          · rw [decide_eq_false y]
            rw [if_neg y] at q
            exact q _ fun _ _ e => e
theorem ok_wholew7 {f : Addr} {fd : FuncData} (D : Df K mg "is_whole_word" s_is_whole_word ["word", "kind"] f fd) (T : Txt K w mg cs) : FnOk P w K mg base CX0 1 f fd ["word", "kind"] spWholeW7 := by
  refine D.fn.ok sc_is_whole_word (fun vs H Q E h => ?_) (fun cdv A outer s H vs Q E hr h => ?_)
  · obtain ⟨wd, k, rfl, _⟩ := h
    rfl
  · obtain ⟨wd, k, rfl, hx, q⟩ := h
    refine ⟨_, (pss_cons (ps_if (pt_cmpR op_eq (pv 1) pe_str (nomark _)) (pss_one (ps_ret (pe_cmpR op_in_seq (pv 0) (pe_glob (v := .ref cs.KINDS) (by rfl) T.gl_KINDS rfl) (by rfl)))) pss_nil) (pss_one (ps_ret (pe_cmpR op_ne (pv 0) pe_str (nomark _))))), ?_⟩
    cases k with
    | kind =>
      refine ⟨_, rfl, rfl, _, rfl, ?_⟩
      refine ⟨_, rfl, cs.KINDS, _, rfl, .inr (T.kt_KINDS H), rfl, rfl, ?_⟩
      rw [kinds_in]
      exact q
    | num =>
      refine ⟨_, rfl, rfl, _, rfl, ?_⟩
      refine ⟨_, rfl, rfl, ?_⟩
      rw [b_S1, decide_eq_false (show ¬ V.str (SX.S wd) = V.str (SX.S [98]) by
        rw [S_eq]
        intro e
        have := (num_word hx).2 98 (by rw [e]; exact List.mem_cons_self)
        exact absurd this (by decide))]
      exact q
    | part =>
      refine ⟨_, rfl, rfl, _, rfl, ?_⟩
      refine ⟨_, rfl, rfl, ?_⟩
      have e : (!decide (V.str (SX.S wd) = V.str (SX.S [98]))) = decide (wd ≠ [98]) := by
        rw [decide_eq_decide.mpr (S_eq wd [98])]
        by_cases h : wd = [98]
        · rw [decide_eq_true h, decide_eq_false (show ¬ wd ≠ [98] from fun y => y h)]
          rfl
        · rw [decide_eq_false h, decide_eq_true h]
          rfl
      rw [b_S1, e]
      exact q
theorem ok_mean7 {f : Addr} {fd : FuncData} (D : Df K mg "meaning" s_meaning ["word", "kind"] f fd) (T : Txt K w mg cs) : FnOk P w K mg base CX0 1 f fd ["word", "kind"] spMean7 := by
  refine D.fn.ok sc_meaning (fun vs H Q E h => ?_) (fun cdv A outer s H vs Q E hr h => ?_)
  · obtain ⟨wd, k, rfl, _⟩ := h
    rfl
  · obtain ⟨wd, k, rfl, hx, hw, hf, q⟩ := h
    refine ⟨_, (pss_cons (ps_if (pt_cmpR op_eq (pv 1) pe_str (nomark _)) (pss_one (ps_ret (pe_callTy call_int_str (by rfl) T.n_int (by decide +kernel) (pa_cons (pv 0) pa_nil)))) pss_nil) (pss_cons (ps_if (PW.pt (pw_and (pt_cmpR op_eq (pv 1) pe_str (nomark _)) (pw_and1 (pt_cmpR op_eq (pe_ix ix_str (pv 0) pe_int (fun _ _ => rfl)) pe_str (nomark _))))) (pss_one (ps_ret (pe_callTy call_int_str (by rfl) T.n_int (by decide +kernel) (pa_cons (pe_slice sl_str (pv 0) (po_some pe_int) po_none) pa_nil)))) pss_nil) (pss_one (ps_ret (pv 0))))), ?_⟩
    cases k with
    | kind =>
      refine ⟨_, rfl, rfl, _, rfl, ?_⟩
      refine ⟨_, rfl, rfl, _, rfl, ?_⟩
      exact ⟨_, rfl, q⟩
    | num =>
      obtain ⟨ne, dg⟩ := num_word hx
      have l9 := few_all hf dg
      refine ⟨_, rfl, rfl, _, rfl, ?_⟩
      exact ⟨_, rfl, SX.S wd, _, rfl, int_digits dg ne l9, by rw [SX.S_len]; omega, q⟩
    | part =>
      refine ⟨_, rfl, rfl, _, rfl, ?_⟩
      refine ⟨_, rfl, rfl, _, rfl, ?_⟩
      rcases part_word hx hw with ⟨b, rfl, e⟩ | ⟨t, rfl, ne, dg, e⟩
      · refine ⟨_, rfl, _, 0, cB b, rfl, rfl, S_small (by show 1 ≤ 1000000; decide), at_S (i := 0) rfl, rfl, _, rfl, ?_⟩
        rw [sign_is (cB b) _ 98 b_S1, decide_eq_false (by cases b <;> decide)]
        have q : Q (paV (paW [cB b])) H := q
        rw [e] at q
        exact ⟨_, rfl, q⟩
      · have l9 := few_tail hf dg
        have size : (SX.S (98 :: t)).length ≤ sizeLine := S_small (by rw [List.length_cons]; omega)
        refine ⟨_, rfl, _, 0, 98, rfl, rfl, size, at_S (i := 0) rfl, rfl, _, rfl, ?_⟩
        rw [sign_is 98 _ 98 b_S1, decide_eq_true rfl]
        have q : Q (paV (paW (98 :: t))) H := q
        rw [e] at q
        refine ⟨_, rfl, _, rfl, _, rfl, size, SX.S t, _, ?_, int_digits dg ne l9, by rw [SX.S_len]; omega, q⟩
        show [V.str (cutS (SX.S (98 :: t)) (some ((1 : Nat) : Int)) none)] = _
        rw [cut_SX]
        rfl

theorem ok_wordat {f : Addr} {fd : FuncData} (D : Df K mg "word_at" s_word_at ["text", "at"] f fd) (T : Txt K w mg cs) : FnOk P w K mg base CX0 1 f fd ["text", "at"] spWordAt := by
  refine D.fn.ok sc_word_at (fun vs H Q E h => ?_) (fun cdv A outer s H vs Q E hr h => ?_)
  · obtain ⟨pre, wd, rest, rfl, _⟩ := h
    rfl
  · obtain ⟨pre, wd, rest, rfl, hl, hw, hrest, q⟩ := h
    refine ⟨_, (pss_cons (ps_set (i := 2) sc_word_at.nd rfl (.inl rfl) (pv 1)) (pss_cons (ps_while PassesOwn.never (PW.pt (pw_and (pt_cmpR op_lt (pv 2) (pe_callB call_len_str (by rfl) T.n_len (by decide +kernel) (pa_cons (pv 0) pa_nil)) (nomark _)) (pw_and1 (pt_cmpR op_notIn_sign (pe_ix ix_str (pv 0) (pv 2) (fun _ _ => rfl)) pe_str (by rfl))))) (pss_one (ps_aug (i := 2) sc_word_at.nd rfl (.inl rfl) pe_int ip_add))) (pss_one (ps_ret (pe_slice sl_str (pv 0) (po_some (pv 1)) (po_some (pv 2))))))), ?_⟩
    refine ⟨_, rfl, fun m σ H' => ∃ k, m = wd.length - k ∧ k ≤ wd.length ∧ σ = [some (.str (SX.S (pre ++ wd ++ rest))), some (.int (pre.length : Int)), some (.int ((pre.length + k : Nat) : Int))] ∧ H' = H, ⟨wd.length - 0, 0, rfl, Nat.zero_le _, rfl, rfl⟩, ?_⟩
    rintro m σ H' ⟨k, rfl, hk, rfl, rfl⟩
    have tot : (pre ++ wd ++ rest).length = pre.length + wd.length + rest.length := by rw [List.length_append, List.length_append]
    refine ⟨_, rfl, _, rfl, _, rfl, S_small hl, _, _, rfl, rfl, _, rfl, ?_⟩
    rw [SX.S_len, tot]
    have ends : k = wd.length → tSl rSlS (tVar 0) (tPart (tVar 1)) (tPart (tVar 2)) [some (.str (SX.S (pre ++ wd ++ rest))), some (.int (pre.length : Int)), some (.int ((pre.length + k : Nat) : Int))] H' Q := fun e => by
      refine ⟨_, rfl, _, rfl, _, rfl, _, rfl, _, rfl, _, rfl, S_small hl, ?_⟩
      rw [cut_S (by omega) (by rw [tot]; omega), List.append_assoc, List.drop_left, e, Nat.add_sub_cancel_left, List.take_left]
      exact q
    by_cases lt : pre.length + k < pre.length + wd.length + rest.length
    · rw [decide_eq_true (show ((pre.length + k : Nat) : Int) < ((pre.length + wd.length + rest.length : Nat) : Int) by omega)]
      have ac : ∃ c, (pre ++ wd ++ rest)[pre.length + k]? = some c := ⟨_, List.getElem?_eq_getElem (by rw [tot]; exact lt)⟩
      obtain ⟨c, ec⟩ := ac
      refine ⟨_, rfl, _, rfl, _, _, _, rfl, rfl, S_small hl, at_S ec, c, _, rfl, rfl, _, rfl, ?_⟩
      rw [par_signs]
      rw [List.append_assoc, List.getElem?_append_right (by omega), Nat.add_sub_cancel_left] at ec
      by_cases lk : k < wd.length
      · rw [List.getElem?_append_left lk] at ec
        have hc := hw c (List.mem_of_getElem? ec)
        rw [decide_eq_false (show ¬ c ∈ [32, 40, 41] by simp [hc.1, hc.2.1, hc.2.2])]
        refine ⟨fun σ' H'' => H'' = H' ∧ σ' = [some (.str (SX.S (pre ++ wd ++ rest))), some (.int (pre.length : Int)), some (.int ((pre.length + (k + 1) : Nat) : Int))], fun σ' H'' h => ⟨wd.length - (k + 1), by omega, k + 1, rfl, lk, h.2, h.1⟩, _, rfl, _, _, rfl, rfl, rfl, ?_⟩
        rfl
      · have e : k = wd.length := by omega
        subst e
        rw [List.getElem?_append_right (Nat.le_refl _), Nat.sub_self] at ec
        cases rest with
        | nil => cases ec
        | cons x l =>
          cases ec
          rw [decide_eq_true (show c ∈ [32, 40, 41] by rcases hrest c l rfl with e | e | e <;> subst e <;> simp)]
          exact ends rfl
    · rw [decide_eq_false (show ¬ ((pre.length + k : Nat) : Int) < ((pre.length + wd.length + rest.length : Nat) : Int) by omega)]
      exact ends (by omega)

end
/-! ### the reader's promises -/
inductive AwS : List PyData → List Str → Prop where
  | empty : AwS [] ["kind"]
  | say (xs : List PyData) : AwS (.str "say" :: xs) ["part", ")"]
  | parts (xs : List PyData) : AwS (.str "parts" :: xs) ["part", ")"]
  | toss0 : AwS [.str "toss"] ["("]
  | toss1 (b : PyData) (bs : List PyData) : AwS (.str "toss" :: b :: bs) ["(", ")"]
  | look0 : AwS [.str "look"] ["number"]
  | look1 (i : PyData) : AwS [.str "look", i] ["("]
  | look2 (i a : PyData) : AwS [.str "look", i, a] ["("]
  | look3 (i a b : PyData) : AwS [.str "look", i, a, b] [")"]
  | ask0 : AwS [.str "ask"] ["("]
  | ask1 (p : PyData) : AwS [.str "ask", p] ["("]
  | ask2 (p a : PyData) : AwS [.str "ask", p, a] [")"]
def spAwaited (K : PySem.W.Frag) : Sp := fun vs H Q _ => ∃ (r : Addr) (us : List V) (top : List PyData) (ss : List Str), vs = [.ref r] ∧ H r = some (.lst us) ∧ DpAll K H us top ∧ PyData.canLayAll0 top = true ∧ AwS top ss ∧
  ∀ p H', Same H H' → SqT K H' p (ss.map V.str) → Q (.ref p) H'
def spTold (K : PySem.W.Frag) : Sp := fun vs H Q _ => ∃ (r : Addr) (us : List V) (top : List PyData) (d : PyData), vs = [.ref r] ∧ H r = some (.lst us) ∧ DpAll K H us top ∧ us.length ≤ 1000000 ∧ Told top d ∧
  ∀ v H', Same H H' → Dp K H' v d → Q v H'
theorem eqv_cons_nil (x : PyData) (xs : List PyData) : PyData.eqv (.list (x :: xs)) (.list []) = false := by simp only [PyData.eqv, PyData.eqvAll]
theorem eqv_nil_nil : PyData.eqv (.list []) (.list []) = true := by simp only [PyData.eqv, PyData.eqvAll]
theorem dpAll_cons {K : PySem.W.Frag} {H : Hp} {us : List V} {d : PyData} {ds : List PyData} (h : DpAll K H us (d :: ds)) : ∃ v vs, us = v :: vs ∧ Dp K H v d ∧ DpAll K H vs ds := by
  cases h with
  | cons h1 h2 => exact ⟨_, _, rfl, h1, h2⟩
theorem cutV_one (x : V) (us : List V) : cutV (x :: us) (some 1) none = us := by
  unfold cutV
  rw [show (1 : Int) = ((1 : Nat) : Int) from rfl, HT.sIx_nat, HT.sIx_none, Nat.min_eq_left (by rw [List.length_cons]; omega)]
  show (us.take (us.length + 1 - 1)) = us
  rw [Nat.add_sub_cancel, List.take_length]

section
variable {P : Program} {w : World} {K : PySem.W.Frag} {mg : Str → Option Value} {base : Heap} {cs : Cs}
theorem ok_awaited {f : Addr} {fd : FuncData} (D : Df K mg "awaited" s_awaited ["read"] f fd) (T : Txt K w mg cs) : FnOk P w K mg base CX0 1 f fd ["read"] (spAwaited K) := by
  refine D.fn.ok sc_awaited (fun vs H Q E h => ?_) (fun cdv A outer s H vs Q E hr h => ?_)
  · obtain ⟨r, vs, top, ss, rfl, _⟩ := h
    rfl
  · obtain ⟨r, us, top, ss, rfl, hL, hA, lay, aw, q⟩ := h
    refine ⟨_, (pss_cons (ps_if (pt_cmpR (op_eqF K hr.units) (pv 0) (pe_lst pa_nil) (nomark _)) (pss_one (ps_ret (pe_tup (pa_cons pe_str pa_nil)))) pss_nil) (pss_cons (ps_par (i := 1) (j := 2) (by rfl) sc_awaited.nd rfl rfl (by decide) rfl rfl (pa_cons (pe_ix (ixL K) (pv 0) pe_int (fun _ _ => rfl)) (pa_cons (pe_op op_sub (pe_callB (lenS K) (by rfl) T.n_len (by decide +kernel) (pa_cons (pv 0) pa_nil)) pe_int) pa_nil)) (by rfl)) (pss_cons (ps_if (pt_cmpR op_in_seq (pv 1) (pe_tup (pa_cons pe_str (pa_cons (C8.pe_gc (by rfl) T.g_PARTS) pa_nil))) (by rfl)) (pss_one (ps_ret (pe_tup (pa_cons pe_str (pa_cons pe_str pa_nil))))) pss_nil) (pss_cons (ps_if (pt_cmpR op_eq (pv 1) pe_str (nomark _)) (pss_one (ps_ret (pe_ifExp (pt_cmpR op_eq (pv 2) pe_int (nomark _)) (pe_tup (pa_cons pe_str pa_nil)) (pe_tup (pa_cons pe_str (pa_cons pe_str pa_nil)))))) pss_nil) (pss_cons (ps_if (pt_cmpR op_eq (pv 1) pe_str (nomark _)) (pss_one (ps_ret (pe_ix (ixT K) (pe_tup (pa_cons (pe_tup (pa_cons pe_str pa_nil)) (pa_cons (pe_tup (pa_cons pe_str pa_nil)) (pa_cons (pe_tup (pa_cons pe_str pa_nil)) (pa_cons (pe_tup (pa_cons pe_str pa_nil)) pa_nil))))) (pv 2) (fun _ _ => rfl)))) pss_nil) (pss_one (ps_ret (pe_ix (ixT K) (pe_tup (pa_cons (pe_tup (pa_cons pe_str pa_nil)) (pa_cons (pe_tup (pa_cons pe_str pa_nil)) (pa_cons (pe_tup (pa_cons pe_str pa_nil)) pa_nil)))) (pv 2) (fun _ _ => rfl))))))))), ?_⟩
    have lay0 : (PyData.list []).canLay0 = true := rfl
    refine ⟨_, rfl, (by show 0 ≤ sizeLine; decide), fun N nN => ?_⟩
    have e1 := same_new (o := .lst []) nN
    have hL1 := e1 _ _ hL
    refine ⟨.list top, .list [], .lst (.inl (.inl hL1)) (dps_same e1 _ hA), .lst (.inl (.inl upd_same)) .nil, lay, lay0, by decide, _, rfl, ?_⟩
    generalize upd H N (.lst []) = H1 at e1 hL1 ⊢
    cases aw with
    | empty =>
      rw [eqv_nil_nil]
      exact ⟨(by show 1 ≤ sizeLine; decide), fun p np => q p _ (e1.trans (same_new np)) (.inl (.inl upd_same))⟩
    | say xs =>
      rw [eqv_cons_nil]
      obtain ⟨_, us1, rfl, h0, hA1⟩ := dpAll_cons hA
      cases h0
      refine ⟨_, rfl, r, _, 0, _, rfl, rfl, .inl (.inl hL1), at0, _, rfl, r, _, rfl, .inl (.inl (.inl hL1)), _, _, rfl, rfl, _, _, rfl, ?_⟩
      refine ⟨_, rfl, (by show 2 ≤ sizeLine; decide), fun t nt => ⟨t, _, rfl, .inr (.inl (.inl upd_same)), rfl, rfl, _, rfl, ?_⟩⟩
      have e2 := e1.trans (same_new (o := .tup [.str "say", .str "parts"]) nt)
      exact ⟨(by show 2 ≤ sizeLine; decide), fun p np => q p _ (e2.trans (same_new np)) (.inl (.inl upd_same))⟩
    | parts xs =>
      rw [eqv_cons_nil]
      obtain ⟨_, us1, rfl, h0, hA1⟩ := dpAll_cons hA
      cases h0
      refine ⟨_, rfl, r, _, 0, _, rfl, rfl, .inl (.inl hL1), at0, _, rfl, r, _, rfl, .inl (.inl (.inl hL1)), _, _, rfl, rfl, _, _, rfl, ?_⟩
      refine ⟨_, rfl, (by show 2 ≤ sizeLine; decide), fun t nt => ⟨t, _, rfl, .inr (.inl (.inl upd_same)), rfl, rfl, _, rfl, ?_⟩⟩
      have e2 := e1.trans (same_new (o := .tup [.str "say", .str "parts"]) nt)
      exact ⟨(by show 2 ≤ sizeLine; decide), fun p np => q p _ (e2.trans (same_new np)) (.inl (.inl upd_same))⟩
    | toss0 =>
      rw [eqv_cons_nil]
      obtain ⟨_, us1, rfl, h0, hA1⟩ := dpAll_cons hA
      cases h0
      cases hA1
      refine ⟨_, rfl, r, _, 0, _, rfl, rfl, .inl (.inl hL1), at0, _, rfl, r, _, rfl, .inl (.inl (.inl hL1)), _, _, rfl, rfl, _, _, rfl, ?_⟩
      refine ⟨_, rfl, (by show 2 ≤ sizeLine; decide), fun t nt => ⟨t, _, rfl, .inr (.inl (.inl upd_same)), rfl, rfl, _, rfl, ?_⟩⟩
      have e2 := e1.trans (same_new (o := .tup [.str "say", .str "parts"]) nt)
      refine ⟨_, rfl, rfl, _, rfl, ?_⟩
      refine ⟨_, rfl, rfl, _, rfl, ?_⟩
      exact ⟨(by show 1 ≤ sizeLine; decide), fun p np => q p _ (e2.trans (same_new np)) (.inl (.inl upd_same))⟩
    | toss1 b bs =>
      rw [eqv_cons_nil]
      obtain ⟨_, us1, rfl, h0, hA1⟩ := dpAll_cons hA
      cases h0
      obtain ⟨x1, us2, rfl, _, hA2⟩ := dpAll_cons hA1
      refine ⟨_, rfl, r, _, 0, _, rfl, rfl, .inl (.inl hL1), at0, _, rfl, r, _, rfl, .inl (.inl (.inl hL1)), _, _, rfl, rfl, _, _, rfl, ?_⟩
      refine ⟨_, rfl, (by show 2 ≤ sizeLine; decide), fun t nt => ⟨t, _, rfl, .inr (.inl (.inl upd_same)), rfl, rfl, _, rfl, ?_⟩⟩
      have e2 := e1.trans (same_new (o := .tup [.str "say", .str "parts"]) nt)
      refine ⟨_, rfl, rfl, _, rfl, ?_⟩
      refine ⟨_, rfl, rfl, _, rfl, ?_⟩
      rw [decide_eq_false (show ¬ V.int ((((_ :: x1 :: us2 : List V).length : Nat) : Int) - 1) = V.int 0 from fun z => by have := V.int.inj z; rw [List.length_cons, List.length_cons] at this; omega)]
      exact ⟨(by show 2 ≤ sizeLine; decide), fun p np => q p _ (e2.trans (same_new np)) (.inl (.inl upd_same))⟩
    | look0 =>
      rw [eqv_cons_nil]
      obtain ⟨_, us1, rfl, h0, hA1⟩ := dpAll_cons hA
      cases h0
      cases hA1
      refine ⟨_, rfl, r, _, 0, _, rfl, rfl, .inl (.inl hL1), at0, _, rfl, r, _, rfl, .inl (.inl (.inl hL1)), _, _, rfl, rfl, _, _, rfl, ?_⟩
      refine ⟨_, rfl, (by show 2 ≤ sizeLine; decide), fun t nt => ⟨t, _, rfl, .inr (.inl (.inl upd_same)), rfl, rfl, _, rfl, ?_⟩⟩
      have e2 := e1.trans (same_new (o := .tup [.str "say", .str "parts"]) nt)
      refine ⟨_, rfl, rfl, _, rfl, ?_⟩
      refine ⟨_, rfl, rfl, _, rfl, ?_⟩
      refine ⟨(by show 1 ≤ sizeLine; decide), fun t1 n1 => ⟨(by show 1 ≤ sizeLine; decide), fun t2 n2 => ⟨(by show 1 ≤ sizeLine; decide), fun t3 n3 => ⟨(by show 1 ≤ sizeLine; decide), fun t4 n4 => ⟨(by show 4 ≤ sizeLine; decide), fun t0 n0 => ?_⟩⟩⟩⟩⟩
      refine ⟨_, rfl, t0, _, 0, .ref t1, rfl, rfl, .inl (.inl upd_same), atI_nat (j := 0) rfl, ?_⟩
      exact q _ _ (e2.trans ((same_new n1).trans ((same_new n2).trans ((same_new n3).trans ((same_new n4).trans (same_new n0)))))) (.inl (.inl (((same_new n2).trans ((same_new n3).trans ((same_new n4).trans (same_new n0)))) _ _ upd_same)))
    | look1 i =>
      rw [eqv_cons_nil]
      obtain ⟨_, us1, rfl, h0, hA1⟩ := dpAll_cons hA
      cases h0
      obtain ⟨x1, us2, rfl, _, hA2⟩ := dpAll_cons hA1
      cases hA2
      refine ⟨_, rfl, r, _, 0, _, rfl, rfl, .inl (.inl hL1), at0, _, rfl, r, _, rfl, .inl (.inl (.inl hL1)), _, _, rfl, rfl, _, _, rfl, ?_⟩
      refine ⟨_, rfl, (by show 2 ≤ sizeLine; decide), fun t nt => ⟨t, _, rfl, .inr (.inl (.inl upd_same)), rfl, rfl, _, rfl, ?_⟩⟩
      have e2 := e1.trans (same_new (o := .tup [.str "say", .str "parts"]) nt)
      refine ⟨_, rfl, rfl, _, rfl, ?_⟩
      refine ⟨_, rfl, rfl, _, rfl, ?_⟩
      refine ⟨(by show 1 ≤ sizeLine; decide), fun t1 n1 => ⟨(by show 1 ≤ sizeLine; decide), fun t2 n2 => ⟨(by show 1 ≤ sizeLine; decide), fun t3 n3 => ⟨(by show 1 ≤ sizeLine; decide), fun t4 n4 => ⟨(by show 4 ≤ sizeLine; decide), fun t0 n0 => ?_⟩⟩⟩⟩⟩
      refine ⟨_, rfl, t0, _, 1, .ref t2, rfl, rfl, .inl (.inl upd_same), atI_nat (j := 1) rfl, ?_⟩
      exact q _ _ (e2.trans ((same_new n1).trans ((same_new n2).trans ((same_new n3).trans ((same_new n4).trans (same_new n0)))))) (.inl (.inl (((same_new n3).trans ((same_new n4).trans (same_new n0))) _ _ upd_same)))
    | look2 i a =>
      rw [eqv_cons_nil]
      obtain ⟨_, us1, rfl, h0, hA1⟩ := dpAll_cons hA
      cases h0
      obtain ⟨x1, us2, rfl, _, hA2⟩ := dpAll_cons hA1
      obtain ⟨x2, us3, rfl, _, hA3⟩ := dpAll_cons hA2
      cases hA3
      refine ⟨_, rfl, r, _, 0, _, rfl, rfl, .inl (.inl hL1), at0, _, rfl, r, _, rfl, .inl (.inl (.inl hL1)), _, _, rfl, rfl, _, _, rfl, ?_⟩
      refine ⟨_, rfl, (by show 2 ≤ sizeLine; decide), fun t nt => ⟨t, _, rfl, .inr (.inl (.inl upd_same)), rfl, rfl, _, rfl, ?_⟩⟩
      have e2 := e1.trans (same_new (o := .tup [.str "say", .str "parts"]) nt)
      refine ⟨_, rfl, rfl, _, rfl, ?_⟩
      refine ⟨_, rfl, rfl, _, rfl, ?_⟩
      refine ⟨(by show 1 ≤ sizeLine; decide), fun t1 n1 => ⟨(by show 1 ≤ sizeLine; decide), fun t2 n2 => ⟨(by show 1 ≤ sizeLine; decide), fun t3 n3 => ⟨(by show 1 ≤ sizeLine; decide), fun t4 n4 => ⟨(by show 4 ≤ sizeLine; decide), fun t0 n0 => ?_⟩⟩⟩⟩⟩
      refine ⟨_, rfl, t0, _, 2, .ref t3, rfl, rfl, .inl (.inl upd_same), atI_nat (j := 2) rfl, ?_⟩
      exact q _ _ (e2.trans ((same_new n1).trans ((same_new n2).trans ((same_new n3).trans ((same_new n4).trans (same_new n0)))))) (.inl (.inl (((same_new n4).trans (same_new n0)) _ _ upd_same)))
    | look3 i a b =>
      rw [eqv_cons_nil]
      obtain ⟨_, us1, rfl, h0, hA1⟩ := dpAll_cons hA
      cases h0
      obtain ⟨x1, us2, rfl, _, hA2⟩ := dpAll_cons hA1
      obtain ⟨x2, us3, rfl, _, hA3⟩ := dpAll_cons hA2
      obtain ⟨x3, us4, rfl, _, hA4⟩ := dpAll_cons hA3
      cases hA4
      refine ⟨_, rfl, r, _, 0, _, rfl, rfl, .inl (.inl hL1), at0, _, rfl, r, _, rfl, .inl (.inl (.inl hL1)), _, _, rfl, rfl, _, _, rfl, ?_⟩
      refine ⟨_, rfl, (by show 2 ≤ sizeLine; decide), fun t nt => ⟨t, _, rfl, .inr (.inl (.inl upd_same)), rfl, rfl, _, rfl, ?_⟩⟩
      have e2 := e1.trans (same_new (o := .tup [.str "say", .str "parts"]) nt)
      refine ⟨_, rfl, rfl, _, rfl, ?_⟩
      refine ⟨_, rfl, rfl, _, rfl, ?_⟩
      refine ⟨(by show 1 ≤ sizeLine; decide), fun t1 n1 => ⟨(by show 1 ≤ sizeLine; decide), fun t2 n2 => ⟨(by show 1 ≤ sizeLine; decide), fun t3 n3 => ⟨(by show 1 ≤ sizeLine; decide), fun t4 n4 => ⟨(by show 4 ≤ sizeLine; decide), fun t0 n0 => ?_⟩⟩⟩⟩⟩
      refine ⟨_, rfl, t0, _, 3, .ref t4, rfl, rfl, .inl (.inl upd_same), atI_nat (j := 3) rfl, ?_⟩
      exact q _ _ (e2.trans ((same_new n1).trans ((same_new n2).trans ((same_new n3).trans ((same_new n4).trans (same_new n0)))))) (.inl (.inl ((same_new n0) _ _ upd_same)))
    | ask0 =>
      rw [eqv_cons_nil]
      obtain ⟨_, us1, rfl, h0, hA1⟩ := dpAll_cons hA
      cases h0
      cases hA1
      refine ⟨_, rfl, r, _, 0, _, rfl, rfl, .inl (.inl hL1), at0, _, rfl, r, _, rfl, .inl (.inl (.inl hL1)), _, _, rfl, rfl, _, _, rfl, ?_⟩
      refine ⟨_, rfl, (by show 2 ≤ sizeLine; decide), fun t nt => ⟨t, _, rfl, .inr (.inl (.inl upd_same)), rfl, rfl, _, rfl, ?_⟩⟩
      have e2 := e1.trans (same_new (o := .tup [.str "say", .str "parts"]) nt)
      refine ⟨_, rfl, rfl, _, rfl, ?_⟩
      refine ⟨_, rfl, rfl, _, rfl, ?_⟩
      refine ⟨(by show 1 ≤ sizeLine; decide), fun t1 n1 => ⟨(by show 1 ≤ sizeLine; decide), fun t2 n2 => ⟨(by show 1 ≤ sizeLine; decide), fun t3 n3 => ⟨(by show 3 ≤ sizeLine; decide), fun t0 n0 => ?_⟩⟩⟩⟩
      refine ⟨_, rfl, t0, _, 0, .ref t1, rfl, rfl, .inl (.inl upd_same), atI_nat (j := 0) rfl, ?_⟩
      exact q _ _ (e2.trans ((same_new n1).trans ((same_new n2).trans ((same_new n3).trans (same_new n0))))) (.inl (.inl (((same_new n2).trans ((same_new n3).trans (same_new n0))) _ _ upd_same)))
    | ask1 p =>
      rw [eqv_cons_nil]
      obtain ⟨_, us1, rfl, h0, hA1⟩ := dpAll_cons hA
      cases h0
      obtain ⟨x1, us2, rfl, _, hA2⟩ := dpAll_cons hA1
      cases hA2
      refine ⟨_, rfl, r, _, 0, _, rfl, rfl, .inl (.inl hL1), at0, _, rfl, r, _, rfl, .inl (.inl (.inl hL1)), _, _, rfl, rfl, _, _, rfl, ?_⟩
      refine ⟨_, rfl, (by show 2 ≤ sizeLine; decide), fun t nt => ⟨t, _, rfl, .inr (.inl (.inl upd_same)), rfl, rfl, _, rfl, ?_⟩⟩
      have e2 := e1.trans (same_new (o := .tup [.str "say", .str "parts"]) nt)
      refine ⟨_, rfl, rfl, _, rfl, ?_⟩
      refine ⟨_, rfl, rfl, _, rfl, ?_⟩
      refine ⟨(by show 1 ≤ sizeLine; decide), fun t1 n1 => ⟨(by show 1 ≤ sizeLine; decide), fun t2 n2 => ⟨(by show 1 ≤ sizeLine; decide), fun t3 n3 => ⟨(by show 3 ≤ sizeLine; decide), fun t0 n0 => ?_⟩⟩⟩⟩
      refine ⟨_, rfl, t0, _, 1, .ref t2, rfl, rfl, .inl (.inl upd_same), atI_nat (j := 1) rfl, ?_⟩
      exact q _ _ (e2.trans ((same_new n1).trans ((same_new n2).trans ((same_new n3).trans (same_new n0))))) (.inl (.inl (((same_new n3).trans (same_new n0)) _ _ upd_same)))
    | ask2 p a =>
      rw [eqv_cons_nil]
      obtain ⟨_, us1, rfl, h0, hA1⟩ := dpAll_cons hA
      cases h0
      obtain ⟨x1, us2, rfl, _, hA2⟩ := dpAll_cons hA1
      obtain ⟨x2, us3, rfl, _, hA3⟩ := dpAll_cons hA2
      cases hA3
      refine ⟨_, rfl, r, _, 0, _, rfl, rfl, .inl (.inl hL1), at0, _, rfl, r, _, rfl, .inl (.inl (.inl hL1)), _, _, rfl, rfl, _, _, rfl, ?_⟩
      refine ⟨_, rfl, (by show 2 ≤ sizeLine; decide), fun t nt => ⟨t, _, rfl, .inr (.inl (.inl upd_same)), rfl, rfl, _, rfl, ?_⟩⟩
      have e2 := e1.trans (same_new (o := .tup [.str "say", .str "parts"]) nt)
      refine ⟨_, rfl, rfl, _, rfl, ?_⟩
      refine ⟨_, rfl, rfl, _, rfl, ?_⟩
      refine ⟨(by show 1 ≤ sizeLine; decide), fun t1 n1 => ⟨(by show 1 ≤ sizeLine; decide), fun t2 n2 => ⟨(by show 1 ≤ sizeLine; decide), fun t3 n3 => ⟨(by show 3 ≤ sizeLine; decide), fun t0 n0 => ?_⟩⟩⟩⟩
      refine ⟨_, rfl, t0, _, 2, .ref t3, rfl, rfl, .inl (.inl upd_same), atI_nat (j := 2) rfl, ?_⟩
      exact q _ _ (e2.trans ((same_new n1).trans ((same_new n2).trans ((same_new n3).trans (same_new n0))))) (.inl (.inl ((same_new n0) _ _ upd_same)))
theorem ok_told {f : Addr} {fd : FuncData} (D : Df K mg "told" s_told ["read"] f fd) (T : Txt K w mg cs) : FnOk P w K mg base CX0 1 f fd ["read"] (spTold K) := by
  refine D.fn.ok sc_told (fun vs H Q E h => ?_) (fun cdv A outer s H vs Q E hr h => ?_)
  · obtain ⟨r, vs, top, d, rfl, _⟩ := h
    rfl
  · obtain ⟨r, us, top, d, rfl, hL, hA, hl, td, q⟩ := h
    refine ⟨_, (pss_cons (ps_if (pt_cmpR op_eq (pe_ix (ixL K) (pv 0) pe_int (fun _ _ => rfl)) (C8.pe_gc (by rfl) T.g_PARTS) (nomark _)) (pss_one (ps_ret (pe_callTy (tupOf K) (by rfl) T.n_tuple (by decide +kernel) (pa_cons (pe_slice (slL K) (pv 0) (po_some pe_int) po_none) pa_nil)))) pss_nil) (pss_cons (ps_if (pt_cmpR op_in_seq (pe_ix (ixL K) (pv 0) pe_int (fun _ _ => rfl)) (pe_tup (pa_cons pe_str (pa_cons pe_str pa_nil))) (by rfl)) (pss_one (ps_ret (pe_tup (pa_cons (pe_ix (ixL K) (pv 0) pe_int (fun _ _ => rfl)) (pa_cons (pe_callTy (tupOf K) (by rfl) T.n_tuple (by decide +kernel) (pa_cons (pe_slice (slL K) (pv 0) (po_some pe_int) po_none) pa_nil)) pa_nil))))) pss_nil) (pss_one (ps_ret (pe_callTy (tupOf K) (by rfl) T.n_tuple (by decide +kernel) (pa_cons (pv 0) pa_nil)))))), ?_⟩
    cases td with
    | parts ps =>
      obtain ⟨_, us1, rfl, h0, hA1⟩ := dpAll_cons hA
      cases h0
      refine ⟨_, rfl, r, _, 0, _, rfl, rfl, .inl (.inl hL), at0, rfl, _, rfl, ?_⟩
      refine ⟨_, rfl, _, rfl, r, _, rfl, .inl (.inl hL), fun p np => ⟨p, _, rfl, .inl ⟨.inl (.inl upd_same), fun t nt => ?_⟩⟩⟩
      rw [cutV_one] at nt ⊢
      exact q _ _ ((same_new np).trans (same_new nt)) (.tup (.inl (.inl upd_same)) (dps_same ((same_new np).trans (same_new nt)) _ hA1))
    | say ps =>
      obtain ⟨_, us1, rfl, h0, hA1⟩ := dpAll_cons hA
      cases h0
      refine ⟨_, rfl, r, _, 0, _, rfl, rfl, .inl (.inl hL), at0, rfl, _, rfl, ?_⟩
      refine ⟨_, rfl, r, _, 0, _, rfl, rfl, .inl (.inl hL), at0, (by show 2 ≤ sizeLine; decide), fun t0 n0 => ⟨t0, _, rfl, .inr (.inl (.inl upd_same)), rfl, rfl, _, rfl, ?_⟩⟩
      have e0 := same_new (o := .tup [.str "say", .str "toss"]) n0
      refine ⟨_, rfl, r, _, 0, _, rfl, rfl, .inl (.inl (e0 _ _ hL)), at0, ?_⟩
      refine ⟨_, rfl, _, rfl, r, _, rfl, .inl (.inl (e0 _ _ hL)), fun p np => ⟨p, _, rfl, .inl ⟨.inl (.inl upd_same), fun t nt => ?_⟩⟩⟩
      rw [cutV_one] at nt ⊢
      refine ⟨(by show 2 ≤ sizeLine; decide), fun z nz => q _ _ (e0.trans ((same_new np).trans ((same_new nt).trans (same_new nz)))) ?_⟩
      refine .tup (.inl (.inl upd_same)) (.cons (.str _) (.cons (.tup (.inl (.inl (same_new nz _ _ upd_same))) (dps_same (e0.trans ((same_new np).trans ((same_new nt).trans (same_new nz)))) _ hA1)) .nil))
    | toss b bs =>
      obtain ⟨_, us1, rfl, h0, hA1⟩ := dpAll_cons hA
      cases h0
      refine ⟨_, rfl, r, _, 0, _, rfl, rfl, .inl (.inl hL), at0, rfl, _, rfl, ?_⟩
      refine ⟨_, rfl, r, _, 0, _, rfl, rfl, .inl (.inl hL), at0, (by show 2 ≤ sizeLine; decide), fun t0 n0 => ⟨t0, _, rfl, .inr (.inl (.inl upd_same)), rfl, rfl, _, rfl, ?_⟩⟩
      have e0 := same_new (o := .tup [.str "say", .str "toss"]) n0
      refine ⟨_, rfl, r, _, 0, _, rfl, rfl, .inl (.inl (e0 _ _ hL)), at0, ?_⟩
      refine ⟨_, rfl, _, rfl, r, _, rfl, .inl (.inl (e0 _ _ hL)), fun p np => ⟨p, _, rfl, .inl ⟨.inl (.inl upd_same), fun t nt => ?_⟩⟩⟩
      rw [cutV_one] at nt ⊢
      refine ⟨(by show 2 ≤ sizeLine; decide), fun z nz => q _ _ (e0.trans ((same_new np).trans ((same_new nt).trans (same_new nz)))) ?_⟩
      refine .tup (.inl (.inl upd_same)) (.cons (.str _) (.cons (.tup (.inl (.inl (same_new nz _ _ upd_same))) (dps_same (e0.trans ((same_new np).trans ((same_new nt).trans (same_new nz)))) _ hA1)) .nil))
    | look i a b =>
      obtain ⟨_, us1, rfl, h0, hA1⟩ := dpAll_cons hA
      cases h0
      refine ⟨_, rfl, r, _, 0, _, rfl, rfl, .inl (.inl hL), at0, rfl, _, rfl, ?_⟩
      refine ⟨_, rfl, r, _, 0, _, rfl, rfl, .inl (.inl hL), at0, (by show 2 ≤ sizeLine; decide), fun t0 n0 => ⟨t0, _, rfl, .inr (.inl (.inl upd_same)), rfl, rfl, _, rfl, ?_⟩⟩
      have e0 := same_new (o := .tup [.str "say", .str "toss"]) n0
      refine ⟨_, rfl, r, _, rfl, .inl ⟨.inl (.inl (e0 _ _ hL)), fun t nt => q _ _ (e0.trans (same_new nt)) ?_⟩⟩
      exact .tup (.inl (.inl upd_same)) (.cons (.str _) (dps_same (e0.trans (same_new nt)) _ hA1))
    | ask ps a =>
      obtain ⟨_, us1, rfl, h0, hA1⟩ := dpAll_cons hA
      cases h0
      refine ⟨_, rfl, r, _, 0, _, rfl, rfl, .inl (.inl hL), at0, rfl, _, rfl, ?_⟩
      refine ⟨_, rfl, r, _, 0, _, rfl, rfl, .inl (.inl hL), at0, (by show 2 ≤ sizeLine; decide), fun t0 n0 => ⟨t0, _, rfl, .inr (.inl (.inl upd_same)), rfl, rfl, _, rfl, ?_⟩⟩
      have e0 := same_new (o := .tup [.str "say", .str "toss"]) n0
      refine ⟨_, rfl, r, _, rfl, .inl ⟨.inl (.inl (e0 _ _ hL)), fun t nt => q _ _ (e0.trans (same_new nt)) ?_⟩⟩
      exact .tup (.inl (.inl upd_same)) (.cons (.str _) (dps_same (e0.trans (same_new nt)) _ hA1))

end
/-! ### the stack on the heap -/
/-- the heap without its lists -/
def tu (H : Hp) : Hp := fun b => match H b with
  | some (.lst _) => none
  | o => o
theorem tu_some {H : Hp} {b : Addr} {o : HO} (h : tu H b = some o) : H b = some o := by
  unfold tu at h
  split at h
  · cases h
  · exact h
theorem tu_same (H : Hp) : Same (tu H) H := fun _ _ h => tu_some h
theorem tu_keep {H : Hp} {b : Addr} {o : HO} (h : H b = some o) (n : ∀ xs, o ≠ .lst xs) : tu H b = some o := by
  unfold tu
  rw [h]
  split
  · rename_i e
    exact absurd (Option.some.inj e) (n _)
  · rfl
theorem tu_not {H : Hp} {b : Addr} {o : HO} (h : tu H b = some o) : ∀ xs, o ≠ .lst xs := fun xs e => by
  subst e
  unfold tu at h
  split at h
  · cases h
  · rename_i n
    exact n _ h
theorem tu_mono {H H' : Hp} (s : Same H H') : Same (tu H) (tu H') := fun b o h => tu_keep (s b o (tu_some h)) (tu_not h)
theorem tu_set {H : Hp} {r : Addr} {xs ys : List V} (h : H r = some (.lst xs)) : Same (tu H) (tu (upd H r (.lst ys))) := fun b o e => by
  have ne : b ≠ r := fun z => by
    rw [z] at e
    exact tu_not e xs (by rw [tu_some e] at h; exact Option.some.inj h)
  exact tu_keep (by rw [upd_ne ne]; exact tu_some e) (tu_not e)
/-- data of tuples, texts and numbers -/
inductive Tp : PyData → Prop where
  | str (x : Str) : Tp (.str x)
  | int (i : Int) : Tp (.int i)
  | tup (xs : List PyData) (h : ∀ x ∈ xs, Tp x) : Tp (.tuple xs)
theorem tp_tup {xs : List PyData} (h : Tp (.tuple xs)) : ∀ x ∈ xs, Tp x := by
  cases h with
  | tup _ h => exact h
theorem sqt_tu {K : PySem.W.Frag} {H : Hp} {p : Addr} {xs : List V} (s : SqT K H p xs) : SqT K (tu H) p xs := by
  rcases s with (h | ⟨o, h⟩) | h
  · exact .inl (.inl (tu_keep h fun _ e => nomatch e))
  · exact .inl (.inr ⟨o, tu_keep h fun _ e => nomatch e⟩)
  · exact .inr h
mutual
theorem dp_tu {K : PySem.W.Frag} {H : Hp} : ∀ (D : PyData) {v : V}, Tp D → Dp K H v D → Dp K (tu H) v D
  | .int _, _, _, .int i => .int i
  | .str _, _, _, .str x => .str x
  | .tuple xs, _, h, .tup hs ha => .tup (sqt_tu hs) (dps_tu xs (tp_tup h) ha)
  | .none, _, h, _ => nomatch h
  | .bool _, _, h, _ => nomatch h
  | .list _, _, h, _ => nomatch h
  | .dict _, _, h, _ => nomatch h
theorem dps_tu {K : PySem.W.Frag} {H : Hp} : ∀ (ds : List PyData) {vs : List V}, (∀ x ∈ ds, Tp x) → DpAll K H vs ds → DpAll K (tu H) vs ds
  | [], _, _, .nil => .nil
  | d :: ds, _, h, .cons h1 t => .cons (dp_tu d (h d List.mem_cons_self) h1) (dps_tu ds (fun x hx => h x (List.mem_cons_of_mem _ hx)) t)
end
/-- the open lists, the innermost first, with at most c parts -/
inductive StkL (K : PySem.W.Frag) (H : Hp) (c : Nat) : List Addr → List (List PyData) → Prop where
  | nil : StkL K H c [] []
  | cons {r : Addr} {us : List V} {ds : List PyData} {rs : List Addr} {S : List (List PyData)} (h : H r = some (.lst us)) (a : DpAll K (tu H) us ds) (t : ∀ d ∈ ds, Tp d) (l : PyData.canLayAll0 ds = true) (n : us.length ≤ c) (q : StkL K H c rs S) : StkL K H c (r :: rs) (ds :: S)
/-- what stays: the lists of the stack, and all that is no list -/
theorem StkL.same {K : PySem.W.Frag} {H H' : Hp} {c c' : Nat} {rs : List Addr} {S : List (List PyData)} (h : StkL K H c rs S) (e : Same (tu H) (tu H')) (k : ∀ r ∈ rs, ∀ o, H r = some o → H' r = some o) (hc : c ≤ c') : StkL K H' c' rs S := by
  induction h with
  | nil => exact .nil
  | cons h a t l n q ih => exact .cons (k _ List.mem_cons_self _ h) (dps_same e _ a) t l (Nat.le_trans n hc) (ih fun r hr => k r (List.mem_cons_of_mem _ hr))
/-- the stack at U: it and its lists are new since H0, of which all stays -/
def Stk (K : PySem.W.Frag) (H0 H : Hp) (c : Nat) (U : Addr) (S : List (List PyData)) : Prop := ∃ rs : List Addr, H U = some (.lst (rs.reverse.map V.ref)) ∧ (U :: rs).Nodup ∧ rs.length ≤ c ∧ StkL K H c rs S ∧ Same H0 H ∧ ∀ x ∈ U :: rs, H0 x = none
theorem Stk.same {K : PySem.W.Frag} {H0 H H' : Hp} {c : Nat} {U : Addr} {S : List (List PyData)} (h : Stk K H0 H c U S) (e : Same H H') : Stk K H0 H' c U S := by
  obtain ⟨rs, h1, h2, h3, h4, h5, h6⟩ := h
  exact ⟨rs, e _ _ h1, h2, h3, h4.same (tu_mono e) (fun r _ o => e r o) (Nat.le_refl _), h5.trans e, h6⟩
theorem atI_revR {rs : List Addr} {r : Addr} : atI ((r :: rs).reverse.map V.ref) (-1) = some (V.ref r) := by
  unfold atI
  have hl : ((r :: rs).reverse.map V.ref).length = rs.length + 1 := by rw [List.length_map, List.length_reverse, List.length_cons]
  have hx : ixN ((r :: rs).reverse.map V.ref).length (-1) = some rs.length := by
    unfold ixN
    rw [hl, if_neg (by decide), if_pos (by omega)]
    congr 1
    omega
  rw [hx]
  show ((r :: rs).reverse.map V.ref)[rs.length]? = _
  rw [List.getElem?_map, List.reverse_cons, List.getElem?_append_right (by rw [List.length_reverse]; exact Nat.le_refl _), List.length_reverse, Nat.sub_self]
  rfl
/-- a part put behind the innermost list -/
theorem Stk.push {K : PySem.W.Frag} {H0 H : Hp} {c : Nat} {U r : Addr} {us : List V} {ds : List PyData} {rs : List Addr} {S : List (List PyData)} {v : V} {d : PyData} (hU : H U = some (.lst ((r :: rs).reverse.map V.ref))) (nd : (U :: r :: rs).Nodup) (hl : (r :: rs).length ≤ c)
    (h : StkL K H c (r :: rs) (ds :: S)) (hr : H r = some (.lst us)) (hv : Dp K (tu H) v d) (td : Tp d) (ld : d.canLay0 = true) (sb : Same H0 H) (fr : ∀ x ∈ U :: r :: rs, H0 x = none) : Stk K H0 (upd H r (.lst (us ++ [v]))) (c + 1) U ((ds ++ [d]) :: S) ∧ Same (tu H) (tu (upd H r (.lst (us ++ [v])))) := by
  have e := tu_set (ys := us ++ [v]) hr
  refine ⟨⟨r :: rs, ?_, nd, by omega, ?_, same_set sb (fr r (List.mem_cons_of_mem _ List.mem_cons_self)), fr⟩, e⟩
  · have : U ≠ r := fun z => by
      rw [z] at nd
      exact (List.nodup_cons.mp nd).1 List.mem_cons_self
    rw [upd_ne this]
    exact hU
  · cases h with
    | cons h a t l n q =>
      rw [hr] at h
      injection h with h
      injection h with h
      subst h
      refine .cons upd_same (dpAll_snoc (dps_same e _ a) (dp_same e _ hv)) ?_ ?_ ?_ (q.same e (fun x hx o ho => ?_) (Nat.le_succ c))
      · intro x hx
        rcases List.mem_append.mp hx with z | z
        · exact t x z
        · rw [List.mem_singleton.mp z]
          exact td
      · have lay : ∀ l : List PyData, PyData.canLayAll0 l = true → PyData.canLayAll0 (l ++ [d]) = true := by
          intro l
          induction l with
          | nil =>
            intro _
            show PyData.canLayAll0 [d] = true
            simp only [PyData.canLayAll0, ld, Bool.and_true]
          | cons y l ih =>
            intro h
            simp only [PyData.canLayAll0, Bool.and_eq_true] at h
            show PyData.canLayAll0 (y :: (l ++ [d])) = true
            simp only [PyData.canLayAll0, Bool.and_eq_true]
            exact ⟨h.1, ih h.2⟩
        exact lay _ l
      · rw [List.length_append]
        show _ + 1 ≤ _
        omega
      · have nr : x ≠ r := fun z => by
          subst z
          exact (List.nodup_cons.mp (List.nodup_cons.mp nd).2).1 hx
        rw [upd_ne nr]
        exact ho

/-- a new list put upon the stack -/
theorem Stk.open_ {K : PySem.W.Frag} {H0 H : Hp} {c : Nat} {U N : Addr} {S : List (List PyData)} {us : List V} {ds : List PyData} {rs : List Addr} (hU : H U = some (.lst (rs.reverse.map V.ref))) (nd : (U :: rs).Nodup) (hl : rs.length ≤ c) (h : StkL K H c rs S)
    (hN : H N = some (.lst us)) (ne : N ≠ U) (nr : N ∉ rs) (ha : DpAll K (tu H) us ds) (ht : ∀ d ∈ ds, Tp d) (lay : PyData.canLayAll0 ds = true) (hn : us.length ≤ c + 1) (sb : Same H0 H) (fr : ∀ x ∈ U :: rs, H0 x = none) (fN : H0 N = none) :
    Stk K H0 (upd H U (.lst (rs.reverse.map V.ref ++ [.ref N]))) (c + 1) U (ds :: S) ∧ Same (tu H) (tu (upd H U (.lst (rs.reverse.map V.ref ++ [.ref N])))) := by
  have e := tu_set (ys := rs.reverse.map V.ref ++ [.ref N]) hU
  obtain ⟨n1, n2⟩ := List.nodup_cons.mp nd
  refine ⟨⟨N :: rs, ?_, ?_, by rw [List.length_cons]; omega, ?_, same_set sb (fr U List.mem_cons_self), fun x hx => ?_⟩, e⟩
  · rw [upd_same, List.reverse_cons, List.map_append]
    rfl
  · refine List.nodup_cons.mpr ⟨fun m => ?_, List.nodup_cons.mpr ⟨nr, n2⟩⟩
    rcases List.mem_cons.mp m with z | z
    · exact ne z.symm
    · exact n1 z
  · refine .cons (by rw [upd_ne ne]; exact hN) (dps_same e _ ha) ht lay hn (h.same e (fun x hx o ho => ?_) (Nat.le_succ c))
    rw [upd_ne fun z => n1 (by rw [← z]; exact hx)]
    exact ho
  · rcases List.mem_cons.mp hx with z | z
    · rw [z]
      exact fr U List.mem_cons_self
    · rcases List.mem_cons.mp z with z | z
      · rw [z]
        exact fN
      · exact fr x (List.mem_cons_of_mem _ z)
theorem StkL.fresh {K : PySem.W.Frag} {H : Hp} {c : Nat} {rs : List Addr} {S : List (List PyData)} (h : StkL K H c rs S) {N : Addr} (n : H N = none) : N ∉ rs := by
  induction h with
  | nil => exact fun m => nomatch m
  | cons h a t l nn q ih =>
    intro m
    rcases List.mem_cons.mp m with z | z
    · rw [z, h] at n
      cases n
    · exact ih z
theorem told_facts {top : List PyData} {d : PyData} (h : Told top d) (ht : ∀ x ∈ top, Tp x) (lay : PyData.canLayAll0 top = true) : Tp d ∧ d.canLay0 = true := by
  have tl : ∀ {x : PyData} {xs : List PyData}, PyData.canLayAll0 (x :: xs) = true → PyData.canLayAll0 xs = true := fun {x xs} h => by
    simp only [PyData.canLayAll0, Bool.and_eq_true] at h
    exact h.2
  cases h with
  | parts ps => exact ⟨.tup _ fun x hx => ht x (List.mem_cons_of_mem _ hx), by simp only [PyData.canLay0]; exact tl lay⟩
  | say ps =>
    refine ⟨.tup _ fun x hx => ?_, ?_⟩
    · rcases List.mem_cons.mp hx with e | hx
      · rw [e]
        exact .str _
      · rw [List.mem_singleton.mp hx]
        exact .tup _ fun y hy => ht y (List.mem_cons_of_mem _ hy)
    · have := tl lay
      have e : PyData.canLay0 (.str "say") = true := by decide +kernel
      simp only [PyData.canLay0, PyData.canLayAll0, Bool.and_eq_true] at e ⊢
      exact ⟨e, this, trivial⟩
  | toss b bs =>
    refine ⟨.tup _ fun x hx => ?_, ?_⟩
    · rcases List.mem_cons.mp hx with e | hx
      · rw [e]
        exact .str _
      · rw [List.mem_singleton.mp hx]
        exact .tup _ fun y hy => ht y (List.mem_cons_of_mem _ hy)
    · have := tl lay
      have e : PyData.canLay0 (.str "toss") = true := by decide +kernel
      simp only [PyData.canLay0, PyData.canLayAll0, Bool.and_eq_true] at e this ⊢
      exact ⟨e, this, trivial⟩
  | look i a b => exact ⟨.tup _ ht, by simp only [PyData.canLay0]; exact lay⟩
  | ask ps a => exact ⟨.tup _ ht, by simp only [PyData.canLay0]; exact lay⟩
theorem pop_last {rs : List Addr} {r : Addr} : ((r :: rs).reverse.map V.ref)[((r :: rs).reverse.map V.ref).length - 1]? = some (.ref r) ∧ ((r :: rs).reverse.map V.ref).dropLast = rs.reverse.map V.ref := by
  rw [List.reverse_cons, List.map_append]
  refine ⟨?_, List.dropLast_concat⟩
  rw [List.length_append, List.length_map, List.length_reverse]
  show (List.map V.ref rs.reverse ++ [V.ref r])[rs.length + 1 - 1]? = _
  rw [Nat.add_sub_cancel, List.getElem?_append_right (by rw [List.length_map, List.length_reverse]; exact Nat.le_refl _), List.length_map, List.length_reverse, Nat.sub_self]
  rfl

/-! ### the program's stack of a state -/
def undD : Und → List PyData
  | .toss bs => .str "toss" :: brsD bs
  | .look1 i => [.str "look", .int (i : Int)]
  | .look2 i a => [.str "look", .int (i : Int), brD a]
  | .ask1 ps => [.str "ask", psD ps]
def topD : Top → List PyData
  | .name => []
  | .say ps => .str "say" :: ps.map paD
  | .list ps => .str "parts" :: ps.map paD
  | .und u => undD u
  | .look0 => [.str "look"]
  | .look3 i a b => [.str "look", .int (i : Int), brD a, brD b]
  | .ask0 => [.str "ask"]
  | .ask2 ps a => [.str "ask", psD ps, brD a]
def belD : Top → List Und → List (List PyData)
  | .list _, us => [.str "ask"] :: us.map undD
  | _, us => us.map undD
def stkD : Rs → List (List PyData)
  | .op t us => topD t :: belD t us
  | _ => []
def awT : Top → List Str
  | .name => ["kind"]
  | .say _ => ["part", ")"]
  | .list _ => ["part", ")"]
  | .und (.toss []) => ["("]
  | .und (.toss (_ :: _)) => ["(", ")"]
  | .und (.look1 _) => ["("]
  | .und (.look2 _ _) => ["("]
  | .und (.ask1 _) => ["("]
  | .look0 => ["number"]
  | .look3 _ _ _ => [")"]
  | .ask0 => ["("]
  | .ask2 _ _ => [")"]
theorem aw_top : ∀ t : Top, AwS (topD t) (awT t)
  | .name => .empty
  | .say ps => .say _
  | .list ps => .parts _
  | .und (.toss []) => .toss0
  | .und (.toss (b :: bs)) => .toss1 _ _
  | .und (.look1 _) => .look1 _
  | .und (.look2 _ _) => .look2 _ _
  | .und (.ask1 _) => .ask1 _
  | .look0 => .look0
  | .look3 _ _ _ => .look3 _ _ _
  | .ask0 => .ask0
  | .ask2 _ _ => .ask2 _ _
theorem aw_flat : ∀ t : Top, ((awT t).map V.str).all flatV = true
  | .name => rfl
  | .say ps => rfl
  | .list ps => rfl
  | .und (.toss []) => rfl
  | .und (.toss (b :: bs)) => rfl
  | .und (.look1 _) => rfl
  | .und (.look2 _ _) => rfl
  | .und (.ask1 _) => rfl
  | .look0 => rfl
  | .look3 _ _ _ => rfl
  | .ask0 => rfl
  | .ask2 _ _ => rfl
/-- what a word is asked for here: its kind, or none -/
theorem aw_word : ∀ t : Top, (∃ k ss, kdT t = some k ∧ awT t = kdS k :: ss) ∨ (kdT t = none ∧ ∃ x ss, awT t = x :: ss ∧ inV (.str x) [.str "kind", .str "part", .str "number"] = false)
  | .name => .inl ⟨_, _, rfl, rfl⟩
  | .say ps => .inl ⟨_, _, rfl, rfl⟩
  | .list ps => .inl ⟨_, _, rfl, rfl⟩
  | .und (.toss []) => .inr ⟨rfl, _, _, rfl, by decide +kernel⟩
  | .und (.toss (b :: bs)) => .inr ⟨rfl, _, _, rfl, by decide +kernel⟩
  | .und (.look1 _) => .inr ⟨rfl, _, _, rfl, by decide +kernel⟩
  | .und (.look2 _ _) => .inr ⟨rfl, _, _, rfl, by decide +kernel⟩
  | .und (.ask1 _) => .inr ⟨rfl, _, _, rfl, by decide +kernel⟩
  | .look0 => .inl ⟨_, _, rfl, rfl⟩
  | .look3 _ _ _ => .inr ⟨rfl, _, _, rfl, by decide +kernel⟩
  | .ask0 => .inr ⟨rfl, _, _, rfl, by decide +kernel⟩
  | .ask2 _ _ => .inr ⟨rfl, _, _, rfl, by decide +kernel⟩
theorem kd_in (k : Kd) : inV (.str (kdS k)) [.str "kind", .str "part", .str "number"] = true := by cases k <;> decide +kernel
def opnT : Top → Bool
  | .und _ => true
  | .ask0 => true
  | _ => false
def clsT : Top → Bool
  | .say _ => true
  | .list _ => true
  | .und (.toss (_ :: _)) => true
  | .look3 _ _ _ => true
  | .ask2 _ _ => true
  | _ => false
theorem in_p00 : inV (.str "(") ((["kind"] : List Str).map V.str) = false := by decide +kernel
theorem in_p01 : inV (.str "(") ((["part", ")"] : List Str).map V.str) = false := by decide +kernel
theorem in_p02 : inV (.str "(") ((["("] : List Str).map V.str) = true := by decide +kernel
theorem in_p03 : inV (.str "(") ((["(", ")"] : List Str).map V.str) = true := by decide +kernel
theorem in_p04 : inV (.str "(") ((["number"] : List Str).map V.str) = false := by decide +kernel
theorem in_p05 : inV (.str "(") (([")"] : List Str).map V.str) = false := by decide +kernel
theorem in_p10 : inV (.str ")") ((["kind"] : List Str).map V.str) = false := by decide +kernel
theorem in_p11 : inV (.str ")") ((["part", ")"] : List Str).map V.str) = true := by decide +kernel
theorem in_p12 : inV (.str ")") ((["("] : List Str).map V.str) = false := by decide +kernel
theorem in_p13 : inV (.str ")") ((["(", ")"] : List Str).map V.str) = true := by decide +kernel
theorem in_p14 : inV (.str ")") ((["number"] : List Str).map V.str) = false := by decide +kernel
theorem in_p15 : inV (.str ")") (([")"] : List Str).map V.str) = true := by decide +kernel
theorem aw_open : ∀ t : Top, inV (.str "(") ((awT t).map V.str) = opnT t
  | .name => in_p00
  | .say _ => in_p01
  | .list _ => in_p01
  | .und (.toss []) => in_p02
  | .und (.toss (_ :: _)) => in_p03
  | .und (.look1 _) => in_p02
  | .und (.look2 _ _) => in_p02
  | .und (.ask1 _) => in_p02
  | .look0 => in_p04
  | .look3 _ _ _ => in_p05
  | .ask0 => in_p02
  | .ask2 _ _ => in_p05
theorem aw_close : ∀ t : Top, inV (.str ")") ((awT t).map V.str) = clsT t
  | .name => in_p10
  | .say _ => in_p11
  | .list _ => in_p11
  | .und (.toss []) => in_p12
  | .und (.toss (_ :: _)) => in_p13
  | .und (.look1 _) => in_p12
  | .und (.look2 _ _) => in_p12
  | .und (.ask1 _) => in_p12
  | .look0 => in_p14
  | .look3 _ _ _ => in_p15
  | .ask0 => in_p12
  | .ask2 _ _ => in_p15
theorem left7 (t : Top) (us : List Und) : (opnR (.op t us) = none ∧ inV (.str "(") ((awT t).map V.str) = false) ∨ ∃ r b, opnR (.op t us) = some r ∧ inV (.str "(") ((awT t).map V.str) = true ∧ PyData.eqv (.list (topD t)) (.list [.str "ask"]) = b ∧ stkD r = (if b = true then [.str "parts"] else []) :: topD t :: belD t us := by
  have ts : PyData.eqv (.str "toss") (.str "ask") = false := by decide +kernel
  have ls : PyData.eqv (.str "look") (.str "ask") = false := by decide +kernel
  have as : PyData.eqv (.str "ask") (.str "ask") = true := by decide +kernel
  cases t with
  | und u =>
    refine .inr ⟨_, false, rfl, aw_open _, ?_, rfl⟩
    · cases u with
      | toss bs => show PyData.eqv (.list (.str "toss" :: brsD bs)) (.list [.str "ask"]) = false; simp only [PyData.eqv, PyData.eqvAll] at ts ⊢; simp [ts]
      | look1 i => show PyData.eqv (.list [.str "look", .int (i : Int)]) (.list [.str "ask"]) = false; simp only [PyData.eqv, PyData.eqvAll] at ls ⊢; simp [ls]
      | look2 i a => show PyData.eqv (.list [.str "look", .int (i : Int), brD a]) (.list [.str "ask"]) = false; simp only [PyData.eqv, PyData.eqvAll] at ls ⊢; simp [ls]
      | ask1 ps => show PyData.eqv (.list [.str "ask", psD ps]) (.list [.str "ask"]) = false; simp only [PyData.eqv, PyData.eqvAll]; simp
  | ask0 => exact .inr ⟨_, true, rfl, aw_open _, (by show PyData.eqv (.list [.str "ask"]) (.list [.str "ask"]) = true; simp only [PyData.eqv, PyData.eqvAll] at as ⊢; simp [as]), rfl⟩
  | _ => exact .inl ⟨rfl, aw_open _⟩
theorem brsD_app (b : Br) : ∀ bs : List Br, brsD (bs ++ [b]) = brsD bs ++ [brD b]
  | [] => rfl
  | x :: bs => congrArg (brD x :: ·) (brsD_app b bs)
/-- a breaker that is told goes to the list below -/
theorem done7 (b : Br) : ∀ us : List Und, (us = [] ∧ doneR b us = .whole b) ∨ ∃ u us', us = u :: us' ∧ stkD (doneR b us) = (undD u ++ [brD b]) :: us'.map undD ∧ ∃ t, doneR b us = .op t us'
  | [] => .inl ⟨rfl, rfl⟩
  | .toss bs :: us => .inr ⟨_, _, rfl, (by show (.str "toss" :: brsD (bs ++ [b])) :: us.map undD = _; rw [brsD_app]; rfl), _, rfl⟩
  | .look1 i :: us => .inr ⟨_, _, rfl, rfl, _, rfl⟩
  | .look2 i a :: us => .inr ⟨_, _, rfl, rfl, _, rfl⟩
  | .ask1 ps :: us => .inr ⟨_, _, rfl, rfl, _, rfl⟩
/-- what is told goes below, or it is the whole -/
def Goes (d : PyData) (st : List (List PyData)) (r : Rs) : Prop := (st = [] ∧ stkD r = [] ∧ ∃ b, r = .whole b ∧ d = brD b) ∨ ∃ under st', st = under :: st' ∧ stkD r = (under ++ [d]) :: st' ∧ ∃ t us, r = .op t us
theorem goes7 (b : Br) (us : List Und) : Goes (brD b) (us.map undD) (doneR b us) := by
  rcases done7 b us with ⟨rfl, e⟩ | ⟨u, us', rfl, e, t, e2⟩
  · exact .inl ⟨rfl, rfl, b, e, rfl⟩
  · exact .inr ⟨_, _, rfl, e, t, us', e2⟩
theorem right7 (t : Top) (us : List Und) : (clsR (.op t us) = none ∧ inV (.str ")") ((awT t).map V.str) = false) ∨ ∃ r d, clsR (.op t us) = some r ∧ inV (.str ")") ((awT t).map V.str) = true ∧ Told (topD t) d ∧ Goes d (belD t us) r := by
  cases t with
  | say ps => exact .inr ⟨_, _, rfl, aw_close _, .say _, goes7 (.say ps) us⟩
  | list ps => exact .inr ⟨_, _, rfl, aw_close _, .parts _, .inr ⟨_, _, rfl, rfl, _, _, rfl⟩⟩
  | look3 i a b => exact .inr ⟨_, _, rfl, aw_close _, .look _ _ _, goes7 (.look i a b) us⟩
  | ask2 ps a => exact .inr ⟨_, _, rfl, aw_close _, .ask _ _, goes7 (.ask ps a) us⟩
  | und u =>
    cases u with
    | toss bs =>
      cases bs with
      | nil => exact .inl ⟨rfl, aw_close _⟩
      | cons b bs => exact .inr ⟨_, _, rfl, aw_close _, .toss _ _, goes7 (.toss (b :: bs)) us⟩
    | _ => exact .inl ⟨rfl, aw_close _⟩
  | _ => exact .inl ⟨rfl, aw_close _⟩
theorem fl7 {t : Top} {us : List Und} {k : Kd} {wd : List Nat} (hk : kdT t = some k) (hw : wholeK k wd = true) : stkD (flR (.op t us) wd) = (topD t ++ [meaD k wd]) :: belD t us := by
  cases t with
  | name =>
    cases hk
    have h := kind_word hw
    simp only [kindsL, List.mem_cons, List.not_mem_nil, or_false] at h
    rcases h with e | e | e | e <;> subst e
    · show _ = ([] ++ [PyData.str (SX.S sayC)]) :: _; rw [← say_S]; rfl
    · show _ = ([] ++ [PyData.str (SX.S tossC)]) :: _; rw [← toss_S]; rfl
    · show _ = ([] ++ [PyData.str (SX.S lookC)]) :: _; rw [← look_S]; rfl
    · show _ = ([] ++ [PyData.str (SX.S askC)]) :: _; rw [← ask_S]; rfl
  | say ps =>
    cases hk
    show (.str "say" :: (ps ++ [paW wd]).map paD) :: us.map undD = _
    rw [List.map_append]
    rfl
  | list ps =>
    cases hk
    show (.str "parts" :: (ps ++ [paW wd]).map paD) :: [.str "ask"] :: us.map undD = _
    rw [List.map_append]
    rfl
  | look0 =>
    cases hk
    rfl
  | _ => cases hk
theorem mea7 {k : Kd} {wd : List Nat} (hw : wholeK k wd = true) : (∀ {K : PySem.W.Frag} {H : Hp}, Dp K H (meaV k wd) (meaD k wd)) ∧ Tp (meaD k wd) ∧ (meaD k wd).canLay0 = true := by
  cases k with
  | kind =>
    refine ⟨.str _, .str _, ?_⟩
    have h := kind_word hw
    simp only [kindsL, List.mem_cons, List.not_mem_nil, or_false] at h
    rcases h with e | e | e | e <;> subst e <;> decide +kernel
  | num => exact ⟨.int _, .int _, rfl⟩
  | part =>
    show (∀ {K : PySem.W.Frag} {H : Hp}, Dp K H (paV (paW wd)) (paD (paW wd))) ∧ Tp (paD (paW wd)) ∧ (paD (paW wd)).canLay0 = true
    cases paW wd with
    | bit b => exact ⟨.str _, .str _, by cases b <;> decide +kernel⟩
    | ref i => exact ⟨.int _, .int _, rfl⟩
/-- an error at this place -/
def BadAt (C : Addr) (H : Hp) (E : XK) (n : Nat) : Prop := ∀ d H', H' d = some (.xd [("place", .int (n : Int))]) → Same H H' → E (.ref C) (some d) H'
inductive WOut where
  | bad (n : Nat)
  | ok (r : Rs)
def wordO (r : Rs) (wd : List Nat) : WOut := match kdR r with
  | none => .bad 0
  | some k => if runK k [] wd < wd.length then .bad (runK k [] wd) else if wholeK k wd = true then .ok (flR r wd) else .bad wd.length
def spTakeWord7 (K : PySem.W.Frag) (C : Addr) : Sp := fun vs H Q E => ∃ (H0 : Hp) (U : Addr) (wd : List Nat) (i c : Nat) (r : Rs), vs = [.ref U, .str (SX.S wd), .int (i : Int)] ∧ Stk K H0 H c U (stkD r) ∧ c ≤ 900000 ∧ wd ≠ [] ∧ wd.length ≤ 900000 ∧ Few wd ∧
  match wordO r wd with
  | .bad n => BadAt C H E (i + n)
  | .ok r' => ∀ H', Stk K H0 H' (c + 1) U (stkD r') → Same (tu H) (tu H') → Q .non H'
def spTakeLeft7 (K : PySem.W.Frag) (C : Addr) : Sp := fun vs H Q E => ∃ (H0 : Hp) (U : Addr) (i c : Nat) (r : Rs), vs = [.ref U, .int (i : Int)] ∧ Stk K H0 H c U (stkD r) ∧ c ≤ 900000 ∧ (∀ b, r ≠ .whole b) ∧
  match opnR r with
  | none => BadAt C H E i
  | some r' => ∀ H', Stk K H0 H' (c + 1) U (stkD r') → Same (tu H) (tu H') → Q .non H'
def spTakeRight7 (K : PySem.W.Frag) (C : Addr) : Sp := fun vs H Q E => ∃ (H0 : Hp) (U : Addr) (i c : Nat) (r : Rs), vs = [.ref U, .int (i : Int)] ∧ Stk K H0 H c U (stkD r) ∧ c ≤ 900000 ∧
  match clsR r with
  | none => BadAt C H E i
  | some r' => ∀ v H', Stk K H0 H' (c + 1) U (stkD r') → Same (tu H) (tu H') → v ≠ .non → (∀ b, r' = .whole b → Dp K (tu H') v (brD b)) → Q v H'

section
variable {P : Program} {w : World} {K : PySem.W.Frag} {mg : Str → Option Value} {base : Heap} {cs : Cs}
theorem ok_takeword7 {f : Addr} {fd : FuncData} (D : Df K mg "take_word" s_take_word ["unclosed", "word", "at"] f fd) (T : Txt K w mg cs) (o_BadText : Oin P w K mg base "BadText" cs.BadText) (c_awaited : Cl P w K mg base CX0 1 "awaited" (spAwaited K)) (c_begun : Cl P w K mg base CX0 2 "begun" spBegun7)
    (c_is_whole_word : Cl P w K mg base CX0 1 "is_whole_word" spWholeW7) (c_meaning : Cl P w K mg base CX0 1 "meaning" spMean7) : FnOk P w K mg base (L2.CX P w) 3 f fd ["unclosed", "word", "at"] (spTakeWord7 K cs.BadText) := by
  refine D.fn.okX sc_take_word (fun vs H Q E h => ?_) (fun cdv A outer s H vs Q E hr h => ?_)
  · obtain ⟨H0, U, wd, i, c, r, rfl, _⟩ := h
    rfl
  · obtain ⟨H0, U, wd, i, c, r, rfl, st, hc, ne, wl, hf, q⟩ := h
    have tk := takes_of (X := cxOf (L2.CX P w) P w K mg base ["unclosed", "word", "at", "kind", "many"] "take_word" (defScope s_take_word) f cdv A outer s H E) (E := E) rfl rfl rfl rfl
    refine ⟨_, (pss_cons (ps_set (i := 3) sc_take_word.nd rfl (.inl rfl) (pe_ifExp (pt_truth (pv 0) (by intro _; rfl)) (pe_ix (ixT K) (pe_cl c_awaited hr (by first | decide | omega) (by rfl) (pa_cons (pe_ix (ixL K) (pv 0) (pe_un un_neg pe_int) (fun _ _ => rfl)) pa_nil)) pe_int (fun _ _ => rfl)) pe_str)) (pss_cons (ps_if (pt_cmpR op_notIn_seq (pv 3) (pe_tup (pa_cons pe_str (pa_cons pe_str (pa_cons pe_str pa_nil)))) (by rfl)) (pss_one (ps_raiseP o_BadText rfl tk hr (by first | decide | omega) (by rfl) (pa_cons (pv 2) pa_nil))) pss_nil) (pss_cons (ps_set (i := 4) sc_take_word.nd rfl (.inl rfl) (pe_cl c_begun hr (by first | decide | omega) (by rfl) (pa_cons (pv 1) (pa_cons (pv 3) pa_nil)))) (pss_cons (ps_if (PW.pt (pw_or (pt_cmpR op_lt (pv 4) (pe_callB call_len_str (by rfl) T.n_len (by decide +kernel) (pa_cons (pv 1) pa_nil)) (nomark _)) (pw_or1 (pt_not (pt_val (pe_cl c_is_whole_word hr (by first | decide | omega) (by rfl) (pa_cons (pv 1) (pa_cons (pv 3) pa_nil)))))))) (pss_one (ps_raiseP o_BadText rfl tk hr (by first | decide | omega) (by rfl) (pa_cons (pe_op op_add (pv 2) (pv 4)) pa_nil))) pss_nil) (pss_one (ps_expr (pe_bm PySem.F.plainAttrs_list PySem.F.slot_list_append PySem.F.type_list_append mt_append (pe_ix (ixL K) (pv 0) (pe_un un_neg pe_int) (fun _ _ => rfl)) (pa_cons (pe_cl c_meaning hr (by first | decide | omega) (by rfl) (pa_cons (pv 1) (pa_cons (pv 3) pa_nil))) pa_nil)))))))), ?_⟩
    have none7 : ∀ x : Str, inV (.str x) [.str "kind", .str "part", .str "number"] = false → kdR r = none → BadAt cs.BadText H E i := fun x _ hk => by
      have e : wordO r wd = .bad 0 := by
        unfold wordO
        rw [hk]
      rw [e] at q
      exact q
    cases r with
    | op t us =>
      obtain ⟨rs0, hU, nd, hl, hL, sb, fr⟩ := st
      cases hL with
      | @cons r us2 _ rs _ hr ha ht lay hn hq =>
      have hUL : SqL K H U ((r :: rs).reverse.map V.ref) := .inl (.inl hU)
      refine ⟨_, rfl, true, .inl ⟨_, hUL, by simp⟩, ?_⟩
      refine ⟨_, rfl, _, rfl, U, _, -1, _, rfl, rfl, hUL, atI_revR, r, us2, topD t, awT t, rfl, hr, dps_same (tu_same H) _ ha, lay, aw_top t, fun p H1 s1 hp => ?_⟩
      rcases aw_word t with ⟨k, ss, hk, e⟩ | ⟨hk, x, ss, e, hx⟩
      · rw [e] at hp
        refine ⟨p, _, 0, _, rfl, rfl, hp, at0, ?_⟩
        refine ⟨_, rfl, (by show 3 ≤ sizeLine; decide), fun t3 nt => ⟨t3, _, rfl, .inr (.inl (.inl upd_same)), rfl, rfl, _, rfl, ?_⟩⟩
        rw [show inV (V.str (kdS k)) [V.str (Str.ofString "kind"), V.str (Str.ofString "part"), V.str (Str.ofString "number")] = true from kd_in k]
        refine ⟨_, rfl, _, rfl, wd, k, rfl, ne, wl, fun H3 s3 => ?_⟩
        have e3 := s1.trans ((same_new (o := .tup [.str "kind", .str "part", .str "number"]) nt).trans s3)
        have hk' : kdR (.op t us) = some k := hk
        unfold wordO at q
        rw [hk'] at q
        refine ⟨_, rfl, _, rfl, _, rfl, S_small (by omega), _, _, rfl, rfl, _, rfl, ?_⟩
        rw [SX.S_len]
        by_cases lt : runK k [] wd < wd.length
        · rw [decide_eq_true (show ((runK k [] wd : Nat) : Int) < ((wd.length : Nat) : Int) by omega)]
          have q : BadAt cs.BadText H E (i + runK k [] wd) := by
            simp only [if_pos lt] at q
            exact q
          refine ⟨_, rfl, _, rfl, _, _, rfl, rfl, raised fun d H' hd hs => ?_⟩
          exact q d H' hd (e3.trans hs)
        · rw [decide_eq_false (show ¬ ((runK k [] wd : Nat) : Int) < ((wd.length : Nat) : Int) by omega)]
          have full : runK k [] wd = wd.length := by
            have := run_le (k := k) wd []
            omega
          have hx := run_ext (k := k) wd [] ne full
          refine ⟨_, rfl, _, rfl, wd, k, rfl, hx, ?_⟩
          by_cases hw : wholeK k wd = true
          · have q : ∀ H', Stk K H0 H' (c + 1) U (stkD (flR (.op t us) wd)) → Same (tu H) (tu H') → Q .non H' := by
              simp only [if_neg lt, if_pos hw] at q
              exact q
            rw [hw]
            refine ⟨_, rfl, ?_⟩
            have mf := mea7 hw
            have hr3 := e3 _ _ hr
            have hU3 := e3 _ _ hU
            have st3 := (StkL.cons hr ha ht lay hn hq).same (tu_mono e3) (fun x _ o ho => e3 x o ho) (Nat.le_refl c)
            obtain ⟨g1, g2⟩ := Stk.push hU3 nd hl st3 hr3 mf.1 mf.2.1 mf.2.2 (sb.trans e3) fr
            rw [fl7 hk hw] at q
            exact ⟨_, rfl, _, rfl, U, _, -1, _, rfl, rfl, .inl (.inl hU3), atI_revR, .inl ⟨rfl, _, .inl (.inl hr3)⟩, _, rfl, _, rfl, wd, k, rfl, hx, hw, hf, r, us2, _, rfl, rfl, hr3, by rw [sizeLine_eq]; omega, q _ g1 ((tu_mono e3).trans g2)⟩
          · have hw' : wholeK k wd = false := Bool.eq_false_iff.mpr hw
            have q : BadAt cs.BadText H E (i + wd.length) := by
              simp only [if_neg lt, if_neg hw] at q
              exact q
            rw [hw']
            refine ⟨_, rfl, ?_⟩
            refine ⟨_, rfl, _, rfl, _, _, rfl, rfl, raised fun d H' hd hs => ?_⟩
            rw [full] at hd
            exact q d H' hd (e3.trans hs)
      · rw [e] at hp
        refine ⟨p, _, 0, _, rfl, rfl, hp, at0, ?_⟩
        refine ⟨_, rfl, (by show 3 ≤ sizeLine; decide), fun t3 nt => ⟨t3, _, rfl, .inr (.inl (.inl upd_same)), rfl, rfl, _, rfl, ?_⟩⟩
        rw [show inV (V.str x) [V.str (Str.ofString "kind"), V.str (Str.ofString "part"), V.str (Str.ofString "number")] = false from hx]
        have e3 := s1.trans (same_new (o := .tup [.str "kind", .str "part", .str "number"]) nt)
        refine ⟨_, rfl, raised fun d H' hd hs => ?_⟩
        exact none7 x hx hk d H' hd (e3.trans hs)
    | _ =>
      obtain ⟨rs0, hU, nd, hl, hL, sb, fr⟩ := st
      cases hL
      refine ⟨_, rfl, false, .inl ⟨_, .inl (.inl hU), rfl⟩, ?_⟩
      refine ⟨_, rfl, (by show 3 ≤ sizeLine; decide), fun t3 nt => ⟨t3, _, rfl, .inr (.inl (.inl upd_same)), rfl, rfl, _, rfl, ?_⟩⟩
      rw [show inV (V.str (Str.ofString "(")) [V.str (Str.ofString "kind"), V.str (Str.ofString "part"), V.str (Str.ofString "number")] = false by decide +kernel]
      refine ⟨_, rfl, raised fun d H' hd hs => ?_⟩
      exact none7 "(" (by decide +kernel) rfl d H' hd ((same_new (o := .tup [.str "kind", .str "part", .str "number"]) nt).trans hs)

end
theorem told_tup {top : List PyData} {d : PyData} (h : Told top d) : ∃ xs, d = .tuple xs := by
  cases h <;> exact ⟨_, rfl⟩

section
variable {P : Program} {w : World} {K : PySem.W.Frag} {mg : Str → Option Value} {base : Heap} {cs : Cs}
theorem ok_takeleft7 {f : Addr} {fd : FuncData} (D : Df K mg "take_left" s_take_left ["unclosed", "at"] f fd) (T : Txt K w mg cs) (o_BadText : Oin P w K mg base "BadText" cs.BadText) (c_awaited : Cl P w K mg base CX0 1 "awaited" (spAwaited K)) : FnOk P w K mg base (L2.CX P w) 3 f fd ["unclosed", "at"] (spTakeLeft7 K cs.BadText) := by
  refine D.fn.okX sc_take_left (fun vs H Q E h => ?_) (fun cdv A outer s H vs Q E hr h => ?_)
  · obtain ⟨H0, U, i, c, r, rfl, _⟩ := h
    rfl
  · obtain ⟨H0, U, i, c, r, rfl, st, hc, nw, q⟩ := h
    have tk := takes_of (X := cxOf (L2.CX P w) P w K mg base ["unclosed", "at"] "take_left" (defScope s_take_left) f cdv A outer s H E) (E := E) rfl rfl rfl rfl
    refine ⟨_, (pss_cons (ps_if (PW.pt (pw_and (pt_truth (pv 0) (by intro _; rfl)) (pw_and1 (pt_cmpR op_notIn_seq pe_str (pe_cl c_awaited hr (by first | decide | omega) (by rfl) (pa_cons (pe_ix (ixL K) (pv 0) (pe_un un_neg pe_int) (fun _ _ => rfl)) pa_nil)) (by rfl))))) (pss_one (ps_raiseP o_BadText rfl tk hr (by first | decide | omega) (by rfl) (pa_cons (pv 1) pa_nil))) pss_nil) (pss_one (ps_expr (pe_bm PySem.F.plainAttrs_list PySem.F.slot_list_append PySem.F.type_list_append mt_append (pv 0) (pa_cons (pe_ifExp (PW.pt (pw_and (pt_truth (pv 0) (by intro _; rfl)) (pw_and1 (pt_cmpR (op_eqF K hr.units) (pe_ix (ixL K) (pv 0) (pe_un un_neg pe_int) (fun _ _ => rfl)) (pe_lst (pa_cons pe_str pa_nil)) (nomark _))))) (pe_lst (pa_cons (C8.pe_gc (by rfl) T.g_PARTS) pa_nil)) (pe_lst pa_nil)) pa_nil))))), ?_⟩
    obtain ⟨rs, hU, nd, hl, hL, sb, fr⟩ := st
    cases r with
    | whole b => exact absurd rfl (nw b)
    | start =>
      cases hL
      have e0 : H U = some (.lst []) := hU
      refine ⟨_, rfl, false, .inl ⟨_, .inl (.inl e0), rfl⟩, ?_⟩
      refine ⟨_, rfl, .inl ⟨rfl, _, .inl (.inl e0)⟩, _, rfl, false, .inl ⟨_, .inl (.inl e0), rfl⟩, (by show 0 ≤ sizeLine; decide), fun N nN => ?_⟩
      have s1 := same_new (o := .lst []) nN
      obtain ⟨g1, g2⟩ := Stk.open_ (rs := []) (s1 _ _ hU) nd hl .nil (upd_same : upd H N (.lst []) N = _) (ne_of_none hU nN).symm (fun m => nomatch m) .nil (fun d hd => nomatch hd) rfl (Nat.zero_le _) (sb.trans s1) fr (free_of sb nN)
      exact ⟨U, _, _, rfl, rfl, s1 _ _ e0, (by show 0 < sizeLine; decide), q _ g1 ((tu_mono s1).trans g2)⟩
    | op t us =>
      cases hL with
      | @cons r us2 _ rs _ hr ha ht lay hn hq =>
      have hUL : SqL K H U ((r :: rs).reverse.map V.ref) := .inl (.inl hU)
      refine ⟨_, rfl, true, .inl ⟨_, hUL, by simp⟩, ?_⟩
      refine ⟨_, rfl, _, rfl, U, _, -1, _, rfl, rfl, hUL, atI_revR, r, us2, topD t, awT t, rfl, hr, dps_same (tu_same H) _ ha, lay, aw_top t, fun p H1 s1 hp => ⟨p, _, rfl, .inr hp, rfl, aw_flat t, _, rfl, ?_⟩⟩
      have hU1 := s1 _ _ hU
      have room : ((r :: rs).reverse.map V.ref).length < sizeLine := by
        rw [List.length_map, List.length_reverse, sizeLine_eq]
        omega
      rcases left7 t us with ⟨e, hin⟩ | ⟨r', b, e, hin, heq, es⟩
      · rw [e] at q
        rw [hin]
        refine ⟨_, rfl, raised fun d H' hd hs => ?_⟩
        exact q d H' hd (s1.trans hs)
      · rw [e] at q
        have q : ∀ H', Stk K H0 H' (c + 1) U (stkD r') → Same (tu H) (tu H') → Q .non H' := q
        rw [es] at q
        rw [hin]
        refine ⟨_, rfl, .inl ⟨rfl, _, .inl (.inl hU1)⟩, _, rfl, true, .inl ⟨_, .inl (.inl hU1), by simp⟩, ?_⟩
        refine ⟨_, rfl, _, rfl, U, _, -1, _, rfl, rfl, .inl (.inl hU1), atI_revR, (by show 1 ≤ sizeLine; decide), fun t3 nt => ?_⟩
        have e2 := s1.trans (same_new (o := .lst [.str "ask"]) nt)
        refine ⟨.list (topD t), .list [.str "ask"], .lst (.inl (.inl (e2 _ _ hr))) (dps_same e2 _ (dps_same (tu_same H) _ ha)), .lst (.inl (.inl upd_same)) (.cons (.str _) .nil), lay, by decide +kernel, by decide, _, rfl, ?_⟩
        rw [heq]
        have hU2 := e2 _ _ hU
        generalize upd H1 t3 (.lst [.str "ask"]) = H2 at e2 hU2 ⊢
        have st2 := (StkL.cons hr ha ht lay hn hq).same (tu_mono e2) (fun x _ o ho => e2 x o ho) (Nat.le_refl c)
        cases b with
        | true =>
          refine ⟨(by show 1 ≤ sizeLine; decide), fun N nN => ?_⟩
          have s3 := same_new (o := .lst [.str "parts"]) nN
          have st3 := st2.same (tu_mono s3) (fun x _ o ho => s3 x o ho) (Nat.le_refl c)
          obtain ⟨g1, g2⟩ := Stk.open_ (s3 _ _ hU2) nd hl st3 (upd_same : upd H2 N (.lst [.str "parts"]) N = _) (ne_of_none hU2 nN).symm (st2.fresh nN) (.cons (.str _) .nil) (fun d hd => by rw [List.mem_singleton.mp hd]; exact .str _) (by decide +kernel) (by show 1 ≤ c + 1; omega) ((sb.trans e2).trans s3) fr (free_of (sb.trans e2) nN)
          exact ⟨U, _, _, rfl, rfl, s3 _ _ hU2, room, q _ g1 ((tu_mono (e2.trans s3)).trans g2)⟩
        | false =>
          refine ⟨(by show 0 ≤ sizeLine; decide), fun N nN => ?_⟩
          have s3 := same_new (o := .lst []) nN
          have st3 := st2.same (tu_mono s3) (fun x _ o ho => s3 x o ho) (Nat.le_refl c)
          obtain ⟨g1, g2⟩ := Stk.open_ (s3 _ _ hU2) nd hl st3 (upd_same : upd H2 N (.lst []) N = _) (ne_of_none hU2 nN).symm (st2.fresh nN) .nil (fun d hd => nomatch hd) rfl (Nat.zero_le _) ((sb.trans e2).trans s3) fr (free_of (sb.trans e2) nN)
          exact ⟨U, _, _, rfl, rfl, s3 _ _ hU2, room, q _ g1 ((tu_mono (e2.trans s3)).trans g2)⟩
theorem ok_takeright7 {f : Addr} {fd : FuncData} (D : Df K mg "take_right" s_take_right ["unclosed", "at"] f fd) (T : Txt K w mg cs) (o_BadText : Oin P w K mg base "BadText" cs.BadText) (c_awaited : Cl P w K mg base CX0 1 "awaited" (spAwaited K)) (c_told : Cl P w K mg base CX0 1 "told" (spTold K)) : FnOk P w K mg base (L2.CX P w) 3 f fd ["unclosed", "at"] (spTakeRight7 K cs.BadText) := by
  refine D.fn.okX sc_take_right (fun vs H Q E h => ?_) (fun cdv A outer s H vs Q E hr h => ?_)
  · obtain ⟨H0, U, i, c, r, rfl, _⟩ := h
    rfl
  · obtain ⟨H0, U, i, c, r, rfl, st, hc, q⟩ := h
    have tk := takes_of (X := cxOf (L2.CX P w) P w K mg base ["unclosed", "at", "found"] "take_right" (defScope s_take_right) f cdv A outer s H E) (E := E) rfl rfl rfl rfl
    refine ⟨_, (pss_cons (ps_if (PW.pt (pw_or (pt_not (pt_truth (pv 0) (by intro _; rfl))) (pw_or1 (pt_cmpR op_notIn_seq pe_str (pe_cl c_awaited hr (by first | decide | omega) (by rfl) (pa_cons (pe_ix (ixL K) (pv 0) (pe_un un_neg pe_int) (fun _ _ => rfl)) pa_nil)) (by rfl))))) (pss_one (ps_raiseP o_BadText rfl tk hr (by first | decide | omega) (by rfl) (pa_cons (pv 1) pa_nil))) pss_nil) (pss_cons (ps_set (i := 2) sc_take_right.nd rfl (.inl rfl) (pe_cl c_told hr (by first | decide | omega) (by rfl) (pa_cons (pe_bm0 PySem.F.plainAttrs_list PySem.F.slot_list_pop PySem.F.type_list_pop mt_pop (pv 0)) pa_nil))) (pss_cons (ps_if (pt_truth (pv 0) (by intro _; rfl)) (pss_one (ps_expr (pe_bm PySem.F.plainAttrs_list PySem.F.slot_list_append PySem.F.type_list_append mt_append (pe_ix (ixL K) (pv 0) (pe_un un_neg pe_int) (fun _ _ => rfl)) (pa_cons (pv 2) pa_nil)))) pss_nil) (pss_one (ps_ret (pv 2)))))), ?_⟩
    obtain ⟨rs, hU, nd, hl, hL, sb, fr⟩ := st
    cases r with
    | op t us =>
      cases hL with
      | @cons r us2 _ rs _ hr ha ht lay hn hq =>
      have hUL : SqL K H U ((r :: rs).reverse.map V.ref) := .inl (.inl hU)
      refine ⟨_, rfl, true, .inl ⟨_, hUL, by simp⟩, ?_⟩
      refine ⟨_, rfl, _, rfl, U, _, -1, _, rfl, rfl, hUL, atI_revR, r, us2, topD t, awT t, rfl, hr, dps_same (tu_same H) _ ha, lay, aw_top t, fun p H1 s1 hp => ⟨p, _, rfl, .inr hp, rfl, aw_flat t, _, rfl, ?_⟩⟩
      rcases right7 t us with ⟨e, hin⟩ | ⟨r', d, e, hin, td, goes⟩
      · rw [e] at q
        rw [hin]
        refine ⟨_, rfl, raised fun d H' hd hs => ?_⟩
        exact q d H' hd (s1.trans hs)
      · rw [e] at q
        have q : ∀ v H', Stk K H0 H' (c + 1) U (stkD r') → Same (tu H) (tu H') → v ≠ .non → (∀ b, r' = .whole b → Dp K (tu H') v (brD b)) → Q v H' := q
        rw [hin]
        have hU1 := s1 _ _ hU
        have hr1 := s1 _ _ hr
        obtain ⟨n1, n2⟩ := List.nodup_cons.mp nd
        obtain ⟨n3, n4⟩ := List.nodup_cons.mp n2
        obtain ⟨pl1, pl2⟩ := pop_last (rs := rs) (r := r)
        have e2 := (tu_mono s1).trans (tu_set (ys := rs.reverse.map V.ref) hU1)
        have tf := told_facts td ht lay
        have sb2 : Same H0 (upd H1 U (.lst (rs.reverse.map V.ref))) := same_set (sb.trans s1) (fr U List.mem_cons_self)
        have st2 : StkL K (upd H1 U (.lst (rs.reverse.map V.ref))) c rs (belD t us) := hq.same e2 (fun x hx o ho => by
          rw [upd_ne fun z => n1 (by rw [← z]; exact List.mem_cons_of_mem _ hx)]
          exact s1 _ _ ho) (Nat.le_refl c)
        have hr2 : upd H1 U (.lst (rs.reverse.map V.ref)) r = some (.lst us2) := by
          rw [upd_ne fun z => n1 (by rw [← z]; exact List.mem_cons_self)]
          exact hr1
        have hU2 : upd H1 U (.lst (rs.reverse.map V.ref)) U = some (.lst (rs.reverse.map V.ref)) := upd_same
        refine ⟨_, rfl, .inl ⟨rfl, _, .inl (.inl hU1)⟩, U, _, .ref r, rfl, rfl, hU1, pl1, ?_⟩
        rw [pl2]
        generalize upd H1 U (.lst (rs.reverse.map V.ref)) = H2 at e2 st2 hr2 hU2 sb2 ⊢
        refine ⟨r, us2, topD t, d, rfl, hr2, dps_same (tu_same H2) _ (dps_same e2 _ ha), by omega, td, fun v H3 s3 hv => ?_⟩
        have hv3 := dp_tu d tf.1 hv
        have hU3 := s3 _ _ hU2
        have e3 := e2.trans (tu_mono s3)
        have st3 := st2.same (tu_mono s3) (fun x _ o ho => s3 x o ho) (Nat.le_refl c)
        have vn : v ≠ .non := fun z => by
          obtain ⟨xs, ed⟩ := told_tup td
          rw [z, ed] at hv
          cases hv
        rcases goes with ⟨eb, er, b, erb, ed⟩ | ⟨under, st', eb, er, t', us', ert⟩
        · rw [eb] at st3
          rw [er] at q
          cases st3
          refine ⟨_, rfl, false, .inl ⟨_, .inl (.inl hU3), rfl⟩, ?_⟩
          refine ⟨_, rfl, q v H3 ⟨[], hU3, List.nodup_cons.mpr ⟨(fun m => nomatch m), List.nodup_nil⟩, Nat.zero_le _, .nil, sb2.trans s3, fun x hx => by rw [List.mem_singleton.mp hx]; exact fr U List.mem_cons_self⟩ e3 vn fun b' hb' => ?_⟩
          have : b = b' := Rs.whole.inj (erb.symm.trans hb')
          rw [← this, ← ed]
          exact hv3
        · rw [eb] at st3
          rw [er] at q
          cases rs with
          | nil => cases st3
          | cons r2 rs2 =>
            obtain ⟨us3, hr3, hn3⟩ : ∃ us2, H3 r2 = some (.lst us2) ∧ us2.length ≤ c := by
              cases st3 with
              | cons h _ _ _ n _ => exact ⟨_, h, n⟩
            have nd2 : (U :: r2 :: rs2).Nodup := List.nodup_cons.mpr ⟨fun m => n1 (List.mem_cons_of_mem _ m), n4⟩
            obtain ⟨g1, g2⟩ := Stk.push hU3 nd2 (by rw [List.length_cons] at hl; omega) st3 hr3 hv3 tf.1 tf.2 (sb2.trans s3) (fun x hx => fr x ((List.mem_cons.mp hx).elim (fun z => z ▸ List.mem_cons_self) fun z => List.mem_cons_of_mem _ (List.mem_cons_of_mem _ z)))
            refine ⟨_, rfl, true, .inl ⟨_, .inl (.inl hU3), by simp⟩, ?_⟩
            refine ⟨_, rfl, _, rfl, U, _, -1, _, rfl, rfl, .inl (.inl hU3), atI_revR, .inl ⟨rfl, _, .inl (.inl hr3)⟩, _, rfl, r2, us3, v, rfl, rfl, hr3, by rw [sizeLine_eq]; omega, _, rfl, q v _ g1 (e3.trans g2) vn fun b' hb' => ?_⟩
            rw [ert] at hb'
            cases hb'
    | _ =>
      cases hL
      refine ⟨_, rfl, false, .inl ⟨_, .inl (.inl hU), rfl⟩, ?_⟩
      exact ⟨_, rfl, raised fun d H' hd hs => q d H' hd hs⟩

end
theorem few_mid {t a w b : List Nat} (h : Few t) (e : t = a ++ (w ++ b)) : Few w := fun x y z ew dg => h (a ++ x) y (z ++ b) (by rw [e, ew]; simp) dg
theorem BadAt.same {C : Addr} {H H' : Hp} {E : XK} {n : Nat} (h : BadAt C H E n) (s : Same H H') : BadAt C H' E n := fun d G hd hs => h d G hd (s.trans hs)
def spReader7 (K : PySem.W.Frag) (C : Addr) : Sp := fun vs H Q E => ∃ t : List Nat, vs = [.str (SX.S t)] ∧ t.length ≤ 800000 ∧ Few t ∧ match lrun (.bd .start) t 0 with
  | .bad n => BadAt C H E n
  | .good b => ∀ v H', Same H H' → Dp K H' v (brD b) → Q v H'
def FoundR (K : PySem.W.Frag) (H : Hp) (v : V) : Rs → Prop
  | .start => v = .non
  | .whole b => Dp K (tu H) v (brD b)
  | .op _ _ => True
theorem found_whole {K : PySem.W.Frag} {H : Hp} {v : V} {b : Br} (h : FoundR K H v (.whole b)) : v ≠ .non := by
  intro z
  have h : Dp K (tu H) v (brD b) := h
  rw [z] at h
  cases b <;> cases h
theorem found_up {K : PySem.W.Frag} {H H' : Hp} {v : V} {r : Rs} (h : FoundR K H v r) (e : Same (tu H) (tu H')) : FoundR K H' v r := by
  cases r with
  | start => exact h
  | whole b => exact dp_same e _ h
  | op t us => trivial
def RdI7 (K : PySem.W.Frag) (H : Hp) (TX : List Nat) (U : Addr) (m : Nat) (σ : L2.St) (H' : Hp) : Prop := ∃ (pre rest : List Nat) (r : Rs) (c : Nat) (fv : V) (y4 y5 y6 : Option V), m = rest.length ∧
  σ = [some (.str (SX.S TX)), some (.ref U), some fv, some (.int (pre.length : Int)), y4, y5, y6] ∧ TX = pre ++ rest ∧ lrun (.bd r) rest pre.length = lrun (.bd .start) TX 0 ∧ Stk K H H' c U (stkD r) ∧ c ≤ pre.length ∧ FoundR K H' fv r
/-- the longest beginning without blank and parentheses -/
theorem split_word : ∀ l : List Nat, ∃ w b, l = w ++ b ∧ (∀ c ∈ w, Wch c) ∧ Stop b
  | [] => ⟨[], [], rfl, (fun _ h => nomatch h), fun _ _ h => nomatch h⟩
  | c :: l => by
    by_cases h : c = 32 ∨ c = 40 ∨ c = 41
    · exact ⟨[], c :: l, rfl, (fun _ h => nomatch h), fun x y e => (List.cons.inj e).1 ▸ h⟩
    · obtain ⟨w, b, e, hw, hb⟩ := split_word l
      refine ⟨c :: w, b, by rw [e]; rfl, fun x hx => ?_, hb⟩
      rcases List.mem_cons.mp hx with z | z
      · rw [z]
        unfold Wch
        omega
      · exact hw x z

section
variable {P : Program} {w : World} {K : PySem.W.Frag} {mg : Str → Option Value} {base : Heap} {cs : Cs}
theorem ok_breakerof7 {f : Addr} {fd : FuncData} (D : Df K mg "breaker_of" s_breaker_of ["text"] f fd) (T : Txt K w mg cs) (o_BadText : Oin P w K mg base "BadText" cs.BadText) (c_take_left : Cl P w K mg base (L2.CX P w) 3 "take_left" (spTakeLeft7 K cs.BadText)) (c_take_right : Cl P w K mg base (L2.CX P w) 3 "take_right" (spTakeRight7 K cs.BadText)) (c_take_word : Cl P w K mg base (L2.CX P w) 3 "take_word" (spTakeWord7 K cs.BadText))
    (c_word_at : Cl P w K mg base CX0 1 "word_at" spWordAt) : FnOk P w K mg base (L2.CX P w) 4 f fd ["text"] (spReader7 K cs.BadText) := by
  refine D.fn.okX sc_breaker_of (fun vs H Q E h => ?_) (fun cdv A outer s H vs Q E hr h => ?_)
  · obtain ⟨t, rfl, _⟩ := h
    rfl
  · obtain ⟨TX, rfl, hl, few, q⟩ := h
    have tk := takes_of (X := cxOf (L2.CX P w) P w K mg base ["text", "unclosed", "found", "at", "sign", "width", "word"] "breaker_of" (defScope s_breaker_of) f cdv A outer s H E) (E := E) rfl rfl rfl rfl
    refine ⟨_, (pss_cons (ps_set (i := 1) sc_breaker_of.nd rfl (.inl rfl) (pe_lst pa_nil)) (pss_cons (ps_set (i := 2) sc_breaker_of.nd rfl (.inl rfl) pe_non) (pss_cons (ps_set (i := 3) sc_breaker_of.nd rfl (.inl rfl) pe_int) (pss_cons (ps_while (passes_of rfl) (pt_cmpR op_lt (pv 3) (pe_callB call_len_str (by rfl) T.n_len (by decide +kernel) (pa_cons (pv 0) pa_nil)) (nomark _)) (pss_cons (ps_set (i := 4) sc_breaker_of.nd rfl (.inl rfl) (pe_ix ix_str (pv 0) (pv 3) (fun _ _ => rfl))) (pss_cons (ps_set (i := 5) sc_breaker_of.nd rfl (.inl rfl) pe_int) (pss_cons (ps_if (PW.pt (pw_and (pt_cmpR op_ne (pv 4) pe_str (nomark _)) (pw_and (pt_cmpR op_notN (pv 2) pe_non (nomark _)) (pw_and1 (pt_not (pt_truth (pv 1) (by intro _; rfl))))))) (pss_one (ps_raiseP o_BadText rfl tk hr (by first | decide | omega) (by rfl) (pa_cons (pv 3) pa_nil))) pss_nil) (pss_cons (ps_if (pt_cmpR op_eq (pv 4) pe_str (nomark _)) (pss_one (ps_expr (pe_clX c_take_left hr (by first | decide | omega) (by rfl) tk (pa_cons (pv 1) (pa_cons (pv 3) pa_nil))))) (pss_one (ps_if (pt_cmpR op_eq (pv 4) pe_str (nomark _)) (pss_one (ps_set (i := 2) sc_breaker_of.nd rfl (.inl rfl) (pe_clX c_take_right hr (by first | decide | omega) (by rfl) tk (pa_cons (pv 1) (pa_cons (pv 3) pa_nil))))) (pss_one (ps_if (pt_cmpR op_ne (pv 4) pe_str (nomark _)) (pss_cons (ps_set (i := 6) sc_breaker_of.nd rfl (.inl rfl) (pe_cl c_word_at hr (by first | decide | omega) (by rfl) (pa_cons (pv 0) (pa_cons (pv 3) pa_nil)))) (pss_cons (ps_expr (pe_clX c_take_word hr (by first | decide | omega) (by rfl) tk (pa_cons (pv 1) (pa_cons (pv 6) (pa_cons (pv 3) pa_nil))))) (pss_one (ps_set (i := 5) sc_breaker_of.nd rfl (.inl rfl) (pe_callB call_len_str (by rfl) T.n_len (by decide +kernel) (pa_cons (pv 6) pa_nil)))))) pss_nil))))) (pss_one (ps_aug (i := 3) sc_breaker_of.nd rfl (.inl rfl) (pv 5) ip_add))))))) (pss_cons (ps_if (PW.pt (pw_or (pt_truth (pv 1) (by intro _; rfl)) (pw_or1 (pt_cmpR op_isN (pv 2) pe_non (nomark _))))) (pss_one (ps_raiseP o_BadText rfl tk hr (by first | decide | omega) (by rfl) (pa_cons (pe_callB call_len_str (by rfl) T.n_len (by decide +kernel) (pa_cons (pv 0) pa_nil)) pa_nil))) pss_nil) (pss_one (ps_ret (pv 2)))))))), ?_⟩
    refine ⟨(by show 0 ≤ sizeLine; decide), fun U nU => ?_⟩
    refine ⟨fun m σ H' => RdI7 K H TX U m σ H', ⟨_, [], TX, .start, 0, .non, none, none, none, rfl, rfl, rfl, rfl, ⟨[], upd_same, List.nodup_cons.mpr ⟨(fun m => nomatch m), List.nodup_nil⟩, Nat.le_refl 0, .nil, same_new nU, fun x hx => by rw [List.mem_singleton.mp hx]; exact nU⟩, Nat.le_refl 0, rfl⟩, ?_⟩
    rintro m σ H' ⟨pre, rest, r, c, fv, y4, y5, y6, rfl, rfl, eT, run, stk, hc, hf⟩
    have lenT : TX.length = pre.length + rest.length := by rw [eT, List.length_append]
    have sb : Same H H' := stk.choose_spec.2.2.2.2.1
    rw [← run] at q
    refine ⟨_, rfl, _, rfl, _, rfl, S_small (by omega), _, _, rfl, rfl, _, rfl, ?_⟩
    rw [SX.S_len]
    cases rest with
    | nil =>
      rw [decide_eq_false (show ¬ ((pre.length : Nat) : Int) < ((TX.length : Nat) : Int) by rw [lenT]; show ¬ (pre.length : Int) < ((pre.length + 0 : Nat) : Int); omega)]
      have eL : TX.length = pre.length := by rw [lenT]; rfl
      obtain ⟨rs, hU, _, _, hL, _⟩ := stk
      have bad : ∀ {ps : List V}, BadAt cs.BadText H E pre.length → ∀ d G, G d = some (.xd [("place", .int ((SX.S TX).length : Int))]) → Same H' G → E (.ref cs.BadText) (some d) G := fun {ps} q d G hd hs => by
        rw [SX.S_len, eL] at hd
        exact q d G hd (sb.trans hs)
      cases r with
      | start =>
        cases hL
        have q : BadAt cs.BadText H E pre.length := q
        refine ⟨_, rfl, false, .inl ⟨_, .inl (.inl hU), rfl⟩, ?_⟩
        refine ⟨_, rfl, rfl, _, rfl, ?_⟩
        rw [decide_eq_true (show fv = .non from hf)]
        exact ⟨_, rfl, _, rfl, S_small (by omega), raised (bad (ps := []) q)⟩
      | whole b =>
        cases hL
        have q : ∀ v H', Same H H' → Dp K H' v (brD b) → Q v H' := q
        refine ⟨_, rfl, false, .inl ⟨_, .inl (.inl hU), rfl⟩, ?_⟩
        refine ⟨_, rfl, rfl, _, rfl, ?_⟩
        rw [decide_eq_false (found_whole hf)]
        exact ⟨_, rfl, q _ _ sb (dp_same (tu_same H') _ hf)⟩
      | op t us =>
        cases hL with
        | @cons r us2 _ rs _ hr ha ht lay hn hq =>
        have q : BadAt cs.BadText H E pre.length := q
        refine ⟨_, rfl, true, .inl ⟨_, .inl (.inl hU), by simp⟩, ?_⟩
        exact ⟨_, rfl, _, rfl, S_small (by omega), raised (bad (ps := []) q)⟩
    | cons c0 l => 
      rw [decide_eq_true (show ((pre.length : Nat) : Int) < ((TX.length : Nat) : Int) by rw [lenT, List.length_cons]; omega)]
      refine ⟨fun σ' H'' => ∃ m', m' < (c0 :: l).length ∧ RdI7 K H TX U m' σ' H'', fun _ _ h => h, ?_⟩
      have sgn : atI (SX.S TX).cps.toList (pre.length : Int) = some c0 := at_S (by
        rw [eT, List.getElem?_append_right (Nat.le_refl _), Nat.sub_self]
        rfl)
      refine ⟨_, rfl, _, rfl, _, _, c0, rfl, rfl, S_small (by omega), sgn, ?_⟩
      by_cases h32 : c0 = 32
      · -- a blank
        subst h32
        refine ⟨_, rfl, rfl, _, rfl, ?_⟩
        rw [sign_is 32 _ 32 bl_S, decide_eq_true rfl]
        refine ⟨_, rfl, rfl, _, rfl, ?_⟩
        rw [sign_is 32 _ 40 par_S, decide_eq_false (by decide)]
        refine ⟨_, rfl, rfl, _, rfl, ?_⟩
        rw [sign_is 32 _ 41 cl_S, decide_eq_false (by decide)]
        refine ⟨_, rfl, rfl, _, rfl, ?_⟩
        rw [sign_is 32 _ 32 bl_S, decide_eq_true rfl]
        refine ⟨_, rfl, _, rfl, _, _, rfl, rfl, _, ?_, pre ++ [32], l, r, c, fv, some (.str ⟨#[32]⟩), some (.int 1), y6, rfl, ?_, ?_, ?_, stk, ?_, hf⟩
        · rw [List.length_cons]
          omega
        · rw [List.length_append]
          rfl
        · rw [eT, List.append_assoc]
          rfl
        · rw [← run, blank_run, List.length_append]
          rfl
        · rw [List.length_append]
          omega
      refine ⟨_, rfl, rfl, _, rfl, ?_⟩
      rw [sign_is c0 _ 32 bl_S, decide_eq_false h32]
      refine ⟨_, rfl, rfl, _, rfl, ?_⟩
      obtain ⟨rs, hU, _, _, hL, _⟩ := id stk
      by_cases hw : ∃ b, r = .whole b
      · obtain ⟨b, rfl⟩ := hw
        cases hL
        rw [decide_eq_false (found_whole hf)]
        refine ⟨_, rfl, false, .inl ⟨_, .inl (.inl hU), rfl⟩, ?_⟩
        have e : lrun (.bd (.whole b)) (c0 :: l) pre.length = .bad pre.length := by
          by_cases h40 : c0 = 40
          · rw [h40, open_run]
            rfl
          · by_cases h41 : c0 = 41
            · rw [h41, close_run]
              rfl
            · exact noword_run rfl _ ⟨h32, h40, h41⟩
        rw [e] at q
        exact ⟨_, rfl, raised fun d G hd hs => q d G hd (sb.trans hs)⟩
      have nw : ∀ b, r ≠ .whole b := fun b z => hw ⟨b, z⟩
      have go : ∀ {Z : Prop}, (fv = .non → Z) → (fv ≠ .non → rs ≠ [] → Z) → Z := fun {Z} a b => by
        by_cases z : fv = .non
        · exact a z
        · refine b z fun e => ?_
          subst e
          cases r with
          | start => exact z hf
          | whole b => exact nw b rfl
          | op t us => cases hL
      have next : ∀ (d rest' : List Nat) (r' : Rs) (c' : Nat) (fv' : V) (y5' y6' : Option V) (H2 : Hp), c0 :: l = d ++ rest' → 1 ≤ d.length → lrun (.bd r) (c0 :: l) pre.length = lrun (.bd r') rest' (pre.length + d.length) → Stk K H H2 c' U (stkD r') → c' ≤ c + 1 → FoundR K H2 fv' r' →
          ∃ m', m' < (c0 :: l).length ∧ RdI7 K H TX U m' [some (.str (SX.S TX)), some (.ref U), some fv', some (.int ((pre.length : Int) + (d.length : Int))), some (.str ⟨#[c0]⟩), y5', y6'] H2 := fun d rest' r' c' fv' y5' y6' H2 e1 hd e2 stk' hc' hf' => by
        have ll := congrArg List.length e1
        rw [List.length_append] at ll
        refine ⟨rest'.length, by omega, pre ++ d, rest', r', c', fv', some (.str ⟨#[c0]⟩), y5', y6', rfl, ?_, ?_, ?_, stk', ?_, hf'⟩
        · rw [List.length_append]
          rfl
        · rw [eT, e1, List.append_assoc]
        · rw [← run, e2, List.length_append]
        · rw [List.length_append]
          omega
      refine go (fun z => ?_) (fun z hrs => ?_)
      rw [decide_eq_true z]
      rotate_left 1
      rw [decide_eq_false z]
      refine ⟨_, rfl, true, .inl ⟨_, .inl (.inl hU), by simpa using hrs⟩, ?_⟩
      rotate_left 1
      all_goals
        by_cases h40 : c0 = 40
        · subst h40
          refine ⟨_, rfl, rfl, _, rfl, ?_⟩
          rw [sign_is 40 _ 40 par_S, decide_eq_true rfl]
          refine ⟨_, rfl, _, rfl, H, U, pre.length, c, r, rfl, stk, by omega, nw, ?_⟩
          rw [open_run] at q next
          cases eo : opnR r with
          | none =>
            rw [eo] at q
            exact BadAt.same q sb
          | some r' =>
            rw [eo] at next
            intro H2 stk2 e2
            exact ⟨_, rfl, _, rfl, _, _, rfl, rfl, next [40] l r' (c + 1) fv _ y6 H2 rfl (Nat.le_refl 1) rfl stk2 (Nat.le_refl _) (by
              cases r with
              | whole b => cases eo
              | start =>
                cases eo
                trivial
              | op t us =>
                rcases left7 t us with ⟨z, _⟩ | _
                · rw [z] at eo
                  cases eo
                · cases t <;> cases eo <;> trivial)⟩
        refine ⟨_, rfl, rfl, _, rfl, ?_⟩
        rw [sign_is c0 _ 40 par_S, decide_eq_false h40]
        by_cases h41 : c0 = 41
        · subst h41
          refine ⟨_, rfl, rfl, _, rfl, ?_⟩
          rw [sign_is 41 _ 41 cl_S, decide_eq_true rfl]
          refine ⟨_, rfl, _, rfl, H, U, pre.length, c, r, rfl, stk, by omega, ?_⟩
          rw [close_run] at q next
          cases eo : clsR r with
          | none =>
            rw [eo] at q
            exact BadAt.same q sb
          | some r' =>
            rw [eo] at next
            intro fv2 H2 stk2 e2 nn hwb
            refine ⟨_, rfl, _, rfl, _, _, rfl, rfl, next [41] l r' (c + 1) fv2 _ y6 H2 rfl (Nat.le_refl 1) rfl stk2 (Nat.le_refl _) ?_⟩
            cases r' with
            | whole b => exact hwb b rfl
            | op t us => trivial
            | start =>
              cases r with
              | op t us =>
                rcases right7 t us with ⟨z, _⟩ | ⟨r2, d, z, _, _, gs⟩
                · rw [z] at eo
                  cases eo
                · rw [z] at eo
                  cases eo
                  rcases gs with ⟨_, _, b, e, _⟩ | ⟨_, _, _, _, _, _, e⟩ <;> cases e
              | _ => cases eo
        refine ⟨_, rfl, rfl, _, rfl, ?_⟩
        rw [sign_is c0 _ 41 cl_S, decide_eq_false h41]
        refine ⟨_, rfl, rfl, _, rfl, ?_⟩
        rw [sign_is c0 _ 32 bl_S, decide_eq_false h32]
        obtain ⟨wd, rest, ew, hwd, hst⟩ := split_word (c0 :: l)
        have wne : wd ≠ [] := fun e => by
          subst e
          have := hst c0 l ew.symm
          omega
        have eT2 : TX = pre ++ (wd ++ rest) := by rw [eT, ew]
        have ll := congrArg List.length eT2
        rw [List.length_append, List.length_append] at ll
        have wf := few_mid few eT2
        have wpos := List.length_pos_iff.mpr wne
        refine ⟨_, rfl, _, rfl, pre, wd, rest, by rw [List.append_assoc, ← eT2]; rfl, by rw [List.append_assoc, ← eT2]; omega, hwd, hst, ?_⟩
        refine ⟨_, rfl, _, rfl, _, rfl, H, U, wd, pre.length, c, r, rfl, stk, by omega, wne, by omega, wf, ?_⟩
        have out : lrun (.bd r) (c0 :: l) pre.length = match wordO r wd with
          | .bad n => .bad (pre.length + n)
          | .ok r' => lrun (.bd r') rest (pre.length + wd.length) := by
          unfold wordO
          cases hk : kdR r with
          | none => exact noword_run hk _ ⟨h32, h40, h41⟩
          | some k =>
            rw [ew, word_run hk hst wne _ hwd]
            by_cases c1 : runK k [] wd < wd.length
            · simp only [if_pos c1]
            · by_cases c2 : wholeK k wd = true
              · simp only [if_neg c1, if_pos c2]
              · simp only [if_neg c1, if_neg c2]
        rw [out] at q
        cases eo : wordO r wd with
        | bad n =>
          rw [eo] at q
          exact BadAt.same q sb
        | ok r' =>
          rw [eo] at out
          intro H2 stk2 e2
          refine ⟨_, rfl, _, rfl, S_small (by omega), ?_⟩
          refine ⟨_, rfl, _, rfl, _, _, rfl, rfl, ?_⟩
          rw [SX.S_len]
          refine next wd rest r' (c + 1) fv _ _ H2 ew wpos out stk2 (Nat.le_refl _) ?_
          cases r with
          | op t us =>
            have : ∃ t', r' = .op t' us := by
              unfold wordO at eo
              split at eo
              · cases eo
              · split at eo
                · cases eo
                · split at eo
                  · cases eo
                    exact ⟨_, rfl⟩
                  · cases eo
            obtain ⟨t', rfl⟩ := this
            trivial
          | _ => cases eo
theorem ok_read7 {f : Addr} {fd : FuncData} (D : Df K mg "read_breaker" s_read_breaker ["text"] f fd) (T : Txt K w mg cs) (c_breaker_of : Cl P w K mg base (L2.CX P w) 4 "breaker_of" (spReader7 K cs.BadText)) : FnOk P w K mg base (L2.CX P w) 5 f fd ["text"] (spReader7 K cs.BadText) := by
  refine D.fn.okX sc_read_breaker (fun vs H Q E h => ?_) (fun cdv A outer s H vs Q E hr h => ?_)
  · obtain ⟨t, rfl, _⟩ := h
    rfl
  · obtain ⟨t, rfl, h⟩ := h
    have tk := takes_of (X := cxOf (L2.CX P w) P w K mg base ["text"] "read_breaker" (defScope s_read_breaker) f cdv A outer s H E) (E := E) rfl rfl rfl rfl
    refine ⟨_, (pss_one (ps_ret (pe_clX c_breaker_of hr (by first | decide | omega) (by rfl) tk (pa_cons (pv 0) pa_nil)))), ?_⟩
    exact ⟨_, rfl, t, rfl, h⟩

end
/-! ### the law's stack on the heap -/
inductive LEn where
  | e (k : Str) (ds : List PyData)
  | l (ds : List PyData)
inductive LEs (K : PySem.W.Frag) (H : Hp) (c : Nat) : List (Addr × List Addr) → List LEn → Prop where
  | nil : LEs K H c [] []
  | cons {e x : Addr} {k : Str} {us : List V} {ds : List PyData} {ps : List (Addr × List Addr)} {es : List LEn} (he : H e = some (.lst [.str k, .ref x])) (hx : H x = some (.lst us)) (a : DpAll K (tu H) us ds) (t : ∀ d ∈ ds, Tp d) (n : us.length ≤ c) (q : LEs K H c ps es) : LEs K H c ((e, [x]) :: ps) (.e k ds :: es)
  | opn {e x p : Addr} {us : List V} {ds : List PyData} {ps : List (Addr × List Addr)} {es : List LEn} (he : H e = some (.lst [.str "ask", .ref x])) (hx : H x = some (.lst [.ref p])) (hp : H p = some (.lst us)) (a : DpAll K (tu H) us ds) (t : ∀ d ∈ ds, Tp d) (n : us.length ≤ c) (q : LEs K H c ps es) : LEs K H c ((e, [x, p]) :: ps) (.l ds :: es)
def flat (ps : List (Addr × List Addr)) : List Addr := ps.flatMap fun p => p.1 :: p.2
theorem flat1 {e x y : Addr} {ps : List (Addr × List Addr)} : y ∈ flat ((e, [x]) :: ps) ↔ y = e ∨ y = x ∨ y ∈ flat ps := by
  show y ∈ e :: x :: flat ps ↔ _
  rw [List.mem_cons, List.mem_cons]
theorem flat2 {e x p y : Addr} {ps : List (Addr × List Addr)} : y ∈ flat ((e, [x, p]) :: ps) ↔ y = e ∨ y = x ∨ y = p ∨ y ∈ flat ps := by
  show y ∈ e :: x :: p :: flat ps ↔ _
  rw [List.mem_cons, List.mem_cons, List.mem_cons]
theorem LEs.same {K : PySem.W.Frag} {H H' : Hp} {c c' : Nat} {ps : List (Addr × List Addr)} {es : List LEn} (h : LEs K H c ps es) (e : Same (tu H) (tu H')) (k : ∀ x ∈ flat ps, ∀ o, H x = some o → H' x = some o) (hc : c ≤ c') : LEs K H' c' ps es := by
  induction h with
  | nil => exact .nil
  | cons he hx a t n q ih => exact .cons (k _ (flat1.mpr (.inl rfl)) _ he) (k _ (flat1.mpr (.inr (.inl rfl))) _ hx) (dps_same e _ a) t (Nat.le_trans n hc) (ih fun y hy => k y (flat1.mpr (.inr (.inr hy))))
  | opn he hx hp a t n q ih => exact .opn (k _ (flat2.mpr (.inl rfl)) _ he) (k _ (flat2.mpr (.inr (.inl rfl))) _ hx) (k _ (flat2.mpr (.inr (.inr (.inl rfl)))) _ hp) (dps_same e _ a) t (Nat.le_trans n hc) (ih fun y hy => k y (flat2.mpr (.inr (.inr (.inr hy)))))
theorem LEs.at {K : PySem.W.Frag} {H : Hp} {c : Nat} {ps : List (Addr × List Addr)} {es : List LEn} (h : LEs K H c ps es) : ∀ x ∈ flat ps, ∃ us, H x = some (.lst us) := by
  induction h with
  | nil => exact fun x hx => nomatch hx
  | cons he hx a t n q ih =>
    intro y hy
    rcases flat1.mp hy with z | z | z
    · exact ⟨_, z ▸ he⟩
    · exact ⟨_, z ▸ hx⟩
    · exact ih y z
  | opn he hx hp a t n q ih =>
    intro y hy
    rcases flat2.mp hy with z | z | z | z
    · exact ⟨_, z ▸ he⟩
    · exact ⟨_, z ▸ hx⟩
    · exact ⟨_, z ▸ hp⟩
    · exact ih y z
def LSt (K : PySem.W.Frag) (H0 H : Hp) (c : Nat) (ST : Addr) (es : List LEn) (ps : List (Addr × List Addr)) : Prop :=
  H ST = some (.lst ((ps.map Prod.fst).reverse.map V.ref)) ∧ (ST :: flat ps).Nodup ∧ ps.length ≤ c ∧ LEs K H c ps es ∧ Same H0 H ∧ ∀ x ∈ ST :: flat ps, H0 x = none
section
variable {K : PySem.W.Frag} {H0 H H' : Hp} {c c' : Nat} {ST e x p : Addr} {es : List LEn} {ps : List (Addr × List Addr)} {k : Str} {us : List V} {ds : List PyData} {v : V} {d : PyData}
theorem LSt.same (h : LSt K H0 H c ST es ps) (s : Same H H') (hc : c ≤ c') : LSt K H0 H' c' ST es ps := by
  obtain ⟨h1, h2, h3, h4, h5, h6⟩ := h
  exact ⟨s _ _ h1, h2, Nat.le_trans h3 hc, h4.same (tu_mono s) (fun y _ o ho => s y o ho) hc, h5.trans s, h6⟩
theorem LSt.ne (h : LSt K H0 H c ST es ps) {y : Addr} (n : H y = none) : y ∉ ST :: flat ps := fun m => by
  obtain ⟨h1, _, _, h4, _, _⟩ := h
  rcases List.mem_cons.mp m with z | z
  · rw [z, h1] at n
    cases n
  · obtain ⟨_, e⟩ := h4.at y z
    rw [e] at n
    cases n
/-- a list that is not of the stack's is written -/
theorem LSt.other (h : LSt K H0 H c ST es ps) {y : Addr} {xs ys : List V} (hy : H y = some (.lst xs)) (ny : y ∉ ST :: flat ps) (fy : H0 y = none) (hc : c ≤ c') : LSt K H0 (upd H y (.lst ys)) c' ST es ps := by
  obtain ⟨h1, h2, h3, h4, h5, h6⟩ := h
  refine ⟨?_, h2, Nat.le_trans h3 hc, h4.same (tu_set hy) (fun z hz o ho => ?_) hc, same_set h5 fy, h6⟩
  · rw [upd_ne (show ST ≠ y from fun z => ny (by rw [← z]; exact List.mem_cons_self))]
    exact h1
  · rw [upd_ne (show z ≠ y from fun w => ny (by rw [← w]; exact List.mem_cons_of_mem _ hz))]
    exact ho
theorem tp_snoc (t : ∀ d ∈ ds, Tp d) (td : Tp d) : ∀ y ∈ ds ++ [d], Tp y := fun y hy => by
  rcases List.mem_append.mp hy with z | z
  · exact t y z
  · rw [List.mem_singleton.mp z]
    exact td
/-- the top entry -/
theorem LSt.topE (h : LSt K H0 H c ST (.e k ds :: es) ps) : ∃ e x us ps', ps = (e, [x]) :: ps' ∧ H e = some (.lst [.str k, .ref x]) ∧ H x = some (.lst us) ∧ DpAll K (tu H) us ds ∧ us.length ≤ c := by
  obtain ⟨h1, h2, h3, h4, h5, h6⟩ := h
  cases h4 with
  | cons he hx a t n q => exact ⟨_, _, _, _, rfl, he, hx, a, n⟩
theorem LSt.topL (h : LSt K H0 H c ST (.l ds :: es) ps) : ∃ e x p us ps', ps = (e, [x, p]) :: ps' ∧ H e = some (.lst [.str "ask", .ref x]) ∧ H x = some (.lst [.ref p]) ∧ H p = some (.lst us) ∧ DpAll K (tu H) us ds ∧ us.length ≤ c := by
  obtain ⟨h1, h2, h3, h4, h5, h6⟩ := h
  cases h4 with
  | opn he hx hp a t n q => exact ⟨_, _, _, _, _, rfl, he, hx, hp, a, n⟩
theorem LSt.put (h : LSt K H0 H c ST (.e k ds :: es) ((e, [x]) :: ps)) (hx : H x = some (.lst us)) (hv : Dp K (tu H) v d) (td : Tp d) :
    LSt K H0 (upd H x (.lst (us ++ [v]))) (c + 1) ST (.e k (ds ++ [d]) :: es) ((e, [x]) :: ps) ∧ Same (tu H) (tu (upd H x (.lst (us ++ [v])))) := by
  obtain ⟨h1, h2, h3, h4, h5, h6⟩ := h
  have s := tu_set (ys := us ++ [v]) hx
  have nd : (ST :: e :: x :: flat ps).Nodup := h2
  have n1 : ST ≠ x := fun z => (List.nodup_cons.mp nd).1 (by rw [z]; simp)
  have n2 : e ≠ x := fun z => (List.nodup_cons.mp (List.nodup_cons.mp nd).2).1 (by rw [z]; simp)
  have n3 : x ∉ flat ps := (List.nodup_cons.mp (List.nodup_cons.mp (List.nodup_cons.mp nd).2).2).1
  refine ⟨⟨by rw [upd_ne n1]; exact h1, h2, Nat.le_succ_of_le h3, ?_, same_set h5 (h6 x (List.mem_cons_of_mem _ (flat1.mpr (.inr (.inl rfl))))), h6⟩, s⟩
  cases h4 with
  | cons he hx2 a t n q =>
    rw [hx] at hx2
    cases hx2
    refine .cons (by rw [upd_ne n2]; exact he) upd_same (dpAll_snoc (dps_same s _ a) (dp_same s _ hv)) (tp_snoc t td) (by rw [List.length_append]; exact Nat.succ_le_succ n) (q.same s (fun y hy o ho => ?_) (Nat.le_succ c))
    rw [upd_ne fun z => n3 (by rw [← z]; exact hy)]
    exact ho
theorem LSt.putL (h : LSt K H0 H c ST (.l ds :: es) ((e, [x, p]) :: ps)) (hp : H p = some (.lst us)) (hv : Dp K (tu H) v d) (td : Tp d) :
    LSt K H0 (upd H p (.lst (us ++ [v]))) (c + 1) ST (.l (ds ++ [d]) :: es) ((e, [x, p]) :: ps) ∧ Same (tu H) (tu (upd H p (.lst (us ++ [v])))) := by
  obtain ⟨h1, h2, h3, h4, h5, h6⟩ := h
  have s := tu_set (ys := us ++ [v]) hp
  have nd : (ST :: e :: x :: p :: flat ps).Nodup := h2
  have m1 := List.nodup_cons.mp nd
  have m2 := List.nodup_cons.mp m1.2
  have m3 := List.nodup_cons.mp m2.2
  have m4 := List.nodup_cons.mp m3.2
  have n1 : ST ≠ p := fun z => m1.1 (by rw [z]; simp)
  have n2 : e ≠ p := fun z => m2.1 (by rw [z]; simp)
  have n3 : x ≠ p := fun z => m3.1 (by rw [z]; simp)
  refine ⟨⟨by rw [upd_ne n1]; exact h1, h2, Nat.le_succ_of_le h3, ?_, same_set h5 (h6 p (List.mem_cons_of_mem _ (flat2.mpr (.inr (.inr (.inl rfl)))))), h6⟩, s⟩
  cases h4 with
  | opn he hx hp2 a t n q =>
    rw [hp] at hp2
    cases hp2
    refine .opn (by rw [upd_ne n2]; exact he) (by rw [upd_ne n3]; exact hx) upd_same (dpAll_snoc (dps_same s _ a) (dp_same s _ hv)) (tp_snoc t td) (by rw [List.length_append]; exact Nat.succ_le_succ n) (q.same s (fun y hy o ho => ?_) (Nat.le_succ c))
    rw [upd_ne fun z => m4.1 (by rw [← z]; exact hy)]
    exact ho
/-- a new entry -/
theorem LSt.new (h : LSt K H0 H c ST es ps) (he : H e = some (.lst [.str k, .ref x])) (hx : H x = some (.lst [])) (fe : H0 e = none) (fx : H0 x = none) (ne : e ∉ ST :: flat ps) (nx : x ∉ ST :: flat ps) (ex : e ≠ x) :
    LSt K H0 (upd H ST (.lst ((ps.map Prod.fst).reverse.map V.ref ++ [.ref e]))) (c + 1) ST (.e k [] :: es) ((e, [x]) :: ps) := by
  obtain ⟨h1, h2, h3, h4, h5, h6⟩ := h
  have s := tu_set (ys := (ps.map Prod.fst).reverse.map V.ref ++ [.ref e]) h1
  obtain ⟨m1, m2⟩ := List.nodup_cons.mp h2
  have e1 : e ≠ ST := fun z => ne (by rw [z]; exact List.mem_cons_self)
  have e2 : x ≠ ST := fun z => nx (by rw [z]; exact List.mem_cons_self)
  refine ⟨?_, ?_, Nat.succ_le_succ h3, ?_, same_set h5 (h6 ST List.mem_cons_self), fun y hy => ?_⟩
  · rw [upd_same, List.map_cons, List.reverse_cons, List.map_append]
    rfl
  · show (ST :: e :: x :: flat ps).Nodup
    refine List.nodup_cons.mpr ⟨fun m => ?_, List.nodup_cons.mpr ⟨fun m => ?_, List.nodup_cons.mpr ⟨fun m => nx (List.mem_cons_of_mem _ m), m2⟩⟩⟩
    · rcases List.mem_cons.mp m with z | m
      · exact e1 z.symm
      · rcases List.mem_cons.mp m with z | m
        · exact e2 z.symm
        · exact m1 m
    · rcases List.mem_cons.mp m with z | m
      · exact ex z
      · exact ne (List.mem_cons_of_mem _ m)
  · refine .cons (by rw [upd_ne e1]; exact he) (by rw [upd_ne e2]; exact hx) .nil (fun _ h => nomatch h) (Nat.zero_le _) (h4.same s (fun y hy o ho => ?_) (Nat.le_succ c))
    rw [upd_ne fun z => m1 (by rw [← z]; exact hy)]
    exact ho
  · rcases List.mem_cons.mp hy with z | z
    · rw [z]
      exact h6 ST List.mem_cons_self
    · rcases flat1.mp z with z | z | z
      · rw [z]
        exact fe
      · rw [z]
        exact fx
      · exact h6 y (List.mem_cons_of_mem _ z)
/-- a list of parts is begun -/
theorem LSt.open1 (h : LSt K H0 H c ST (.e "ask" [] :: es) ((e, [x]) :: ps)) (hp : H p = some (.lst [])) (fp : H0 p = none) (np : p ∉ ST :: flat ((e, [x]) :: ps)) :
    LSt K H0 (upd H x (.lst [.ref p])) (c + 1) ST (.l [] :: es) ((e, [x, p]) :: ps) := by
  obtain ⟨h1, h2, h3, h4, h5, h6⟩ := h
  have nd : (ST :: e :: x :: flat ps).Nodup := h2
  have m1 := List.nodup_cons.mp nd
  have m2 := List.nodup_cons.mp m1.2
  have m3 := List.nodup_cons.mp m2.2
  have np' : p ∉ ST :: e :: x :: flat ps := np
  have n1 : ST ≠ x := fun z => m1.1 (by rw [z]; simp)
  have n2 : e ≠ x := fun z => m2.1 (by rw [z]; simp)
  have n4 : p ≠ x := fun z => np' (by rw [z]; simp)
  cases h4 with
  | cons he hx a t n q =>
    have s := tu_set (ys := [V.ref p]) hx
    refine ⟨by rw [upd_ne n1]; exact h1, ?_, Nat.le_succ_of_le h3, ?_, same_set h5 (h6 x (List.mem_cons_of_mem _ (flat1.mpr (.inr (.inl rfl))))), fun y hy => ?_⟩
    · show (ST :: e :: x :: p :: flat ps).Nodup
      refine List.nodup_cons.mpr ⟨fun m => ?_, List.nodup_cons.mpr ⟨fun m => ?_, List.nodup_cons.mpr ⟨fun m => ?_, List.nodup_cons.mpr ⟨fun m => np' (by simp [m]), m3.2⟩⟩⟩⟩
      · simp only [List.mem_cons] at m
        rcases m with z | z | z | z
        · exact m1.1 (by rw [z]; simp)
        · exact m1.1 (by rw [z]; simp)
        · exact np' (by rw [← z]; simp)
        · exact m1.1 (by simp [z])
      · simp only [List.mem_cons] at m
        rcases m with z | z | z
        · exact n2 z
        · exact np' (by rw [← z]; simp)
        · exact m2.1 (by simp [z])
      · simp only [List.mem_cons] at m
        rcases m with z | z
        · exact n4 z.symm
        · exact m3.1 z
    · refine .opn (by rw [upd_ne n2]; exact he) upd_same (by rw [upd_ne n4]; exact hp) .nil (fun _ h => nomatch h) (Nat.zero_le _) (q.same s (fun y hy o ho => ?_) (Nat.le_succ c))
      rw [upd_ne fun z => m3.1 (by rw [← z]; exact hy)]
      exact ho
    · rcases List.mem_cons.mp hy with z | z
      · rw [z]
        exact h6 ST List.mem_cons_self
      · rcases flat2.mp z with z | z | z | z
        · exact h6 y (List.mem_cons_of_mem _ (flat1.mpr (.inl z)))
        · exact h6 y (List.mem_cons_of_mem _ (flat1.mpr (.inr (.inl z))))
        · rw [z]
          exact fp
        · exact h6 y (List.mem_cons_of_mem _ (flat1.mpr (.inr (.inr z))))
/-- the list of parts becomes a tuple -/
theorem LSt.close1 (h : LSt K H0 H c ST (.l ds :: es) ((e, [x, p]) :: ps)) {t : Addr} (hp : H p = some (.lst us)) (ht : H t = some (.tup us)) (hc : 1 ≤ c) :
    LSt K H0 (upd H x (.lst [.ref t])) (c + 1) ST (.e "ask" [.tuple ds] :: es) ((e, [x]) :: ps) := by
  obtain ⟨h1, h2, h3, h4, h5, h6⟩ := h
  have nd : (ST :: e :: x :: p :: flat ps).Nodup := h2
  have m1 := List.nodup_cons.mp nd
  have m2 := List.nodup_cons.mp m1.2
  have m3 := List.nodup_cons.mp m2.2
  have m4 := List.nodup_cons.mp m3.2
  have n1 : ST ≠ x := fun z => m1.1 (by rw [z]; simp)
  have n2 : e ≠ x := fun z => m2.1 (by rw [z]; simp)
  cases h4 with
  | opn he hx hp2 a tp n q =>
    rw [hp] at hp2
    cases hp2
    have s := tu_set (ys := [V.ref t]) hx
    refine ⟨by rw [upd_ne n1]; exact h1, ?_, Nat.le_succ_of_le h3, ?_, same_set h5 (h6 x (List.mem_cons_of_mem _ (flat2.mpr (.inr (.inl rfl))))), fun y hy => ?_⟩
    · show (ST :: e :: x :: flat ps).Nodup
      refine List.nodup_cons.mpr ⟨fun m => m1.1 ?_, List.nodup_cons.mpr ⟨fun m => m2.1 ?_, List.nodup_cons.mpr ⟨fun m => m3.1 (List.mem_cons_of_mem _ m), m4.2⟩⟩⟩
      · simp only [List.mem_cons] at m ⊢
        rcases m with z | z | z
        · exact .inl z
        · exact .inr (.inl z)
        · exact .inr (.inr (.inr z))
      · simp only [List.mem_cons] at m ⊢
        rcases m with z | z
        · exact .inl z
        · exact .inr (.inr z)
    · refine .cons (by rw [upd_ne n2]; exact he) upd_same (.cons ?_ .nil) (fun d hd => ?_) (by show 1 ≤ c + 1; omega) (q.same s (fun y hy o ho => ?_) (Nat.le_succ c))
      · refine .tup (.inl (.inl (s _ _ (tu_keep ht fun _ z => nomatch z)))) (dps_same s _ a)
      · rw [List.mem_singleton.mp hd]
        exact .tup _ tp
      · rw [upd_ne fun z => m3.1 (List.mem_cons_of_mem _ (by rw [← z]; exact hy))]
        exact ho
    · rcases List.mem_cons.mp hy with z | z
      · rw [z]
        exact h6 ST List.mem_cons_self
      · rcases flat1.mp z with z | z | z
        · exact h6 y (List.mem_cons_of_mem _ (flat2.mpr (.inl z)))
        · exact h6 y (List.mem_cons_of_mem _ (flat2.mpr (.inr (.inl z))))
        · exact h6 y (List.mem_cons_of_mem _ (flat2.mpr (.inr (.inr (.inr z)))))
/-- the top entry is taken -/
theorem LSt.pop (h : LSt K H0 H c ST (.e k ds :: es) ((e, [x]) :: ps)) (hx : H x = some (.lst us)) : LSt K H0 (upd H ST (.lst ((ps.map Prod.fst).reverse.map V.ref))) c ST es ps ∧ Same (tu H) (tu (upd H ST (.lst ((ps.map Prod.fst).reverse.map V.ref)))) ∧
    upd H ST (.lst ((ps.map Prod.fst).reverse.map V.ref)) e = some (.lst [.str k, .ref x]) ∧ upd H ST (.lst ((ps.map Prod.fst).reverse.map V.ref)) x = some (.lst us) := by
  obtain ⟨h1, h2, h3, h4, h5, h6⟩ := h
  have s := tu_set (ys := (ps.map Prod.fst).reverse.map V.ref) h1
  have nd : (ST :: e :: x :: flat ps).Nodup := h2
  have m1 := List.nodup_cons.mp nd
  have m2 := List.nodup_cons.mp m1.2
  have m3 := List.nodup_cons.mp m2.2
  have n1 : e ≠ ST := fun z => m1.1 (by rw [z]; simp)
  have n2 : x ≠ ST := fun z => m1.1 (by rw [z]; simp)
  cases h4 with
  | cons he hx2 a t n q =>
    refine ⟨⟨upd_same, List.nodup_cons.mpr ⟨fun m => m1.1 (by simp [m]), m3.2⟩, Nat.le_of_succ_le h3, q.same s (fun y hy o ho => ?_) (Nat.le_refl c), same_set h5 (h6 ST List.mem_cons_self), fun y hy => ?_⟩, s, by rw [upd_ne n1]; exact he, by rw [upd_ne n2]; exact hx⟩
    · rw [upd_ne fun z => m1.1 (by rw [← z]; simp [hy])]
      exact ho
    · rcases List.mem_cons.mp hy with z | z
      · rw [z]
        exact h6 ST List.mem_cons_self
      · exact h6 y (List.mem_cons_of_mem _ (flat1.mpr (.inr (.inr z))))
end

/-! ### the law's states -/
def undE : Und → LEn
  | .toss bs => .e "toss" (brsD bs)
  | .look1 i => .e "look" [.int (i : Int)]
  | .look2 i a => .e "look" [.int (i : Int), brD a]
  | .ask1 ps => .e "ask" [psD ps]
def topE : Top → List LEn
  | .name => []
  | .say ps => [.e "say" (ps.map paD)]
  | .list ps => [.l (ps.map paD)]
  | .und u => [undE u]
  | .look0 => [.e "look" []]
  | .look3 i a b => [.e "look" [.int (i : Int), brD a, brD b]]
  | .ask0 => [.e "ask" []]
  | .ask2 ps a => [.e "ask" [psD ps, brD a]]
def LStk (K : PySem.W.Frag) (H0 H : Hp) (c : Nat) (ST : Addr) : Rs → Prop
  | .whole b => ∃ v, H ST = some (.lst [v]) ∧ Dp K (tu H) v (brD b) ∧ Same H0 H ∧ H0 ST = none
  | .start => ∃ ps, LSt K H0 H c ST [] ps
  | .op t us => ∃ ps, LSt K H0 H c ST (topE t ++ us.map undE) ps
def stU : Und → Str
  | .toss _ => "breakers"
  | _ => "breaker"
def stT : Top → Str
  | .name => "name"
  | .say _ => "parts"
  | .list _ => "listing"
  | .und u => stU u
  | .look0 => "number"
  | .look3 _ _ _ => "end"
  | .ask0 => "list"
  | .ask2 _ _ => "end"
def stR : Rs → Str
  | .start => "start"
  | .whole _ => "whole"
  | .op t _ => stT t
def inT : Top → Str
  | .name => "name"
  | .say _ => "part"
  | .list _ => "listed"
  | _ => "number in"
def inR : Rs → Str
  | .op t _ => inT t
  | _ => "number in"
def lsS : LS → Str
  | .bd r => stR r
  | .inw r _ => inR r
def lsW : LS → List Nat
  | .bd _ => []
  | .inw _ w => w
def lsR : LS → Rs
  | .bd r => r
  | .inw r _ => r
def RetLS (K : PySem.W.Frag) (H0 H : Hp) (c : Nat) (ST : Addr) (v : V) : Option LS → Prop
  | none => v = .non ∧ Same H0 H
  | some s => ∃ p, v = .ref p ∧ H p = some (.lst [.str (lsS s), .str (SX.S (lsW s))]) ∧ LStk K H0 H c ST (lsR s)
theorem LStk.same {K : PySem.W.Frag} {H0 H H' : Hp} {c c' : Nat} {ST : Addr} {r : Rs} (h : LStk K H0 H c ST r) (s : Same H H') (hc : c ≤ c') : LStk K H0 H' c' ST r := by
  cases r with
  | whole b =>
    obtain ⟨v, h1, h2, h3, h4⟩ := h
    exact ⟨v, s _ _ h1, dp_same (tu_mono s) _ h2, h3.trans s, h4⟩
  | start =>
    obtain ⟨ps, h⟩ := h
    exact ⟨ps, h.same s hc⟩
  | op t us =>
    obtain ⟨ps, h⟩ := h
    exact ⟨ps, h.same s hc⟩
theorem LStk.sb {K : PySem.W.Frag} {H0 H : Hp} {c : Nat} {ST : Addr} {r : Rs} (h : LStk K H0 H c ST r) : Same H0 H := by
  cases r with
  | whole b => exact h.choose_spec.2.2.1
  | start => exact h.choose_spec.2.2.2.2.1
  | op t us => exact h.choose_spec.2.2.2.2.1
def spAfter7 (K : PySem.W.Frag) : Sp := fun vs H Q _ => ∃ (H0 : Hp) (ST : Addr) (c : Nat) (wd : List Nat) (es : List LEn) (ps : List (Addr × List Addr)), vs = [.ref ST, .str (SX.S wd)] ∧ LSt K H0 H c ST es ps ∧ c ≤ 800000 ∧ wholeK .kind wd = true ∧
  ∀ ps' H', LSt K H0 H' (c + 1) ST (topE (namT wd) ++ es) ps' → Q (.str (stT (namT wd))) H'
def spIsBegun7 : Sp := fun vs H Q _ => ∃ (wd : List Nat) (ch : Nat), vs = [.str (SX.S wd), .str ⟨#[ch]⟩] ∧ wd.length ≤ 800000 ∧ ∀ H', Same H H' → Q (.bl (extK .kind (wd ++ [ch]))) H'
theorem sayC_S : (Str.ofString "say" : Str) = SX.S sayC := by decide +kernel
theorem tossC_S : (Str.ofString "toss" : Str) = SX.S tossC := by decide +kernel
theorem lookC_S : (Str.ofString "look" : Str) = SX.S lookC := by decide +kernel
theorem askC_S : (Str.ofString "ask" : Str) = SX.S askC := by decide +kernel

section
variable {P : Program} {w : World} {K : PySem.W.Frag} {mg : Str → Option Value} {base : Heap} {cs : Cs}
theorem ok_after7 {f : Addr} {fd : FuncData} (D : Df K mg "_law_after_name" s_law_after_name ["stack", "word"] f fd) (T : Txt K w mg cs) : FnOk P w K mg base CX0 1 f fd ["stack", "word"] (spAfter7 K) := by
  refine D.fn.ok sc_law_after_name (fun vs H Q E h => ?_) (fun cdv A outer s H vs Q E hr h => ?_)
  · obtain ⟨H0, ST, c, wd, es, ps, rfl, _⟩ := h
    rfl
  · obtain ⟨H0, ST, c, wd, es, ps, rfl, st, hc, hw, q⟩ := h
    refine ⟨_, (pss_cons (ps_if (pt_cmpR op_eq (pv 1) pe_str (nomark _)) (pss_cons (ps_expr (pe_bm PySem.F.plainAttrs_list PySem.F.slot_list_append PySem.F.type_list_append mt_append (pv 0) (pa_cons (pe_lst (pa_cons pe_str (pa_cons (pe_lst pa_nil) pa_nil))) pa_nil))) (pss_one (ps_ret pe_str))) pss_nil) (pss_cons (ps_if (pt_cmpR op_eq (pv 1) pe_str (nomark _)) (pss_cons (ps_expr (pe_bm PySem.F.plainAttrs_list PySem.F.slot_list_append PySem.F.type_list_append mt_append (pv 0) (pa_cons (pe_lst (pa_cons pe_str (pa_cons (pe_lst pa_nil) pa_nil))) pa_nil))) (pss_one (ps_ret pe_str))) pss_nil) (pss_cons (ps_if (pt_cmpR op_eq (pv 1) pe_str (nomark _)) (pss_cons (ps_expr (pe_bm PySem.F.plainAttrs_list PySem.F.slot_list_append PySem.F.type_list_append mt_append (pv 0) (pa_cons (pe_lst (pa_cons pe_str (pa_cons (pe_lst pa_nil) pa_nil))) pa_nil))) (pss_one (ps_ret pe_str))) pss_nil) (pss_cons (ps_expr (pe_bm PySem.F.plainAttrs_list PySem.F.slot_list_append PySem.F.type_list_append mt_append (pv 0) (pa_cons (pe_lst (pa_cons pe_str (pa_cons (pe_lst pa_nil) pa_nil))) pa_nil))) (pss_one (ps_ret pe_str)))))), ?_⟩
    have hS := st.1
    have hl : ((ps.map Prod.fst).reverse.map V.ref).length ≤ 800000 := by
      rw [List.length_map, List.length_reverse, List.length_map]
      have := st.2.2.1
      omega
    have new : ∀ (k : Str) (x e : Addr), H x = none → upd H x (.lst []) e = none → LSt K H0 (upd (upd (upd H x (.lst [])) e (.lst [.str k, .ref x])) ST (.lst ((ps.map Prod.fst).reverse.map V.ref ++ [.ref e]))) (c + 1) ST (.e k [] :: es) ((e, [x]) :: ps) ∧ upd (upd H x (.lst [])) e (.lst [.str k, .ref x]) ST = some (.lst ((ps.map Prod.fst).reverse.map V.ref)) := fun k x e nx ne => by
      have s1 := same_new (o := .lst []) nx
      have s2 := same_new (o := .lst [.str k, .ref x]) ne
      have nex : e ≠ x := fun z => by
        rw [z, upd_same] at ne
        cases ne
      have ne' : H e = none := by
        rw [upd_ne nex] at ne
        exact ne
      have st2 := st.same (s1.trans s2) (Nat.le_refl c)
      refine ⟨st2.new upd_same (by rw [upd_ne nex.symm]; exact upd_same) (free_of st.2.2.2.2.1 ne') (free_of st.2.2.2.2.1 nx) (st.ne ne') (st.ne nx) nex, st2.1⟩
    have h := kind_word hw
    simp only [kindsL, List.mem_cons, List.not_mem_nil, or_false] at h
    rcases h with e | e | e | e <;> subst e
    · refine ⟨_, rfl, rfl, _, rfl, ?_⟩
      rw [decide_eq_true (show V.str (SX.S sayC) = V.str (Str.ofString "say") by rw [sayC_S])]
      refine ⟨_, rfl, .inl ⟨rfl, _, .inl (.inl hS)⟩, (by show 0 ≤ sizeLine; decide), fun x nx => ⟨(by show 2 ≤ sizeLine; decide), fun e ne => ⟨ST, _, _, rfl, rfl, (new _ x e nx ne).2, by rw [sizeLine_eq]; omega, ?_⟩⟩⟩
      exact q _ _ (new _ x e nx ne).1
    · refine ⟨_, rfl, rfl, _, rfl, ?_⟩
      rw [decide_eq_false (show ¬ V.str (SX.S tossC) = V.str (Str.ofString "say") by rw [sayC_S, S_eq]; decide)]
      refine ⟨_, rfl, rfl, _, rfl, ?_⟩
      rw [decide_eq_true (show V.str (SX.S tossC) = V.str (Str.ofString "toss") by rw [tossC_S])]
      refine ⟨_, rfl, .inl ⟨rfl, _, .inl (.inl hS)⟩, (by show 0 ≤ sizeLine; decide), fun x nx => ⟨(by show 2 ≤ sizeLine; decide), fun e ne => ⟨ST, _, _, rfl, rfl, (new _ x e nx ne).2, by rw [sizeLine_eq]; omega, ?_⟩⟩⟩
      exact q _ _ (new _ x e nx ne).1
    · refine ⟨_, rfl, rfl, _, rfl, ?_⟩
      rw [decide_eq_false (show ¬ V.str (SX.S lookC) = V.str (Str.ofString "say") by rw [sayC_S, S_eq]; decide)]
      refine ⟨_, rfl, rfl, _, rfl, ?_⟩
      rw [decide_eq_false (show ¬ V.str (SX.S lookC) = V.str (Str.ofString "toss") by rw [tossC_S, S_eq]; decide)]
      refine ⟨_, rfl, rfl, _, rfl, ?_⟩
      rw [decide_eq_true (show V.str (SX.S lookC) = V.str (Str.ofString "look") by rw [lookC_S])]
      refine ⟨_, rfl, .inl ⟨rfl, _, .inl (.inl hS)⟩, (by show 0 ≤ sizeLine; decide), fun x nx => ⟨(by show 2 ≤ sizeLine; decide), fun e ne => ⟨ST, _, _, rfl, rfl, (new _ x e nx ne).2, by rw [sizeLine_eq]; omega, ?_⟩⟩⟩
      exact q _ _ (new _ x e nx ne).1
    · refine ⟨_, rfl, rfl, _, rfl, ?_⟩
      rw [decide_eq_false (show ¬ V.str (SX.S askC) = V.str (Str.ofString "say") by rw [sayC_S, S_eq]; decide)]
      refine ⟨_, rfl, rfl, _, rfl, ?_⟩
      rw [decide_eq_false (show ¬ V.str (SX.S askC) = V.str (Str.ofString "toss") by rw [tossC_S, S_eq]; decide)]
      refine ⟨_, rfl, rfl, _, rfl, ?_⟩
      rw [decide_eq_false (show ¬ V.str (SX.S askC) = V.str (Str.ofString "look") by rw [lookC_S, S_eq]; decide)]
      refine ⟨_, rfl, .inl ⟨rfl, _, .inl (.inl hS)⟩, (by show 0 ≤ sizeLine; decide), fun x nx => ⟨(by show 2 ≤ sizeLine; decide), fun e ne => ⟨ST, _, _, rfl, rfl, (new _ x e nx ne).2, by rw [sizeLine_eq]; omega, ?_⟩⟩⟩
      exact q _ _ (new _ x e nx ne).1
theorem ok_isbegun7 {f : Addr} {fd : FuncData} (D : Df K mg "_law_is_begun" s_law_is_begun ["word", "sign"] f fd) (T : Txt K w mg cs) : FnOk P w K mg base CX0 1 f fd ["word", "sign"] spIsBegun7 := by
  refine D.fn.ok sc_law_is_begun (fun vs H Q E h => ?_) (fun cdv A outer s H vs Q E hr h => ?_)
  · obtain ⟨wd, ch, rfl, _⟩ := h
    rfl
  · obtain ⟨wd, ch, rfl, hl, q⟩ := h
    refine ⟨_, (pss_cons (ps_for PassesOwn.never rfl (pi_list (pe_lst (pa_cons pe_str (pa_cons pe_str (pa_cons pe_str (pa_cons pe_str pa_nil)))))) (pg_name (i := 2) sc_law_is_begun.nd rfl (.inl rfl)) (pss_one (ps_if (pt_cmpR op_eq (pe_slice sl_str (pv 2) po_none (po_some (pe_op op_add (pe_callB call_len_str (by rfl) T.n_len (by decide +kernel) (pa_cons (pv 0) pa_nil)) pe_int))) (pe_op op_add_str (pv 0) (pv 1)) (nomark _)) (pss_one (ps_ret pe_bl)) pss_nil))) (pss_one (ps_ret pe_bl))), ?_⟩
    refine ⟨(by show 4 ≤ sizeLine; decide), fun L nL => ?_⟩
    have eL : upd H L (.lst [.str (Str.ofString "say"), .str (Str.ofString "toss"), .str (Str.ofString "look"), .str (Str.ofString "ask")]) L = some (.lst (kindsL.map fun o => V.str (SX.S o))) := by
      rw [upd_same, sayC_S, tossC_S, lookC_S, askC_S]
      rfl
    have s1 := same_new (o := .lst [.str (Str.ofString "say"), .str (Str.ofString "toss"), .str (Str.ofString "look"), .str (Str.ofString "ask")]) nL
    generalize upd H L (.lst [.str (Str.ofString "say"), .str (Str.ofString "toss"), .str (Str.ofString "look"), .str (Str.ofString "ask")]) = H1 at eL s1
    have q := q H1 s1
    refine ⟨L, rfl, ⟨_, .inl (.inl eL)⟩, for_list (xs := kindsL.map fun o => V.str (SX.S o)) (fun i σ H' => ∃ y2 : Option V, σ = [some (.str (SX.S wd)), some (.str ⟨#[ch]⟩), y2] ∧ H' = H1 ∧ ∀ o ∈ kindsL.take i, ¬ o.take (wd ++ [ch]).length = wd ++ [ch]) ?_ ?_ ?_ ?_⟩
    · exact ⟨none, rfl, rfl, fun o ho => nomatch ho⟩
    · rintro i σ H' _ ⟨y2, rfl, rfl, _⟩
      exact .inl (.inl eL)
    · rintro i x σ H' hx ⟨y2, rfl, rfl, no⟩
      rw [List.getElem?_map] at hx
      obtain ⟨o, ho, rfl⟩ := Option.map_eq_some_iff.mp hx
      have o4 := kinds_small (List.mem_of_getElem? ho)
      refine ⟨_, rfl, _, rfl, _, rfl, S_small (by omega), _, _, rfl, rfl, _, rfl, _, rfl, S_small (by omega), _, rfl, _, rfl, _, _, rfl, rfl, ?_, rfl, _, rfl, ?_⟩
      · rw [SX.S_len, sizeLine_eq]
        show wd.length + 1 ≤ _
        omega
      · have e1 : cutS (SX.S o) none (some (((SX.S wd).length : Int) + 1)) = SX.S (o.take (wd ++ [ch]).length) := by
          rw [SX.S_len, List.length_append]
          exact cut_SP (l := o) (j := wd.length + 1)
        rw [e1, show SX.S wd ++ (⟨#[ch]⟩ : Str) = SX.S (wd ++ [ch]) from SX.S_cat wd [ch], decide_eq_decide.mpr (S_eq _ _)]
        by_cases h : o.take (wd ++ [ch]).length = wd ++ [ch]
        · rw [decide_eq_true h]
          have e : extK .kind (wd ++ [ch]) = true := List.any_eq_true.mpr ⟨o, List.mem_of_getElem? ho, decide_eq_true h⟩
          rw [e] at q
          exact q
        · rw [decide_eq_false h]
          refine ⟨_, rfl, rfl, fun o2 h2 => ?_⟩
          rw [List.take_add_one, ho] at h2
          rcases List.mem_append.mp h2 with z | z
          · exact no o2 z
          · rw [show o2 = o from List.mem_singleton.mp z]
            exact h
    · rintro σ H' ⟨y2, rfl, rfl, no⟩
      have e : extK .kind (wd ++ [ch]) = false := by
        rw [Bool.eq_false_iff]
        intro h
        obtain ⟨o, ho, e⟩ := List.any_eq_true.mp (show (kindsL.any fun o => decide (o.take (wd ++ [ch]).length = wd ++ [ch])) = true from h)
        exact no o (by rw [List.length_map, List.take_length]; exact ho) (of_decide_eq_true e)
      rw [e] at q
      exact q

end
theorem cls_form {t : Top} {b : Br} (h : clsB t = some b) : ∃ k ds, topE t = [.e k ds] ∧ ((k = "say" ∧ brD b = .tuple [.str "say", .tuple ds]) ∨ (k = "toss" ∧ brD b = .tuple [.str "toss", .tuple ds]) ∨ ((k = "look" ∨ k = "ask") ∧ brD b = .tuple (.str k :: ds))) := by
  cases t with
  | say ps =>
    cases h
    exact ⟨_, _, rfl, .inl ⟨rfl, rfl⟩⟩
  | look3 i a b =>
    cases h
    exact ⟨_, _, rfl, .inr (.inr ⟨.inl rfl, rfl⟩)⟩
  | ask2 ps a =>
    cases h
    exact ⟨_, _, rfl, .inr (.inr ⟨.inr rfl, rfl⟩)⟩
  | und u =>
    cases u with
    | toss bs =>
      cases bs with
      | nil => cases h
      | cons b bs =>
        cases h
        exact ⟨_, _, rfl, .inr (.inl ⟨rfl, rfl⟩)⟩
    | _ => cases h
  | _ => cases h
def spClosed7 (K : PySem.W.Frag) : Sp := fun vs H Q _ => ∃ (H0 : Hp) (ST : Addr) (c : Nat) (t : Top) (b : Br) (es : List LEn) (ps : List (Addr × List Addr)), vs = [.ref ST] ∧ LSt K H0 H c ST (topE t ++ es) ps ∧ c ≤ 800000 ∧ clsB t = some b ∧
  ∀ v H' ps', LSt K H0 H' c ST es ps' → Dp K (tu H') v (brD b) → Q v H'
/-- what may stand behind a breaker that was put in -/
def putT : Top → Bool
  | .und _ => true
  | .look3 _ _ _ => true
  | .ask2 _ _ => true
  | _ => false
def spWants7 (K : PySem.W.Frag) : Sp := fun vs H Q _ => ∃ (H0 : Hp) (ST : Addr) (c : Nat) (u : Und) (b : Br) (es : List LEn) (ps : List (Addr × List Addr)), vs = [.ref ST] ∧ LSt K H0 H c ST (topE (putU u b) ++ es) ps ∧ c ≤ 800000 ∧
  ∀ H', Same H H' → Q (.str (stT (putU u b))) H'

section
variable {P : Program} {w : World} {K : PySem.W.Frag} {mg : Str → Option Value} {base : Heap} {cs : Cs}
theorem ok_closed7 {f : Addr} {fd : FuncData} (D : Df K mg "_law_closed" s_law_closed ["stack"] f fd) (T : Txt K w mg cs) : FnOk P w K mg base CX0 1 f fd ["stack"] (spClosed7 K) := by
  refine D.fn.ok sc_law_closed (fun vs H Q E h => ?_) (fun cdv A outer s H vs Q E hr h => ?_)
  · obtain ⟨H0, ST, c, t, b, es, ps, rfl, _⟩ := h
    rfl
  · obtain ⟨H0, ST, c, t, b, es, ps, rfl, st, hc, hb, q⟩ := h
    refine ⟨_, (pss_cons (ps_asg (pe_bm0 PySem.F.plainAttrs_list PySem.F.slot_list_pop PySem.F.type_list_pop mt_pop (pv 0)) (pg_lst (by rfl) (pgs_cons (pg_name (i := 1) sc_law_closed.nd rfl (.inl rfl)) (pgs_cons (pg_name (i := 2) sc_law_closed.nd rfl (.inl rfl)) pgs_nil)))) (pss_cons (ps_if (pt_cmpR op_eq (pv 1) pe_str (nomark _)) (pss_one (ps_ret (pe_tup (pa_cons pe_str (pa_cons (pe_callTy (tupOf K) (by rfl) T.n_tuple (by decide +kernel) (pa_cons (pv 2) pa_nil)) pa_nil))))) pss_nil) (pss_cons (ps_if (pt_cmpR op_eq (pv 1) pe_str (nomark _)) (pss_one (ps_ret (pe_tup (pa_cons pe_str (pa_cons (pe_callTy (tupOf K) (by rfl) T.n_tuple (by decide +kernel) (pa_cons (pv 2) pa_nil)) pa_nil))))) pss_nil) (pss_one (ps_ret (pe_callTy (tupOf K) (by rfl) T.n_tuple (by decide +kernel) (pa_cons (pe_op op_cat (pe_lst (pa_cons (pv 1) pa_nil)) (pv 2)) pa_nil))))))), ?_⟩
    obtain ⟨k, ds, et, form⟩ := cls_form hb
    rw [et] at st
    have st : LSt K H0 H c ST (.e k ds :: es) ps := st
    obtain ⟨e, x, us, ps', rfl, he, hx, ha, hn⟩ := st.topE
    have hS : H ST = some (.lst ((e :: ps'.map Prod.fst).reverse.map V.ref)) := st.1
    obtain ⟨pl1, pl2⟩ := pop_last (rs := ps'.map Prod.fst) (r := e)
    obtain ⟨st2, s2, he2, hx2⟩ := st.pop hx
    refine ⟨_, rfl, .inl ⟨rfl, _, .inl (.inl hS)⟩, ST, _, .ref e, rfl, rfl, hS, pl1, ?_⟩
    rw [pl2]
    generalize upd H ST (.lst ((ps'.map Prod.fst).reverse.map V.ref)) = H2 at st2 s2 he2 hx2
    have a2 := dps_same s2 _ ha
    refine ⟨e, _, rfl, .inl (.inl he2), rfl, _, _, rfl, _, _, rfl, rfl, ?_⟩
    have few : us.length ≤ sizeLine := by
      rw [sizeLine_eq]
      omega
    rcases form with ⟨rfl, eb⟩ | ⟨rfl, eb⟩ | ⟨hk, eb⟩
    · refine ⟨_, rfl, rfl, _, rfl, ?_⟩
      rw [decide_eq_true rfl]
      refine ⟨_, rfl, x, us, rfl, .inl ⟨.inl (.inl hx2), fun t1 nt => ⟨(by show 2 ≤ sizeLine; decide), fun z nz => ?_⟩⟩⟩
      have s3 := (same_new (o := .tup us) nt).trans (same_new (o := .tup [.str "say", .ref t1]) nz)
      refine q _ _ _ (st2.same s3 (Nat.le_refl c)) ?_
      rw [eb]
      refine .tup (.inl (.inl (tu_keep upd_same fun _ w => nomatch w))) (.cons (.str _) (.cons (.tup (.inl (.inl (tu_keep (same_new nz _ _ upd_same) fun _ w => nomatch w))) (dps_same (tu_mono s3) _ a2)) .nil))
    · refine ⟨_, rfl, rfl, _, rfl, ?_⟩
      rw [decide_eq_false (show ¬ V.str (Str.ofString "toss") = V.str (Str.ofString "say") by decide +kernel)]
      refine ⟨_, rfl, rfl, _, rfl, ?_⟩
      rw [decide_eq_true rfl]
      refine ⟨_, rfl, x, us, rfl, .inl ⟨.inl (.inl hx2), fun t1 nt => ⟨(by show 2 ≤ sizeLine; decide), fun z nz => ?_⟩⟩⟩
      have s3 := (same_new (o := .tup us) nt).trans (same_new (o := .tup [.str "toss", .ref t1]) nz)
      refine q _ _ _ (st2.same s3 (Nat.le_refl c)) ?_
      rw [eb]
      refine .tup (.inl (.inl (tu_keep upd_same fun _ w => nomatch w))) (.cons (.str _) (.cons (.tup (.inl (.inl (tu_keep (same_new nz _ _ upd_same) fun _ w => nomatch w))) (dps_same (tu_mono s3) _ a2)) .nil))
    · have n1 : ¬ V.str k = V.str (Str.ofString "say") := by rcases hk with e | e <;> subst e <;> decide +kernel
      have n2 : ¬ V.str k = V.str (Str.ofString "toss") := by rcases hk with e | e <;> subst e <;> decide +kernel
      refine ⟨_, rfl, rfl, _, rfl, ?_⟩
      rw [decide_eq_false n1]
      refine ⟨_, rfl, rfl, _, rfl, ?_⟩
      rw [decide_eq_false n2]
      refine ⟨_, rfl, (by show 1 ≤ sizeLine; decide), fun L1 m1 => ⟨_, rfl, L1, x, [.str k], us, rfl, rfl, upd_same, same_new m1 _ _ hx2, (by show 1 + us.length ≤ sizeLine; rw [sizeLine_eq]; omega), fun L2 m2 => ⟨L2, _, rfl, .inl ⟨.inl (.inl upd_same), fun t1 nt => ?_⟩⟩⟩⟩
      have s3 := ((same_new (o := .lst [.str k]) m1).trans (same_new (o := .lst ([.str k] ++ us)) m2)).trans (same_new (o := .tup ([.str k] ++ us)) nt)
      refine q _ _ _ (st2.same s3 (Nat.le_refl c)) ?_
      rw [eb]
      exact .tup (.inl (.inl (tu_keep upd_same fun _ w => nomatch w))) (.cons (.str _) (dps_same (tu_mono s3) _ a2))
theorem ok_wants7 {f : Addr} {fd : FuncData} (D : Df K mg "_law_wants" s_law_wants ["stack"] f fd) (T : Txt K w mg cs) : FnOk P w K mg base CX0 1 f fd ["stack"] (spWants7 K) := by
  refine D.fn.ok sc_law_wants (fun vs H Q E h => ?_) (fun cdv A outer s H vs Q E hr h => ?_)
  · obtain ⟨H0, ST, c, u, b, es, ps, rfl, _⟩ := h
    rfl
  · obtain ⟨H0, ST, c, u, b, es, ps, rfl, st, hc, q⟩ := h
    refine ⟨_, (pss_cons (ps_asg (pe_ix (ixL K) (pv 0) (pe_un un_neg pe_int) (fun _ _ => rfl)) (pg_lst (by rfl) (pgs_cons (pg_name (i := 1) sc_law_wants.nd rfl (.inl rfl)) (pgs_cons (pg_name (i := 2) sc_law_wants.nd rfl (.inl rfl)) pgs_nil)))) (pss_cons (ps_if (pt_cmpR op_eq (pv 1) pe_str (nomark _)) (pss_one (ps_ret pe_str)) pss_nil) (pss_one (ps_ret (pe_ix (ixL K) (pe_lst (pa_cons pe_str (pa_cons pe_str pa_nil))) (pe_callTy call_int1 (by rfl) T.n_int (by decide +kernel) (pa_cons (pe_cmpR op_eq (pe_callB (lenS K) (by rfl) T.n_len (by decide +kernel) (pa_cons (pv 2) pa_nil)) (pe_ix (ixL K) (pe_lst (pa_cons pe_int (pa_cons pe_int pa_nil))) (pe_callTy call_int1 (by rfl) T.n_int (by decide +kernel) (pa_cons (pe_cmpR op_eq (pv 1) pe_str (nomark _)) pa_nil)) (fun _ _ => rfl)) (nomark _)) pa_nil)) (fun _ _ => rfl)))))), ?_⟩
    have form : ∃ k ds, topE (putU u b) = [.e k ds] ∧ ((k = "toss" ∧ stT (putU u b) = "breakers") ∨ (k = "look" ∧ ((ds.length = 2 ∧ stT (putU u b) = "breaker") ∨ (ds.length = 3 ∧ stT (putU u b) = "end"))) ∨ (k = "ask" ∧ ds.length = 2 ∧ stT (putU u b) = "end")) := by
      cases u with
      | toss bs => exact ⟨_, _, rfl, .inl ⟨rfl, rfl⟩⟩
      | look1 i => exact ⟨_, _, rfl, .inr (.inl ⟨rfl, .inl ⟨rfl, rfl⟩⟩)⟩
      | look2 i a => exact ⟨_, _, rfl, .inr (.inl ⟨rfl, .inr ⟨rfl, rfl⟩⟩)⟩
      | ask1 ps => exact ⟨_, _, rfl, .inr (.inr ⟨rfl, rfl, rfl⟩)⟩
    obtain ⟨k, ds, et, form⟩ := form
    rw [et] at st
    have st : LSt K H0 H c ST (.e k ds :: es) ps := st
    obtain ⟨e, x, us, ps', rfl, he, hx, ha, hn⟩ := st.topE
    have hS : H ST = some (.lst ((e :: ps'.map Prod.fst).reverse.map V.ref)) := st.1
    have ll := dp_all_len ha
    refine ⟨_, rfl, _, rfl, ST, _, -1, _, rfl, rfl, .inl (.inl hS), atI_revR, e, _, rfl, .inl (.inl he), rfl, _, _, rfl, _, _, rfl, rfl, ?_⟩
    rcases form with ⟨rfl, es⟩ | ⟨rfl, form⟩ | ⟨rfl, l2, es⟩
    · refine ⟨_, rfl, rfl, _, rfl, ?_⟩
      rw [decide_eq_true rfl]
      rw [es] at q
      exact q H fun _ _ h => h
    · refine ⟨_, rfl, rfl, _, rfl, ?_⟩
      rw [decide_eq_false (show ¬ V.str (Str.ofString "look") = V.str (Str.ofString "toss") by decide +kernel)]
      have key : ∀ (n : Int) (z : Str), (us.length : Int) = n → atI [V.str (Str.ofString "breaker"), V.str (Str.ofString "end")] (if n = 3 then 1 else 0) = some (.str z) → stT (putU u b) = z → (tOp (rIxL K) (tLst (tCons (tC (V.str (Str.ofString "breaker"))) (tCons (tC (V.str (Str.ofString "end"))) tNil)))
          (tCB (fun xs H Q => (∃ i, xs = [V.int i] ∧ Q (V.int i) H) ∨ ∃ k, xs = [V.bl k] ∧ Q (V.int (if k = true then 1 else 0)) H)
            (tCons (tOp rEq (tCB (rLenS K) (tCons (tVar 2) tNil))
                (tOp (rIxL K) (tLst (tCons (tC (V.int 2)) (tCons (tC (V.int 3)) tNil)))
                  (tCB (fun xs H Q => (∃ i, xs = [V.int i] ∧ Q (V.int i) H) ∨ ∃ k, xs = [V.bl k] ∧ Q (V.int (if k = true then 1 else 0)) H)
                    (tCons (tOp rEq (tVar 1) (tC (V.str (Str.ofString "look")))) tNil)))) tNil))) [some (.ref ST), some (.str (Str.ofString "look")), some (.ref x)] H Q := fun n z hn hz ez => by
        refine ⟨(by show 2 ≤ sizeLine; decide), fun L1 m1 => ⟨_, rfl, x, us, rfl, .inl (.inl (.inl (same_new m1 _ _ hx))), (by show 2 ≤ sizeLine; decide), fun L2 m2 => ⟨_, rfl, rfl, .inr ⟨_, rfl, L2, _, _, .int 3, rfl, rfl, .inl (.inl upd_same), ?_, rfl, .inr ⟨_, rfl, L1, _, _, .str z, rfl, rfl, .inl (.inl (same_new m2 _ _ upd_same)), ?_, ?_⟩⟩⟩⟩⟩
        · rw [decide_eq_true rfl]
          rfl
        · rw [hn]
          by_cases h3 : n = 3
          · rw [if_pos h3] at hz
            rw [decide_eq_true (show V.int n = V.int 3 by rw [h3])]
            exact hz
          · rw [if_neg h3] at hz
            rw [decide_eq_false (show ¬ V.int n = V.int 3 from fun w => h3 (V.int.inj w))]
            exact hz
        · rw [← ez]
          exact q _ ((same_new m1).trans (same_new m2))
      rcases form with ⟨l2, es⟩ | ⟨l3, es⟩
      · exact key 2 _ (by omega) rfl es
      · exact key 3 _ (by omega) rfl es
    · refine ⟨_, rfl, rfl, _, rfl, ?_⟩
      rw [decide_eq_false (show ¬ V.str (Str.ofString "ask") = V.str (Str.ofString "toss") by decide +kernel)]
      refine ⟨(by show 2 ≤ sizeLine; decide), fun L1 m1 => ⟨_, rfl, x, us, rfl, .inl (.inl (.inl (same_new m1 _ _ hx))), (by show 2 ≤ sizeLine; decide), fun L2 m2 => ⟨_, rfl, rfl, .inr ⟨_, rfl, L2, _, _, .int 2, rfl, rfl, .inl (.inl upd_same), ?_, rfl, .inr ⟨_, rfl, L1, _, _, .str "end", rfl, rfl, .inl (.inl (same_new m2 _ _ upd_same)), ?_, ?_⟩⟩⟩⟩⟩
      · rw [decide_eq_false (show ¬ V.str (Str.ofString "ask") = V.str (Str.ofString "look") by decide +kernel)]
        rfl
      · rw [decide_eq_true (show V.int (us.length : Int) = V.int 2 by rw [ll, l2]; rfl)]
        rfl
      · rw [es] at q
        exact q _ ((same_new m1).trans (same_new m2))

end
def beginR (r : Rs) (ch : Nat) (gl : Bool) : Option LS :=
  if ch = 40 then (opnR r).map .bd else if gl = true then none else match kdR r with
    | some k => if extK k [ch] = true then some (.inw r [ch]) else none
    | none => none
def NoName (r : Rs) : Prop := ∀ us, r ≠ .op .name us
def spBegin7 (K : PySem.W.Frag) : Sp := fun vs H Q _ => ∃ (H0 : Hp) (ST : Addr) (c : Nat) (r : Rs) (ch : Nat) (gl : Bool), vs = [.ref ST, .str (stR r), .str ⟨#[ch]⟩, .bl gl] ∧ LStk K H0 H c ST r ∧ c ≤ 800000 ∧ NoName r ∧
  ∀ v H', RetLS K H0 H' (c + 1) ST v (beginR r ch gl) → (beginR r ch gl = none → Same H H') → Q v H'
def isPart (r : Rs) : Bool := match kdR r with
  | some .part => true
  | _ => false
def isNum (r : Rs) : Bool := match kdR r with
  | some .num => true
  | _ => false
def isAsk : Rs → Bool
  | .op .ask0 _ => true
  | _ => false
def isOpen : Rs → Bool
  | .start => true
  | .op (.und _) _ => true
  | _ => false
theorem st_cases (Pr : Rs → Str → Prop) (h1 : Pr .start "start") (h2 : ∀ b, Pr (.whole b) "whole") (h3 : ∀ ps us, Pr (.op (.say ps) us) "parts") (h4 : ∀ ps us, Pr (.op (.list ps) us) "listing") (h5 : ∀ bs us, Pr (.op (.und (.toss bs)) us) "breakers")
    (h6 : ∀ i us, Pr (.op (.und (.look1 i)) us) "breaker") (h7 : ∀ i a us, Pr (.op (.und (.look2 i a)) us) "breaker") (h8 : ∀ ps us, Pr (.op (.und (.ask1 ps)) us) "breaker") (h9 : ∀ us, Pr (.op .look0 us) "number") (h10 : ∀ i a b us, Pr (.op (.look3 i a b) us) "end")
    (h11 : ∀ us, Pr (.op .ask0 us) "list") (h12 : ∀ ps a us, Pr (.op (.ask2 ps a) us) "end") : ∀ r, NoName r → Pr r (stR r)
  | .start, _ => h1
  | .whole b, _ => h2 b
  | .op .name us, n => absurd rfl (n us)
  | .op (.say ps) us, _ => h3 ps us
  | .op (.list ps) us, _ => h4 ps us
  | .op (.und (.toss bs)) us, _ => h5 bs us
  | .op (.und (.look1 i)) us, _ => h6 i us
  | .op (.und (.look2 i a)) us, _ => h7 i a us
  | .op (.und (.ask1 ps)) us, _ => h8 ps us
  | .op .look0 us, _ => h9 us
  | .op (.look3 i a b) us, _ => h10 i a b us
  | .op .ask0 us, _ => h11 us
  | .op (.ask2 ps a) us, _ => h12 ps a us
theorem q_t {x : Bool} {p : Bool} (h : x = p) : x = p := h
theorem st_part {r : Rs} (n : NoName r) : inV (.str (stR r)) [.str "parts", .str "listing"] = isPart r := by
  refine st_cases (fun r z => inV (.str z) [.str "parts", .str "listing"] = isPart r) ?_ ?_ ?_ ?_ ?_ ?_ ?_ ?_ ?_ ?_ ?_ ?_ r n <;> intros
  all_goals first
    | exact (by decide +kernel : inV (.str "start") [.str "parts", .str "listing"] = false)
    | exact (by decide +kernel : inV (.str "whole") [.str "parts", .str "listing"] = false)
    | exact (by decide +kernel : inV (.str "parts") [.str "parts", .str "listing"] = true)
    | exact (by decide +kernel : inV (.str "listing") [.str "parts", .str "listing"] = true)
    | exact (by decide +kernel : inV (.str "breakers") [.str "parts", .str "listing"] = false)
    | exact (by decide +kernel : inV (.str "breaker") [.str "parts", .str "listing"] = false)
    | exact (by decide +kernel : inV (.str "number") [.str "parts", .str "listing"] = false)
    | exact (by decide +kernel : inV (.str "end") [.str "parts", .str "listing"] = false)
    | exact (by decide +kernel : inV (.str "list") [.str "parts", .str "listing"] = false)
theorem st_open {r : Rs} (n : NoName r) : inV (.str (stR r)) [.str "start", .str "breaker", .str "breakers"] = isOpen r := by
  refine st_cases (fun r z => inV (.str z) [.str "start", .str "breaker", .str "breakers"] = isOpen r) ?_ ?_ ?_ ?_ ?_ ?_ ?_ ?_ ?_ ?_ ?_ ?_ r n <;> intros
  all_goals first
    | exact (by decide +kernel : inV (.str "start") [.str "start", .str "breaker", .str "breakers"] = true)
    | exact (by decide +kernel : inV (.str "whole") [.str "start", .str "breaker", .str "breakers"] = false)
    | exact (by decide +kernel : inV (.str "parts") [.str "start", .str "breaker", .str "breakers"] = false)
    | exact (by decide +kernel : inV (.str "listing") [.str "start", .str "breaker", .str "breakers"] = false)
    | exact (by decide +kernel : inV (.str "breakers") [.str "start", .str "breaker", .str "breakers"] = true)
    | exact (by decide +kernel : inV (.str "breaker") [.str "start", .str "breaker", .str "breakers"] = true)
    | exact (by decide +kernel : inV (.str "number") [.str "start", .str "breaker", .str "breakers"] = false)
    | exact (by decide +kernel : inV (.str "end") [.str "start", .str "breaker", .str "breakers"] = false)
    | exact (by decide +kernel : inV (.str "list") [.str "start", .str "breaker", .str "breakers"] = false)
theorem st_eq {z : Str} (Bo : Rs → Bool) (h : ∀ r, NoName r → (decide (stR r = z)) = Bo r) {r : Rs} (n : NoName r) : decide (V.str (stR r) = V.str z) = Bo r := by
  rw [← h r n]
  by_cases e : stR r = z
  · rw [decide_eq_true e, decide_eq_true (show V.str (stR r) = V.str z by rw [e])]
  · rw [decide_eq_false e, decide_eq_false fun w => e (V.str.inj w)]
theorem st_num {r : Rs} (n : NoName r) : decide (V.str (stR r) = V.str (Str.ofString "number")) = isNum r := by
  refine st_eq isNum (fun r n => ?_) n
  refine st_cases (fun r z => decide (z = ("number" : Str)) = isNum r) ?_ ?_ ?_ ?_ ?_ ?_ ?_ ?_ ?_ ?_ ?_ ?_ r n <;> intros <;> (show decide (_ = _) = (_ : Bool)) <;> first | exact (by decide +kernel) | rfl
theorem st_ask {r : Rs} (n : NoName r) : decide (V.str (stR r) = V.str (Str.ofString "list")) = isAsk r := by
  refine st_eq isAsk (fun r n => ?_) n
  refine st_cases (fun r z => decide (z = ("list" : Str)) = isAsk r) ?_ ?_ ?_ ?_ ?_ ?_ ?_ ?_ ?_ ?_ ?_ ?_ r n <;> intros <;> (show decide (_ = _) = (_ : Bool)) <;> first | exact (by decide +kernel) | rfl
def isList : Rs → Bool
  | .op (.list _) _ => true
  | _ => false
theorem st_list {r : Rs} (n : NoName r) : decide (V.str (stR r) = V.str (Str.ofString "listing")) = isList r := by
  refine st_eq isList (fun r n => ?_) n
  refine st_cases (fun r z => decide (z = ("listing" : Str)) = isList r) ?_ ?_ ?_ ?_ ?_ ?_ ?_ ?_ ?_ ?_ ?_ ?_ r n <;> intros <;> (show decide (_ = _) = (_ : Bool)) <;> first | exact (by decide +kernel) | rfl
def isToss : Rs → Bool
  | .op (.und (.toss _)) _ => true
  | _ => false
theorem st_toss {r : Rs} (n : NoName r) : decide (V.str (stR r) = V.str (Str.ofString "breakers")) = isToss r := by
  refine st_eq isToss (fun r n => ?_) n
  refine st_cases (fun r z => decide (z = ("breakers" : Str)) = isToss r) ?_ ?_ ?_ ?_ ?_ ?_ ?_ ?_ ?_ ?_ ?_ ?_ r n <;> intros <;> (show decide (_ = _) = (_ : Bool)) <;> first | exact (by decide +kernel) | rfl
def isShut : Rs → Bool
  | .op (.say _) _ => true
  | .op (.und (.toss _)) _ => true
  | .op (.look3 _ _ _) _ => true
  | .op (.ask2 _ _) _ => true
  | _ => false
theorem st_shut {r : Rs} (n : NoName r) : inV (.str (stR r)) [.str "parts", .str "breakers", .str "end"] = isShut r := by
  refine st_cases (fun r z => inV (.str z) [.str "parts", .str "breakers", .str "end"] = isShut r) ?_ ?_ ?_ ?_ ?_ ?_ ?_ ?_ ?_ ?_ ?_ ?_ r n <;> intros
  all_goals first
    | exact (by decide +kernel : inV (.str "start") [.str "parts", .str "breakers", .str "end"] = false)
    | exact (by decide +kernel : inV (.str "whole") [.str "parts", .str "breakers", .str "end"] = false)
    | exact (by decide +kernel : inV (.str "parts") [.str "parts", .str "breakers", .str "end"] = true)
    | exact (by decide +kernel : inV (.str "listing") [.str "parts", .str "breakers", .str "end"] = false)
    | exact (by decide +kernel : inV (.str "breakers") [.str "parts", .str "breakers", .str "end"] = true)
    | exact (by decide +kernel : inV (.str "breaker") [.str "parts", .str "breakers", .str "end"] = false)
    | exact (by decide +kernel : inV (.str "number") [.str "parts", .str "breakers", .str "end"] = false)
    | exact (by decide +kernel : inV (.str "end") [.str "parts", .str "breakers", .str "end"] = true)
    | exact (by decide +kernel : inV (.str "list") [.str "parts", .str "breakers", .str "end"] = false)
/-- what begins by a sign of a part -/
theorem beg_part {r : Rs} {ch : Nat} (h : isPart r = true) (hc : ch ∈ [48, 49, 98]) : beginR r ch false = some (.inw r [ch]) ∧ inR r = (if isList r = true then "listed" else "part") := by
  have hk : kdR r = some .part := by
    unfold isPart at h
    split at h
    · assumption
    · cases h
  have e : extK .part [ch] = true := by
    simp only [List.mem_cons, List.not_mem_nil, or_false] at hc
    rcases hc with e | e | e <;> subst e <;> rfl
  have n40 : ch ≠ 40 := by
    simp only [List.mem_cons, List.not_mem_nil, or_false] at hc
    omega
  refine ⟨?_, ?_⟩
  · unfold beginR
    rw [if_neg n40, if_neg (by decide), hk]
    show (if extK .part [ch] = true then _ else _) = _
    rw [if_pos e]
  · cases r with
    | op t us => cases t <;> first | rfl | cases hk
    | _ => cases hk
theorem beg_num {r : Rs} {ch : Nat} (h : isNum r = true) (hc : ch ∈ figL) : beginR r ch false = some (.inw r [ch]) ∧ inR r = "number in" := by
  have hk : kdR r = some .num := by
    unfold isNum at h
    split at h
    · assumption
    · cases h
  have e : extK .num [ch] = true := by
    show (decide (ch ∈ figL) && true) = true
    rw [decide_eq_true hc]
    rfl
  have n40 : ch ≠ 40 := (figL_wch hc).2.1
  refine ⟨?_, ?_⟩
  · unfold beginR
    rw [if_neg n40, if_neg (by decide), hk]
    show (if extK .num [ch] = true then _ else _) = _
    rw [if_pos e]
  · cases r with
    | op t us => cases t <;> first | rfl | cases hk
    | _ => cases hk
theorem beg_none {r : Rs} {ch : Nat} {gl : Bool} (nn : NoName r) (n40 : ch ≠ 40) (h1 : ¬ (isPart r = true ∧ ch ∈ [48, 49, 98] ∧ gl = false)) (h2 : ¬ (isNum r = true ∧ ch ∈ figL ∧ gl = false)) : beginR r ch gl = none := by
  unfold beginR
  rw [if_neg n40]
  cases gl with
  | true => rfl
  | false =>
    rw [if_neg (by decide)]
    cases hk : kdR r with
    | none => rfl
    | some k =>
      show (if extK k [ch] = true then _ else none) = none
      have e : ¬ extK k [ch] = true := by
        cases k with
        | kind =>
          cases r with
          | op t us =>
            cases t with
            | name => exact absurd rfl (nn us)
            | _ => cases hk
          | _ => cases hk
        | part =>
          intro e
          refine h1 ⟨by unfold isPart; rw [hk], ?_, rfl⟩
          have e : (if ch = 98 then _ else decide (ch ∈ [48, 49]) && true) = true := e
          by_cases z : ch = 98
          · rw [z]
            decide
          · rw [if_neg z, Bool.and_true] at e
            have := of_decide_eq_true e
            simp only [List.mem_cons, List.not_mem_nil, or_false] at this ⊢
            omega
        | num =>
          intro e
          refine h2 ⟨by unfold isNum; rw [hk], ?_, rfl⟩
          exact numX_sign (w := [ch]) e ch List.mem_cons_self
      rw [if_neg e]

section
variable {P : Program} {w : World} {K : PySem.W.Frag} {mg : Str → Option Value} {base : Heap} {cs : Cs}
theorem ok_begin7 {f : Addr} {fd : FuncData} (D : Df K mg "_law_begin" s_law_begin ["stack", "state", "sign", "glued"] f fd) (T : Txt K w mg cs) : FnOk P w K mg base CX0 1 f fd ["stack", "state", "sign", "glued"] (spBegin7 K) := by
  refine D.fn.ok sc_law_begin (fun vs H Q E h => ?_) (fun cdv A outer s H vs Q E hr h => ?_)
  · obtain ⟨H0, ST, c, r, ch, gl, rfl, _⟩ := h
    rfl
  · obtain ⟨H0, ST, c, r, ch, gl, rfl, st, hc, nn, q⟩ := h
    refine ⟨_, (C8.pss_cut (ps_if (PW.pt (pw_and (pt_cmpR op_in_seq (pv 1) (pe_lst (pa_cons pe_str (pa_cons pe_str pa_nil))) (by rfl)) (pw_and (pt_cmpR op_in_sign (pv 2) pe_str (by rfl)) (pw_and1 (pt_not (pt_val (pv 3))))))) (pss_one (ps_ret (pe_lst (pa_cons (pe_ix (ixL K) (pe_lst (pa_cons pe_str (pa_cons pe_str pa_nil))) (pe_callTy call_int1 (by rfl) T.n_int (by decide +kernel) (pa_cons (pe_cmpR op_eq (pv 1) pe_str (nomark _)) pa_nil)) (fun _ _ => rfl)) (pa_cons (pv 2) pa_nil))))) pss_nil) (C8.pss_cut (ps_if (PW.pt (pw_and (pt_cmpR op_eq (pv 1) pe_str (nomark _)) (pw_and (pt_cmpR op_in_sign (pv 2) pe_str (by rfl)) (pw_and1 (pt_not (pt_val (pv 3))))))) (pss_one (ps_ret (pe_lst (pa_cons pe_str (pa_cons (pv 2) pa_nil))))) pss_nil) (C8.pss_cut (ps_if (PW.pt (pw_and (pt_cmpR op_eq (pv 1) pe_str (nomark _)) (pw_and1 (pt_cmpR op_eq (pv 2) pe_str (nomark _))))) (pss_cons (ps_expr (pe_bm PySem.F.plainAttrs_list PySem.F.slot_list_append PySem.F.type_list_append mt_append (pe_ix (ixL K) (pe_ix (ixL K) (pv 0) (pe_un un_neg pe_int) (fun _ _ => rfl)) pe_int (fun _ _ => rfl)) (pa_cons (pe_lst pa_nil) pa_nil))) (pss_one (ps_ret (pe_lst (pa_cons pe_str (pa_cons pe_str pa_nil)))))) pss_nil) (pss_cons (ps_if (PW.pt (pw_and (pt_cmpR op_in_seq (pv 1) (pe_lst (pa_cons pe_str (pa_cons pe_str (pa_cons pe_str pa_nil)))) (by rfl)) (pw_and1 (pt_cmpR op_eq (pv 2) pe_str (nomark _))))) (pss_one (ps_ret (pe_lst (pa_cons pe_str (pa_cons pe_str pa_nil))))) pss_nil) (pss_one (ps_ret pe_non)))))), ?_⟩
    have s01 : (Str.ofString "01b" : Str).cps.toList = [48, 49, 98] := by decide +kernel
    -- a sign of a part
    refine ⟨fun σ2 H2 => σ2 = [some (.ref ST), some (.str (stR r)), some (.str ⟨#[ch]⟩), some (.bl gl)] ∧ Same H H2 ∧ ¬ (isPart r = true ∧ ch ∈ [48, 49, 98] ∧ gl = false), ?_, ?_⟩
    · refine ⟨_, rfl, (by show 2 ≤ sizeLine; decide), fun L1 m1 => ⟨L1, _, rfl, .inl (.inl (.inl upd_same)), rfl, rfl, _, rfl, ?_⟩⟩
      rw [show inV (V.str (stR r)) [V.str (Str.ofString "parts"), V.str (Str.ofString "listing")] = isPart r from st_part nn]
      have s1 := same_new (o := .lst [V.str (Str.ofString "parts"), V.str (Str.ofString "listing")]) m1
      generalize upd H L1 (.lst [V.str (Str.ofString "parts"), V.str (Str.ofString "listing")]) = H1 at s1
      cases hp : isPart r with
      | false => exact ⟨rfl, s1, fun h => absurd h.1 (by decide)⟩
      | true =>
        refine ⟨_, rfl, ch, _, rfl, rfl, _, rfl, ?_⟩
        rw [s01]
        by_cases h2 : ch ∈ [48, 49, 98]
        · rw [decide_eq_true h2]
          cases gl with
          | true => 
            refine ⟨_, rfl, true, rfl, ?_⟩
            exact ⟨rfl, s1, fun h => absurd h.2.2 (by decide)⟩
          | false =>
            obtain ⟨e1, e2⟩ := beg_part hp h2
            rw [e1] at q
            refine ⟨_, rfl, false, rfl, ?_⟩
            refine ⟨(by show 2 ≤ sizeLine; decide), fun L2 m2 => ⟨_, rfl, rfl, .inr ⟨_, rfl, L2, _, _, .str (inR r), rfl, rfl, .inl (.inl upd_same), ?_, _, rfl, (by show 2 ≤ sizeLine; decide), fun p np => ?_⟩⟩⟩
            · rw [st_list nn, e2]
              cases isList r <;> rfl
            · have s3 := (s1.trans (same_new m2)).trans (same_new (o := .lst [.str (inR r), .str ⟨#[ch]⟩]) np)
              exact q _ _ ⟨p, rfl, upd_same, st.same s3 (Nat.le_succ c)⟩ fun w => nomatch w
        · rw [decide_eq_false h2]
          exact ⟨rfl, s1, fun h => h2 h.2.1⟩
    · rintro σ2 H2 ⟨rfl, s2, n1⟩
      -- a figure
      refine ⟨fun σ3 H3 => σ3 = [some (.ref ST), some (.str (stR r)), some (.str ⟨#[ch]⟩), some (.bl gl)] ∧ Same H H3 ∧ (ch ≠ 40 → beginR r ch gl = none), ?_, ?_⟩
      · refine ⟨_, rfl, rfl, _, rfl, ?_⟩
        rw [st_num nn]
        cases hp : isNum r with
        | false => exact ⟨rfl, s2, fun n40 => beg_none nn n40 n1 fun h => absurd (hp.symm.trans h.1) (by decide)⟩
        | true =>
          refine ⟨_, rfl, ch, _, rfl, rfl, _, rfl, ?_⟩
          rw [fig_signs]
          by_cases h2 : ch ∈ figL
          · rw [decide_eq_true (show ch ∈ [48, 49, 50, 51, 52, 53, 54, 55, 56, 57] from h2)]
            cases gl with
            | true =>
              refine ⟨_, rfl, true, rfl, ?_⟩
              exact ⟨rfl, s2, fun n40 => beg_none nn n40 n1 fun h => absurd h.2.2 (by decide)⟩
            | false =>
              obtain ⟨e1, e2⟩ := beg_num hp h2
              rw [e1] at q
              refine ⟨_, rfl, false, rfl, ?_⟩
              refine ⟨_, rfl, (by show 2 ≤ sizeLine; decide), fun p np => ?_⟩
              have s3 := s2.trans (same_new (o := .lst [.str (Str.ofString "number in"), .str ⟨#[ch]⟩]) np)
              exact q _ _ ⟨p, rfl, by rw [upd_same]; show _ = some (HO.lst [.str (inR r), _]); rw [e2]; rfl, st.same s3 (Nat.le_succ c)⟩ fun w => nomatch w
          · rw [decide_eq_false (show ¬ ch ∈ [48, 49, 50, 51, 52, 53, 54, 55, 56, 57] from h2)]
            exact ⟨rfl, s2, fun n40 => beg_none nn n40 n1 fun h => h2 h.2.1⟩
      · clear s2 n1
        rintro σ3 H3 ⟨rfl, s3, n2⟩
        -- a list
        refine ⟨fun σ4 H4 => σ4 = [some (.ref ST), some (.str (stR r)), some (.str ⟨#[ch]⟩), some (.bl gl)] ∧ Same H H4 ∧ (ch = 40 → isAsk r = false), ?_, ?_⟩
        · refine ⟨_, rfl, rfl, _, rfl, ?_⟩
          rw [st_ask nn]
          cases ha : isAsk r with
          | false => exact ⟨rfl, s3, fun _ => rfl⟩
          | true =>
            refine ⟨_, rfl, rfl, _, rfl, ?_⟩
            rw [sign_is ch _ 40 par_S]
            by_cases h40 : ch = 40
            · rw [decide_eq_true h40]
              have hr : ∃ us, r = .op .ask0 us := by
                cases r with
                | op t us => cases t <;> first | exact ⟨_, rfl⟩ | cases ha
                | _ => cases ha
              obtain ⟨us, rfl⟩ := hr
              obtain ⟨ps, st⟩ := st
              have st : LSt K H0 H c ST (.e "ask" [] :: us.map undE) ps := st
              obtain ⟨e, x, us2, ps', rfl, he, hx, hA, hn⟩ := st.topE
              cases hA
              have st3 := st.same s3 (Nat.le_refl c)
              have hS : H3 ST = some (.lst ((e :: ps'.map Prod.fst).reverse.map V.ref)) := st3.1
              have he3 := s3 _ _ he
              have hx3 := s3 _ _ hx
              refine ⟨_, rfl, _, rfl, ST, _, -1, _, rfl, rfl, .inl (.inl hS), atI_revR, e, _, 1, _, rfl, rfl, .inl (.inl he3), rfl, .inl ⟨rfl, _, .inl (.inl hx3)⟩, ?_⟩
              refine ⟨(by show 0 ≤ sizeLine; decide), fun PL mp => ⟨x, [], _, rfl, rfl, same_new mp _ _ hx3, (by show 0 < sizeLine; decide), (by show 2 ≤ sizeLine; decide), fun p np => ?_⟩⟩
              have st4 := st3.same (same_new (o := .lst []) mp) (Nat.le_refl c)
              have st5 := st4.open1 (upd_same : upd H3 PL (.lst []) PL = _) (free_of st3.2.2.2.2.1 mp) (st3.ne mp)
              subst h40
              exact q _ _ ⟨p, rfl, upd_same, _, st5.same (same_new np) (Nat.le_refl _)⟩ fun w => nomatch w
            · rw [decide_eq_false h40]
              exact ⟨rfl, s3, fun e => absurd e h40⟩
        · clear s3
          rintro σ4 H4 ⟨rfl, s4, n3⟩
          have last : beginR r ch gl = none → Q .non H4 := fun e => q _ _ (by rw [e]; exact ⟨rfl, st.sb.trans s4⟩) fun _ => s4
          refine ⟨_, rfl, (by show 3 ≤ sizeLine; decide), fun L1 m1 => ⟨L1, _, rfl, .inl (.inl (.inl upd_same)), rfl, rfl, _, rfl, ?_⟩⟩
          rw [show inV (V.str (stR r)) [V.str (Str.ofString "start"), V.str (Str.ofString "breaker"), V.str (Str.ofString "breakers")] = isOpen r from st_open nn]
          have s5 := s4.trans (same_new (o := .lst [V.str (Str.ofString "start"), V.str (Str.ofString "breaker"), V.str (Str.ofString "breakers")]) m1)
          generalize upd H4 L1 (.lst [V.str (Str.ofString "start"), V.str (Str.ofString "breaker"), V.str (Str.ofString "breakers")]) = H5 at s5
          have last : beginR r ch gl = none → Q .non H5 := fun e => q _ _ (by rw [e]; exact ⟨rfl, st.sb.trans s5⟩) fun _ => s5
          cases ho : isOpen r with
          | false =>
            refine last ?_
            by_cases h40 : ch = 40
            · have hk := n3 h40
              subst h40
              show (opnR r).map LS.bd = none
              cases r with
              | start => cases ho
              | whole b => rfl
              | op t us => cases t <;> first | rfl | exact Bool.noConfusion (show true = false from ho) | exact Bool.noConfusion (show true = false from hk)
            · exact n2 h40
          | true =>
            refine ⟨_, rfl, rfl, _, rfl, ?_⟩
            rw [sign_is ch _ 40 par_S]
            by_cases h40 : ch = 40
            · rw [decide_eq_true h40]
              subst h40
              refine ⟨(by show 2 ≤ sizeLine; decide), fun p np => ?_⟩
              have st6 := st.same (s5.trans (same_new (o := .lst [.str (Str.ofString "name"), .str (Str.ofString "")]) np)) (Nat.le_succ c)
              cases r with
              | start => exact q _ _ ⟨p, rfl, upd_same, st6⟩ fun w => nomatch w
              | whole b => cases ho
              | op t us =>
                cases t with
                | und u => exact q _ _ ⟨p, rfl, upd_same, st6⟩ fun w => nomatch w
                | _ => cases ho
            · rw [decide_eq_false h40]
              exact last (n2 h40)

end
def spStep7 (K : PySem.W.Frag) : Sp := fun vs H Q _ => ∃ (H0 : Hp) (ST : Addr) (c : Nat) (r : Rs) (ch : Nat) (gl : Bool), vs = [.str (stR r), .ref ST, .str ⟨#[ch]⟩, .bl gl] ∧ LStk K H0 H c ST r ∧ c ≤ 700000 ∧ NoName r ∧
  ∀ v H', RetLS K H0 H' (c + 3) ST v (bstep r ch gl) → Q v H'
theorem step_begin {r : Rs} {ch : Nat} {gl : Bool} (h32 : ch ≠ 32) (h41 : ch ≠ 41) : bstep r ch gl = beginR r ch gl := by
  unfold bstep beginR
  first
    | (rw [if_neg h32, if_neg h41]; done)
    | (rw [if_neg h32, if_neg h41]; rfl)
theorem begin_close {r : Rs} {gl : Bool} : beginR r 41 gl = none := by
  unfold beginR
  rw [if_neg (by decide)]
  cases gl with
  | true => rfl
  | false =>
    rw [if_neg (by decide)]
    cases kdR r with
    | none => rfl
    | some k =>
      show (if extK k ([] ++ [41]) = true then _ else none) = none
      rw [ext_not (.inr (.inr rfl)), if_neg (by decide)]
theorem RetLS.up {K : PySem.W.Frag} {H0 H : Hp} {c c' : Nat} {ST : Addr} {v : V} {o : Option LS} (h : RetLS K H0 H c ST v o) (hc : c ≤ c') : RetLS K H0 H c' ST v o := by
  cases o with
  | none => exact h
  | some s =>
    obtain ⟨p, h1, h2, h3⟩ := h
    exact ⟨p, h1, h2, h3.same (fun _ _ e => e) hc⟩
theorem ret_ne {K : PySem.W.Frag} {H0 H : Hp} {c : Nat} {ST : Addr} {v : V} {s : LS} (h : RetLS K H0 H c ST v (some s)) : v ≠ .non := by
  obtain ⟨p, h1, _⟩ := h
  rw [h1]
  exact fun z => nomatch z
theorem toss_is {r : Rs} (h : isToss r = true) : ∃ bs us, r = .op (.und (.toss bs)) us := by
  cases r with
  | op t us =>
    cases t with
    | und u =>
      cases u with
      | toss bs => exact ⟨_, _, rfl⟩
      | _ => exact Bool.noConfusion (show false = true from h)
    | _ => exact Bool.noConfusion (show false = true from h)
  | _ => exact Bool.noConfusion (show false = true from h)
theorem list_is {r : Rs} (h : isList r = true) : ∃ ps us, r = .op (.list ps) us := by
  cases r with
  | op t us =>
    cases t with
    | list ps => exact ⟨_, _, rfl⟩
    | _ => exact Bool.noConfusion (show false = true from h)
  | _ => exact Bool.noConfusion (show false = true from h)
theorem shut_is {r : Rs} (h : isShut r = true) (n : ∀ us, r ≠ .op (.und (.toss [])) us) : ∃ t us b, r = .op t us ∧ clsB t = some b ∧ clsR r = some (doneR b us) := by
  cases r with
  | op t us =>
    cases t with
    | say ps => exact ⟨_, _, _, rfl, rfl, rfl⟩
    | look3 i a b => exact ⟨_, _, _, rfl, rfl, rfl⟩
    | ask2 ps a => exact ⟨_, _, _, rfl, rfl, rfl⟩
    | und u =>
      cases u with
      | toss bs =>
        cases bs with
        | nil => exact absurd rfl (n us)
        | cons b bs => exact ⟨_, _, _, rfl, rfl, rfl⟩
      | _ => exact Bool.noConfusion (show false = true from h)
    | _ => exact Bool.noConfusion (show false = true from h)
  | _ => exact Bool.noConfusion (show false = true from h)
theorem shut_not {r : Rs} (h : isShut r = false) (hl : isList r = false) : clsR r = none := by
  cases r with
  | op t us =>
    cases t with
    | und u =>
      cases u with
      | toss bs => exact Bool.noConfusion (show true = false from h)
      | _ => rfl
    | list ps => exact Bool.noConfusion (show true = false from hl)
    | say ps => exact Bool.noConfusion (show true = false from h)
    | look3 i a b => exact Bool.noConfusion (show true = false from h)
    | ask2 ps a => exact Bool.noConfusion (show true = false from h)
    | _ => rfl
  | _ => rfl
theorem tp_br : ∀ b : Br, Tp (brD b) := by
  have hp : ∀ ps : List Pa, Tp (psD ps) := fun ps => .tup _ fun x hx => by
    obtain ⟨p, _, rfl⟩ := List.mem_map.mp hx
    cases p with
    | bit b => exact .str _
    | ref i => exact .int _
  have key : ∀ n : Nat, ∀ b : Br, sizeOf b ≤ n → Tp (brD b) := by
    intro n
    induction n with
    | zero => 
      intro b h
      cases b <;> simp at h
    | succ n ih =>
      intro b h
      cases b with
      | say ps =>
        refine .tup _ fun x hx => ?_
        rcases List.mem_cons.mp hx with e | hx
        · rw [e]
          exact .str _
        · rw [List.mem_singleton.mp hx]
          exact hp ps
      | toss bs =>
        refine .tup _ fun x hx => ?_
        rcases List.mem_cons.mp hx with e | hx
        · rw [e]
          exact .str _
        · rw [List.mem_singleton.mp hx]
          refine .tup _ fun y hy => ?_
          obtain ⟨i, hi⟩ := List.getElem?_of_mem hy
          obtain ⟨c, hc, rfl⟩ := brsD_at hi
          have hm := List.mem_of_getElem? hc
          refine ih c ?_
          have := List.sizeOf_lt_of_mem hm
          simp at h
          omega
      | look i a b =>
        simp at h
        refine .tup _ fun x hx => ?_
        simp only [List.mem_cons, List.not_mem_nil, or_false] at hx
        rcases hx with e | e | e | e <;> rw [e]
        · exact .str _
        · exact .int _
        · exact ih a (by omega)
        · exact ih b (by omega)
      | ask ps a =>
        simp at h
        refine .tup _ fun x hx => ?_
        simp only [List.mem_cons, List.not_mem_nil, or_false] at hx
        rcases hx with e | e | e <;> rw [e]
        · exact .str _
        · exact hp ps
        · exact ih a (by omega)
  exact fun b => key _ b (Nat.le_refl _)
theorem und_form (u : Und) (b : Br) : ∃ k ds, undE u = .e k ds ∧ topE (putU u b) = [.e k (ds ++ [brD b])] := by
  cases u with
  | toss bs => exact ⟨_, _, rfl, by show [LEn.e _ (brsD (bs ++ [b]))] = _; rw [brsD_app]⟩
  | look1 i => exact ⟨_, _, rfl, rfl⟩
  | look2 i a => exact ⟨_, _, rfl, rfl⟩
  | ask1 ps => exact ⟨_, _, rfl, rfl⟩

section
variable {P : Program} {w : World} {K : PySem.W.Frag} {mg : Str → Option Value} {base : Heap} {cs : Cs}
theorem ok_step7 {f : Addr} {fd : FuncData} (D : Df K mg "_law_step" s_law_step ["state", "stack", "sign", "glued"] f fd) (T : Txt K w mg cs) (c_law_begin : Cl P w K mg base CX0 1 "_law_begin" (spBegin7 K)) (c_law_closed : Cl P w K mg base CX0 1 "_law_closed" (spClosed7 K)) (c_law_wants : Cl P w K mg base CX0 1 "_law_wants" (spWants7 K)) :
    FnOk P w K mg base CX0 2 f fd ["state", "stack", "sign", "glued"] (spStep7 K) := by
  refine D.fn.ok sc_law_step (fun vs H Q E h => ?_) (fun cdv A outer s H vs Q E hr h => ?_)
  · obtain ⟨H0, ST, c, r, ch, gl, rfl, _⟩ := h
    rfl
  · obtain ⟨H0, ST, c, r, ch, gl, rfl, st, hc, nn, q⟩ := h
    refine ⟨_, (pss_cons (ps_if (pt_cmpR op_eq (pv 2) pe_str (nomark _)) (pss_one (ps_ret (pe_lst (pa_cons (pv 0) (pa_cons pe_str pa_nil))))) pss_nil) (pss_cons (ps_set (i := 4) sc_law_step.nd rfl (.inl rfl) (pe_cl c_law_begin hr (by first | decide | omega) (by rfl) (pa_cons (pv 1) (pa_cons (pv 0) (pa_cons (pv 2) (pa_cons (pv 3) pa_nil)))))) (pss_cons (ps_if (PW.pt (pw_or (pt_cmpR op_notN (pv 4) pe_non (nomark _)) (pw_or1 (pt_cmpR op_ne (pv 2) pe_str (nomark _))))) (pss_one (ps_ret (pv 4))) pss_nil) (pss_cons (ps_if (pt_cmpR op_eq (pv 0) pe_str (nomark _)) (pss_cons (ps_asg (pe_callTy (tupOf K) (by rfl) T.n_tuple (by decide +kernel) (pa_cons (pe_ix (ixL K) (pe_ix (ixL K) (pe_ix (ixL K) (pv 1) (pe_un un_neg pe_int) (fun _ _ => rfl)) pe_int (fun _ _ => rfl)) pe_int (fun _ _ => rfl)) pa_nil)) (pg_sub (pe_ix (ixL K) (pe_ix (ixL K) (pv 1) (pe_un un_neg pe_int) (fun _ _ => rfl)) pe_int (fun _ _ => rfl)) pe_int set_list)) (pss_one (ps_ret (pe_lst (pa_cons pe_str (pa_cons pe_str pa_nil)))))) pss_nil) (C8.pss_cut (ps_if (PW.pt (pw_or (PW.pt (pw_and (pt_cmpR op_eq (pv 0) pe_str (nomark _)) (pw_and1 (pt_cmpR op_eq (pe_callB (lenS K) (by rfl) T.n_len (by decide +kernel) (pa_cons (pe_ix (ixL K) (pe_ix (ixL K) (pv 1) (pe_un un_neg pe_int) (fun _ _ => rfl)) pe_int (fun _ _ => rfl)) pa_nil)) pe_int (nomark _))))) (pw_or1 (pt_cmpR op_notIn_seq (pv 0) (pe_lst (pa_cons pe_str (pa_cons pe_str (pa_cons pe_str pa_nil)))) (by rfl))))) (pss_one (ps_ret pe_non)) pss_nil) (pss_cons (ps_set (i := 5) sc_law_step.nd rfl (.inl rfl) (pe_cl c_law_closed hr (by first | decide | omega) (by rfl) (pa_cons (pv 1) pa_nil))) (pss_cons (ps_if (pt_cmpR op_eq (pe_callB (lenS K) (by rfl) T.n_len (by decide +kernel) (pa_cons (pv 1) pa_nil)) pe_int (nomark _)) (pss_cons (ps_expr (pe_bm PySem.F.plainAttrs_list PySem.F.slot_list_append PySem.F.type_list_append mt_append (pv 1) (pa_cons (pv 5) pa_nil))) (pss_one (ps_ret (pe_lst (pa_cons pe_str (pa_cons pe_str pa_nil)))))) pss_nil) (pss_cons (ps_expr (pe_bm PySem.F.plainAttrs_list PySem.F.slot_list_append PySem.F.type_list_append mt_append (pe_ix (ixL K) (pe_ix (ixL K) (pv 1) (pe_un un_neg pe_int) (fun _ _ => rfl)) pe_int (fun _ _ => rfl)) (pa_cons (pv 5) pa_nil))) (pss_one (ps_ret (pe_lst (pa_cons (pe_cl c_law_wants hr (by first | decide | omega) (by rfl) (pa_cons (pv 1) pa_nil)) (pa_cons pe_str pa_nil))))))))))))), ?_⟩
    refine ⟨_, rfl, rfl, _, rfl, ?_⟩
    rw [sign_is ch _ 32 bl_S]
    by_cases h32 : ch = 32
    · rw [decide_eq_true h32]
      subst h32
      refine ⟨_, rfl, (by show 2 ≤ sizeLine; decide), fun p np => ?_⟩
      exact q _ _ ⟨p, rfl, upd_same, st.same (same_new np) (by omega)⟩
    rw [decide_eq_false h32]
    refine ⟨_, rfl, _, rfl, _, rfl, _, rfl, H0, ST, c, r, ch, gl, rfl, st, by omega, nn, fun v H1 ret keep => ?_⟩
    by_cases h41 : ch = 41
    · subst h41
      have s1 := keep begin_close
      rw [begin_close] at ret
      obtain ⟨rfl, _⟩ := ret
      have q : ∀ v H', RetLS K H0 H' (c + 3) ST v ((clsR r).map .bd) → Q v H' := q
      refine ⟨_, rfl, rfl, _, rfl, ?_⟩
      rw [decide_eq_true rfl]
      refine ⟨_, rfl, rfl, _, rfl, ?_⟩
      rw [sign_is 41 _ 41 cl_S, decide_eq_true rfl]
      refine ⟨_, rfl, rfl, _, rfl, ?_⟩
      rw [st_list nn]
      have st1 := st.same s1 (Nat.le_refl c)
      clear st keep
      cases hl : isList r with
      | true =>
        obtain ⟨ps, us, rfl⟩ := list_is hl
        obtain ⟨prs, st1⟩ := st1
        have st1 : LSt K H0 H1 c ST (.l (ps.map paD) :: us.map undE) prs := st1
        obtain ⟨e, x, p, us2, ps', rfl, he, hx, hp, hA, hn⟩ := st1.topL
        have hS : H1 ST = some (.lst ((e :: ps'.map Prod.fst).reverse.map V.ref)) := st1.1
        refine ⟨_, rfl, _, rfl, ST, _, -1, _, rfl, rfl, .inl (.inl hS), atI_revR, e, _, 1, _, rfl, rfl, .inl (.inl he), rfl, x, _, 0, .ref p, rfl, rfl, .inl (.inl hx), rfl, p, us2, rfl, .inl ⟨.inl (.inl hp), fun t1 nt => ?_⟩⟩
        have s2 := same_new (o := .tup us2) nt
        have st2 := st1.same s2 (Nat.le_succ c)
        have st3 := st2.close1 (s2 _ _ hp) (upd_same : upd H1 t1 (.tup us2) t1 = _) (by omega)
        refine ⟨_, rfl, _, rfl, ST, _, -1, _, rfl, rfl, .inl (.inl (s2 _ _ hS)), atI_revR, e, _, 1, _, rfl, rfl, .inl (.inl (s2 _ _ he)), rfl, ?_⟩
        refine ⟨x, [.ref p], 0, 0, rfl, rfl, s2 _ _ hx, rfl, (by show 2 ≤ sizeLine; decide), fun N nN => ?_⟩
        exact q _ _ ⟨N, rfl, upd_same, _, st3.same (same_new nN) (Nat.le_succ _)⟩
      | false =>
        refine ⟨fun σ2 H2 => σ2 = [some (.str (stR r)), some (.ref ST), some (.str ⟨#[41]⟩), some (.bl gl), some .non, none] ∧ Same H1 H2 ∧ ∃ t us b, r = .op t us ∧ clsB t = some b ∧ clsR r = some (doneR b us), ?_, ?_⟩
        · refine ⟨_, rfl, rfl, _, rfl, ?_⟩
          rw [st_toss nn]
          cases ht : isToss r with
          | true =>
            obtain ⟨bs, us, rfl⟩ := toss_is ht
            obtain ⟨prs, st1⟩ := st1
            have st1 : LSt K H0 H1 c ST (.e "toss" (brsD bs) :: us.map undE) prs := st1
            obtain ⟨e, x, us2, ps', rfl, he, hx, hA, hn⟩ := st1.topE
            have hS : H1 ST = some (.lst ((e :: ps'.map Prod.fst).reverse.map V.ref)) := st1.1
            have ll := dp_all_len hA
            rw [brsD_len] at ll
            refine ⟨_, rfl, _, rfl, ST, _, -1, _, rfl, rfl, .inl (.inl hS), atI_revR, e, _, 1, _, rfl, rfl, .inl (.inl he), rfl, x, _, rfl, .inl (.inl (.inl hx)), rfl, _, rfl, ?_⟩
            rw [ll]
            cases bs with
            | nil =>
              rw [decide_eq_true (show V.int ((([] : List Br).length : Nat) : Int) = V.int 0 from rfl)]
              exact q _ _ ⟨rfl, st1.2.2.2.2.1⟩
            | cons b bs =>
              rw [decide_eq_false (show ¬ V.int (((b :: bs).length : Nat) : Int) = V.int 0 from fun z => by have := V.int.inj z; rw [List.length_cons] at this; omega)]
              refine ⟨_, rfl, (by show 3 ≤ sizeLine; decide), fun L1 m1 => ⟨L1, _, rfl, .inl (.inl (.inl upd_same)), rfl, rfl, _, rfl, ?_⟩⟩
              rw [show inV (V.str (stR (.op (.und (.toss (b :: bs))) us))) [V.str (Str.ofString "parts"), V.str (Str.ofString "breakers"), V.str (Str.ofString "end")] = true from st_shut nn]
              exact ⟨rfl, same_new m1, _, us, .toss (b :: bs), rfl, rfl, rfl⟩
          | false =>
            refine ⟨_, rfl, (by show 3 ≤ sizeLine; decide), fun L1 m1 => ⟨L1, _, rfl, .inl (.inl (.inl upd_same)), rfl, rfl, _, rfl, ?_⟩⟩
            rw [show inV (V.str (stR r)) [V.str (Str.ofString "parts"), V.str (Str.ofString "breakers"), V.str (Str.ofString "end")] = isShut r from st_shut nn]
            have s1 := same_new (o := .lst [V.str (Str.ofString "parts"), V.str (Str.ofString "breakers"), V.str (Str.ofString "end")]) m1
            cases hs : isShut r with
            | true =>
              obtain ⟨t, us, b, h1, h2, h3⟩ := shut_is hs fun us z => by
                rw [z] at ht
                cases ht
              exact ⟨rfl, s1, t, us, b, h1, h2, h3⟩
            | false => exact q _ _ (by rw [shut_not hs hl]; exact ⟨rfl, st1.sb.trans s1⟩)
        · rintro σ2 H2 ⟨rfl, s2, t, us, b, rfl, hb, hr⟩
          rw [hr] at q
          have st2 := st1.same s2 (Nat.le_refl c)
          clear st1 s1
          obtain ⟨prs, st2⟩ := st2
          refine ⟨_, rfl, H0, ST, c, t, b, us.map undE, prs, rfl, st2, by omega, hb, fun v H3 prs' st3 hv => ?_⟩
          have hS3 := st3.1
          refine ⟨_, rfl, ST, _, rfl, .inl (.inl (.inl hS3)), rfl, _, rfl, ?_⟩
          have el : ((prs'.map Prod.fst).reverse.map V.ref).length = prs'.length := by rw [List.length_map, List.length_reverse, List.length_map]
          have small : prs'.length ≤ c := st3.2.2.1
          rw [el]
          cases us with
          | nil =>
            have st3 : LSt K H0 H3 c ST [] prs' := st3
            have en : prs' = [] := by
              have := st3.2.2.2.1
              cases this
              rfl
            subst en
            rw [decide_eq_true (show V.int ((([] : List (Addr × List Addr)).length : Nat) : Int) = V.int 0 from rfl)]
            have hS4 : H3 ST = some (.lst []) := hS3
            have e4 := tu_set (ys := [v]) hS4
            refine ⟨_, rfl, .inl ⟨rfl, _, .inl (.inl hS4)⟩, _, rfl, ST, _, v, rfl, rfl, hS4, (by show 0 < sizeLine; decide), (by show 2 ≤ sizeLine; decide), fun N nN => ?_⟩
            have s5 := same_new (o := .lst [.str (Str.ofString "whole"), .str (Str.ofString "")]) nN
            exact q _ _ ⟨N, rfl, upd_same, v, s5 _ _ (upd_same : upd H3 ST (.lst [v]) ST = _), dp_same (e4.trans (tu_mono s5)) _ hv, (same_set st3.2.2.2.2.1 (st3.2.2.2.2.2 ST List.mem_cons_self)).trans s5, st3.2.2.2.2.2 ST List.mem_cons_self⟩
          | cons u us =>
            obtain ⟨k, ds, e1, e2⟩ := und_form u b
            have st3 : LSt K H0 H3 c ST (undE u :: us.map undE) prs' := st3
            rw [e1] at st3
            obtain ⟨e, x, us2, ps', rfl, he, hx, hA, hn⟩ := st3.topE
            have hS : H3 ST = some (.lst ((e :: ps'.map Prod.fst).reverse.map V.ref)) := st3.1
            obtain ⟨st4, e4⟩ := st3.put hx hv (tp_br b)
            rw [decide_eq_false (show ¬ V.int ((((e, [x]) :: ps').length : Nat) : Int) = V.int 0 from fun z => by have := V.int.inj z; rw [List.length_cons] at this; omega)]
            refine ⟨_, rfl, _, rfl, ST, _, -1, _, rfl, rfl, .inl (.inl hS), atI_revR, e, _, 1, _, rfl, rfl, .inl (.inl he), rfl, .inl ⟨rfl, _, .inl (.inl hx)⟩, _, rfl, x, us2, v, rfl, rfl, hx, by rw [sizeLine_eq]; omega, ?_⟩
            have st5 : LSt K H0 (upd H3 x (.lst (us2 ++ [v]))) (c + 1) ST (topE (putU u b) ++ us.map undE) ((e, [x]) :: ps') := by
              rw [e2]
              exact st4
            refine ⟨_, rfl, H0, ST, c + 1, u, b, us.map undE, _, rfl, st5, by omega, fun H6 s6 => ⟨(by show 2 ≤ sizeLine; decide), fun N nN => ?_⟩⟩
            exact q _ _ ⟨N, rfl, upd_same, _, st5.same (s6.trans (same_new nN)) (by omega)⟩
    · rw [step_begin h32 h41] at q
      cases ho : beginR r ch gl with
      | none =>
        rw [ho] at ret q
        obtain ⟨rfl, sb⟩ := ret
        refine ⟨_, rfl, rfl, _, rfl, ?_⟩
        rw [decide_eq_true rfl]
        refine ⟨_, rfl, rfl, _, rfl, ?_⟩
        rw [sign_is ch _ 41 cl_S, decide_eq_false h41]
        exact ⟨_, rfl, q _ _ ⟨rfl, sb⟩⟩
      | some z =>
        rw [ho] at ret q
        refine ⟨_, rfl, rfl, _, rfl, ?_⟩
        rw [decide_eq_false (ret_ne ret)]
        exact ⟨_, rfl, q _ _ (ret.up (by omega))⟩

end
def spWStep7 (K : PySem.W.Frag) : Sp := fun vs H Q _ => ∃ (H0 : Hp) (ST : Addr) (c : Nat) (t : Top) (us : List Und) (wd : List Nat) (ch : Nat) (k : Kd), vs = [.str (inT t), .ref ST, .str (SX.S wd), .str ⟨#[ch]⟩] ∧ LStk K H0 H c ST (.op t us) ∧ c ≤ 600000 ∧ kdT t = some k ∧ extK k wd = true ∧ Few wd ∧ wd.length ≤ 700000 ∧
  ∀ v H', RetLS K H0 H' (c + 5) ST v (lstep (.inw (.op t us) wd) ch) → Q v H'
def digW : List Nat → List Nat
  | [] => []
  | c :: t => if c = 98 then t else c :: t
def isB (w : List Nat) : Bool := decide (w.take 1 = [98])
theorem lstep_inw {t : Top} {us : List Und} {k : Kd} (h : kdT t = some k) (wd : List Nat) (ch : Nat) : lstep (.inw (.op t us) wd) ch = if extK k (wd ++ [ch]) = true then some (.inw (.op t us) (wd ++ [ch])) else if wholeK k wd = true then bstep (.op (flT t wd) us) ch true else none := by
  have e : kdR (.op t us) = some k := h
  show (match kdR (.op t us) with
    | some k => if extK k (wd ++ [ch]) = true then some (LS.inw (.op t us) (wd ++ [ch])) else if wholeK k wd = true then bstep (flR (.op t us) wd) ch true else none
    | none => none) = _
  rw [e]
  rfl
theorem num_on {c : Nat} {t : List Nat} {ch : Nat} (h : numX (c :: t) = true) : numX ((c :: t) ++ [ch]) = (decide (ch ∈ figL) && decide (c :: t ≠ [48])) := by
  have h1 : (decide (c ∈ figL) && (t.isEmpty || (decide (c ≠ 48) && t.all fun d => decide (d ∈ figL)))) = true := h
  obtain ⟨hc, ht⟩ := Bool.and_eq_true_iff.mp h1
  show (decide (c ∈ figL) && ((t ++ [ch]).isEmpty || (decide (c ≠ 48) && (t ++ [ch]).all fun d => decide (d ∈ figL)))) = _
  rw [hc, Bool.true_and]
  have e1 : (t ++ [ch]).isEmpty = false := by cases t <;> rfl
  rw [e1, Bool.false_or, List.all_append]
  have e2 : ([ch].all fun d => decide (d ∈ figL)) = decide (ch ∈ figL) := by
    show (decide (ch ∈ figL) && true) = _
    rw [Bool.and_true]
  rw [e2]
  cases t with
  | nil =>
    show (decide (c ≠ 48) && (true && decide (ch ∈ figL))) = _
    rw [Bool.true_and, Bool.and_comm]
    congr 1
    by_cases z : c = 48
    · rw [z]
      rfl
    · rw [decide_eq_true z, decide_eq_true (show [c] ≠ [48] from fun w => z (List.cons.inj w).1)]
  | cons d t =>
    have ht : (false || (decide (c ≠ 48) && (d :: t).all fun d => decide (d ∈ figL))) = true := ht
    rw [Bool.false_or] at ht
    obtain ⟨g1, g2⟩ := Bool.and_eq_true_iff.mp ht
    rw [g1, g2, Bool.true_and, Bool.true_and, decide_eq_true (show c :: d :: t ≠ [48] from fun w => nomatch (List.cons.inj w).2), Bool.and_true]
theorem num_go {wd : List Nat} {ch : Nat} (h : extK .num wd = true) : isB wd = false ∧ digW wd = wd ∧ extK .num (wd ++ [ch]) = (decide (ch ∈ figL) && decide (wd ≠ [48])) := by
  cases wd with
  | nil => cases h
  | cons c t =>
    have hc := numX_sign (w := c :: t) h c List.mem_cons_self
    have n98 : c ≠ 98 := fun z => by
      rw [z] at hc
      exact absurd hc (by decide)
    refine ⟨decide_eq_false fun z => n98 (List.cons.inj z).1, if_neg n98, num_on h⟩
theorem part_go {wd : List Nat} {ch : Nat} (h : extK .part wd = true) : extK .part (wd ++ [ch]) = (decide (ch ∈ figL) && (isB wd && decide (digW wd ≠ [48]))) := by
  cases wd with
  | nil => cases h
  | cons c t =>
    have h1 : (if c = 98 then t.isEmpty || numX t else decide (c ∈ [48, 49]) && t.isEmpty) = true := h
    show (if c = 98 then (t ++ [ch]).isEmpty || numX (t ++ [ch]) else decide (c ∈ [48, 49]) && (t ++ [ch]).isEmpty) = _
    have e1 : (t ++ [ch]).isEmpty = false := by cases t <;> rfl
    rw [e1]
    by_cases z : c = 98
    · rw [if_pos z] at h1 ⊢
      rw [show isB (c :: t) = true from decide_eq_true (by rw [z]; rfl), show digW (c :: t) = t from if_pos z, Bool.false_or, Bool.true_and]
      cases t with
      | nil =>
        show (decide (ch ∈ figL) && true) = (decide (ch ∈ figL) && decide (([] : List Nat) ≠ [48]))
        rfl
      | cons d t => exact num_on h1
    · rw [if_neg z, show isB (c :: t) = false from decide_eq_false fun w => z (List.cons.inj w).1, Bool.and_false, Bool.false_and, Bool.and_false]
theorem namT_no (w : List Nat) (us : List Und) : NoName (.op (namT w) us) := fun us' z => by
  have := (Rs.op.inj z).1
  unfold namT at this
  split at this
  · cases this
  · split at this
    · cases this
    · split at this <;> cases this
/-- whether a word of a number or a part goes on with a sign -/
theorem word_go {k : Kd} {wd : List Nat} {ch : Nat} (nk : k ≠ .kind) (h : extK k wd = true) : ∃ n : Bool, (n = true ↔ k = .num) ∧ extK k (wd ++ [ch]) = (decide (ch ∈ figL) && ((n || isB wd) && decide (digW wd ≠ [48]))) := by
  cases k with
  | kind => exact absurd rfl nk
  | num =>
    obtain ⟨h1, h2, h3⟩ := num_go (ch := ch) h
    exact ⟨true, ⟨fun _ => rfl, fun _ => rfl⟩, by rw [h3, h2, Bool.true_or, Bool.true_and]⟩
  | part => exact ⟨false, ⟨fun z => (nomatch z), fun z => (nomatch z)⟩, by rw [part_go h, Bool.false_or]⟩
def isLst : Top → Bool
  | .list _ => true
  | _ => false
theorem inT_num {t : Top} {k : Kd} (h : kdT t = some k) (nk : k ≠ .kind) : decide (V.str (inT t) = V.str (Str.ofString "name")) = false ∧ (decide (V.str (inT t) = V.str (Str.ofString "number in")) = true ↔ k = .num) ∧ decide (V.str (inT t) = V.str (Str.ofString "listed")) = isLst t := by
  cases t with
  | name =>
    cases h
    exact absurd rfl nk
  | say ps =>
    cases h
    exact ⟨(by show decide (V.str "part" = V.str "name") = false; decide +kernel), ⟨fun z => absurd z (by show ¬ decide (V.str "part" = V.str "number in") = true; decide +kernel), fun z => (nomatch z)⟩, by show decide (V.str "part" = V.str "listed") = false; decide +kernel⟩
  | list ps =>
    cases h
    exact ⟨(by show decide (V.str "listed" = V.str "name") = false; decide +kernel), ⟨fun z => absurd z (by show ¬ decide (V.str "listed" = V.str "number in") = true; decide +kernel), fun z => (nomatch z)⟩, by show decide (V.str "listed" = V.str "listed") = true; decide +kernel⟩
  | look0 =>
    cases h
    exact ⟨(by show decide (V.str "number in" = V.str "name") = false; decide +kernel), ⟨fun _ => rfl, fun _ => by show decide (V.str "number in" = V.str "number in") = true; decide +kernel⟩, by show decide (V.str "number in" = V.str "listed") = false; decide +kernel⟩
  | _ => cases h
theorem zero_S : (Str.ofString "0" : Str) = SX.S [48] := by decide +kernel

section
variable {P : Program} {w : World} {K : PySem.W.Frag} {mg : Str → Option Value} {base : Heap} {cs : Cs}
theorem ok_wstep7 {f : Addr} {fd : FuncData} (D : Df K mg "_law_word_step" s_law_word_step ["state", "stack", "word", "sign"] f fd) (T : Txt K w mg cs) (c_law_is_begun : Cl P w K mg base CX0 1 "_law_is_begun" spIsBegun7) (c_law_after_name : Cl P w K mg base CX0 1 "_law_after_name" (spAfter7 K)) (c_law_step : Cl P w K mg base CX0 2 "_law_step" (spStep7 K)) :
    FnOk P w K mg base CX0 3 f fd ["state", "stack", "word", "sign"] (spWStep7 K) := by
  refine D.fn.ok sc_law_word_step (fun vs H Q E h => ?_) (fun cdv A outer s H vs Q E hr h => ?_)
  · obtain ⟨H0, ST, c, t, us, wd, ch, k, rfl, _⟩ := h
    rfl
  · obtain ⟨H0, ST, c, t, us, wd, ch, k, rfl, st, hc, hk, hx, hf, hl, q⟩ := h
    refine ⟨_, (pss_cons (ps_if (pt_cmpR op_eq (pv 0) pe_str (nomark _)) (pss_cons (ps_if (pt_val (pe_cl c_law_is_begun hr (by first | decide | omega) (by rfl) (pa_cons (pv 2) (pa_cons (pv 3) pa_nil)))) (pss_one (ps_ret (pe_lst (pa_cons pe_str (pa_cons (pe_op op_add_str (pv 2) (pv 3)) pa_nil))))) pss_nil) (pss_cons (ps_if (pt_cmpR op_in_seq (pv 2) (pe_lst (pa_cons pe_str (pa_cons pe_str (pa_cons pe_str (pa_cons pe_str pa_nil))))) (by rfl)) (pss_one (ps_ret (pe_cl c_law_step hr (by first | decide | omega) (by rfl) (pa_cons (pe_cl c_law_after_name hr (by first | decide | omega) (by rfl) (pa_cons (pv 1) (pa_cons (pv 2) pa_nil))) (pa_cons (pv 1) (pa_cons (pv 3) (pa_cons pe_bl pa_nil))))))) pss_nil) (pss_one (ps_ret pe_non)))) pss_nil) (pss_cons (ps_set (i := 4) sc_law_word_step.nd rfl (.inl rfl) (pv 2)) (C8.pss_cut (ps_if (pt_cmpR op_eq (pe_slice sl_str (pv 2) po_none (po_some pe_int)) pe_str (nomark _)) (pss_one (ps_set (i := 4) sc_law_word_step.nd rfl (.inl rfl) (pe_slice sl_str (pv 2) (po_some pe_int) po_none))) pss_nil) (C8.pss_cut (ps_if (PW.pt (pw_and (pt_cmpR op_in_sign (pv 3) pe_str (by rfl)) (pw_and (PW.pt (pw_or (pt_cmpR op_eq (pv 0) pe_str (nomark _)) (pw_or1 (pt_cmpR op_eq (pe_slice sl_str (pv 2) po_none (po_some pe_int)) pe_str (nomark _))))) (pw_and1 (pt_cmpR op_ne (pv 4) pe_str (nomark _)))))) (pss_one (ps_ret (pe_lst (pa_cons (pv 0) (pa_cons (pe_op op_add_str (pv 2) (pv 3)) pa_nil))))) pss_nil) (pss_cons (ps_if (pt_cmpR op_eq (pv 2) pe_str (nomark _)) (pss_one (ps_ret pe_non)) pss_nil) (pss_cons (ps_if (pt_cmpR op_eq (pv 0) pe_str (nomark _)) (pss_cons (ps_expr (pe_bm PySem.F.plainAttrs_list PySem.F.slot_list_append PySem.F.type_list_append mt_append (pe_ix (ixL K) (pe_ix (ixL K) (pv 1) (pe_un un_neg pe_int) (fun _ _ => rfl)) pe_int (fun _ _ => rfl)) (pa_cons (pe_callTy call_int_str (by rfl) T.n_int (by decide +kernel) (pa_cons (pv 2) pa_nil)) pa_nil))) (pss_one (ps_ret (pe_cl c_law_step hr (by first | decide | omega) (by rfl) (pa_cons pe_str (pa_cons (pv 1) (pa_cons (pv 3) (pa_cons pe_bl pa_nil)))))))) pss_nil) (pss_cons (ps_set (i := 5) sc_law_word_step.nd rfl (.inl rfl) (pv 2)) (C8.pss_cut (ps_if (pt_cmpR op_eq (pe_slice sl_str (pv 2) po_none (po_some pe_int)) pe_str (nomark _)) (pss_one (ps_set (i := 5) sc_law_word_step.nd rfl (.inl rfl) (pe_callTy call_int_str (by rfl) T.n_int (by decide +kernel) (pa_cons (pv 4) pa_nil)))) pss_nil) (pss_cons (ps_set (i := 6) sc_law_word_step.nd rfl (.inl rfl) (pe_ix (ixL K) (pe_ix (ixL K) (pv 1) (pe_un un_neg pe_int) (fun _ _ => rfl)) pe_int (fun _ _ => rfl))) (C8.pss_cut (ps_if (pt_cmpR op_eq (pv 0) pe_str (nomark _)) (pss_one (ps_set (i := 6) sc_law_word_step.nd rfl (.inl rfl) (pe_ix (ixL K) (pe_ix (ixL K) (pe_ix (ixL K) (pv 1) (pe_un un_neg pe_int) (fun _ _ => rfl)) pe_int (fun _ _ => rfl)) pe_int (fun _ _ => rfl)))) pss_nil) (pss_cons (ps_expr (pe_bm PySem.F.plainAttrs_list PySem.F.slot_list_append PySem.F.type_list_append mt_append (pv 6) (pa_cons (pv 5) pa_nil))) (pss_one (ps_ret (pe_cl c_law_step hr (by first | decide | omega) (by rfl) (pa_cons (pe_ix (ixL K) (pe_lst (pa_cons pe_str (pa_cons pe_str pa_nil))) (pe_callTy call_int1 (by rfl) T.n_int (by decide +kernel) (pa_cons (pe_cmpR op_eq (pv 0) pe_str (nomark _)) pa_nil)) (fun _ _ => rfl)) (pa_cons (pv 1) (pa_cons (pv 3) (pa_cons pe_bl pa_nil)))))))))))))))))), ?_⟩
    rw [lstep_inw hk] at q
    have len1 : (wd ++ [ch]).length = wd.length + 1 := by rw [List.length_append]; rfl
    refine ⟨_, rfl, rfl, _, rfl, ?_⟩
    cases k with
    | kind =>
      have ht : t = .name := by cases t <;> first | rfl | cases hk
      subst ht
      rw [decide_eq_true (show V.str (inT .name) = V.str (Str.ofString "name") from rfl)]
      refine ⟨_, rfl, _, rfl, wd, ch, rfl, by omega, fun H1 s1 => ?_⟩
      cases hx2 : extK .kind (wd ++ [ch]) with
      | true =>
        rw [hx2, if_pos rfl] at q
        refine ⟨_, rfl, _, rfl, _, rfl, _, _, rfl, rfl, ?_, ?_⟩
        · rw [SX.S_len, sizeLine_eq]
          show wd.length + 1 ≤ _
          omega
        · refine ⟨(by show 2 ≤ sizeLine; decide), fun p np => ?_⟩
          refine q _ _ ⟨p, rfl, ?_, st.same (s1.trans (same_new np)) (by omega)⟩
          rw [upd_same]
          show some (HO.lst [_, V.str (SX.S wd ++ SX.S [ch])]) = _
          rw [SX.S_cat]
          rfl
      | false =>
        rw [hx2, if_neg (by decide)] at q
        refine ⟨_, rfl, _, rfl, (by show 4 ≤ sizeLine; decide), fun L1 m1 => ⟨L1, _, rfl, .inl (.inl (.inl upd_same)), rfl, rfl, _, rfl, ?_⟩⟩
        rw [show inV (V.str (SX.S wd)) [V.str (Str.ofString "say"), V.str (Str.ofString "toss"), V.str (Str.ofString "look"), V.str (Str.ofString "ask")] = decide (wd ∈ kindsL) from kinds_in wd]
        have s2 := s1.trans (same_new (o := .lst [V.str (Str.ofString "say"), V.str (Str.ofString "toss"), V.str (Str.ofString "look"), V.str (Str.ofString "ask")]) m1)
        by_cases hw : wd ∈ kindsL
        · have hw' : wholeK .kind wd = true := decide_eq_true hw
          rw [if_pos hw'] at q
          rw [decide_eq_true hw]
          obtain ⟨ps, st⟩ := st.same s2 (Nat.le_refl c)
          have st : LSt K H0 _ c ST (us.map undE) ps := st
          refine ⟨_, rfl, _, rfl, H0, ST, c, wd, us.map undE, ps, rfl, st, by omega, hw', fun ps' H3 st3 => ⟨_, rfl, _, rfl, H0, ST, c + 1, .op (namT wd) us, ch, true, rfl, ⟨ps', st3⟩, by omega, namT_no wd us, fun v H4 ret => q v H4 (ret.up (by omega))⟩⟩
        · have hw' : ¬ wholeK .kind wd = true := fun z => hw (of_decide_eq_true z)
          rw [if_neg hw'] at q
          rw [decide_eq_false hw]
          exact q _ _ ⟨rfl, st.sb.trans s2⟩
    | num =>
      have ht : t = .look0 := by cases t <;> first | rfl | cases hk
      subst ht
      obtain ⟨n1, n2, n3⟩ := inT_num hk (fun z => nomatch z)
      obtain ⟨g1, g2, g3⟩ := num_go (ch := ch) hx
      obtain ⟨ne, dg⟩ := num_word hx
      have l9 := few_all hf dg
      rw [n1]
      refine ⟨_, rfl, ?_⟩
      refine ⟨fun σ2 H2 => σ2 = [some (.str (inT .look0)), some (.ref ST), some (.str (SX.S wd)), some (.str ⟨#[ch]⟩), some (.str (SX.S (digW wd))), none, none] ∧ H2 = H, ?_, ?_⟩
      · refine ⟨_, rfl, _, rfl, _, rfl, S_small (by omega), rfl, _, rfl, ?_⟩
        rw [show (1 : Int) = ((1 : Nat) : Int) from rfl, cut_SP, b_S1, decide_eq_decide.mpr (S_eq _ _), show decide (wd.take 1 = [98]) = false from g1, g2]
        exact ⟨rfl, rfl⟩
      rintro σ2 H2 ⟨rfl, rfl⟩
      refine ⟨fun σ2 H3 => σ2 = [some (.str (inT .look0)), some (.ref ST), some (.str (SX.S wd)), some (.str ⟨#[ch]⟩), some (.str (SX.S (digW wd))), none, none] ∧ H3 = H2 ∧ extK .num (wd ++ [ch]) = false, ?_, ?_⟩
      · refine ⟨_, rfl, ch, _, rfl, rfl, _, rfl, ?_⟩
        rw [fig_signs]
        by_cases hf2 : ch ∈ figL
        · rw [decide_eq_true (show ch ∈ [48, 49, 50, 51, 52, 53, 54, 55, 56, 57] from hf2)]
          refine ⟨_, rfl, rfl, _, rfl, ?_⟩
          rw [n2.mpr rfl]
          refine ⟨_, rfl, rfl, _, rfl, ?_⟩
          rw [g2, zero_S, decide_eq_decide.mpr (S_eq _ _)]
          by_cases z : wd = [48]
          · rw [decide_eq_true z]
            refine ⟨rfl, rfl, ?_⟩
            rw [g3, decide_eq_false (show ¬ wd ≠ [48] from fun y => y z), Bool.and_false]
          · rw [decide_eq_false z]
            rw [g3, decide_eq_true hf2, decide_eq_true z, if_pos (show (true && true) = true from rfl)] at q
            refine ⟨_, rfl, _, rfl, _, rfl, _, _, rfl, rfl, ?_, ?_⟩
            · rw [SX.S_len, sizeLine_eq]
              show wd.length + 1 ≤ _
              omega
            · refine ⟨(by show 2 ≤ sizeLine; decide), fun p np => ?_⟩
              refine q _ _ ⟨p, rfl, ?_, st.same (same_new np) (by omega)⟩
              rw [upd_same]
              show some (HO.lst [_, V.str (SX.S wd ++ SX.S [ch])]) = _
              rw [SX.S_cat]
              rfl
        · rw [decide_eq_false (show ¬ ch ∈ [48, 49, 50, 51, 52, 53, 54, 55, 56, 57] from hf2)]
          refine ⟨rfl, rfl, ?_⟩
          rw [g3, decide_eq_false hf2]
          rfl
      · rintro σ3 H3 ⟨rfl, rfl, hx2⟩
        rw [hx2, if_neg (by decide), if_pos (show wholeK .num wd = true from rfl)] at q
        refine ⟨_, rfl, rfl, _, rfl, ?_⟩
        rw [b_S1, decide_eq_false (show ¬ V.str (SX.S wd) = V.str (SX.S [98]) by
          rw [S_eq]
          intro e
          exact absurd (dg 98 (by rw [e]; exact List.mem_cons_self)) (by decide))]
        refine ⟨_, rfl, rfl, _, rfl, ?_⟩
        rw [n2.mpr rfl]
        obtain ⟨ps, st⟩ := st
        have st : LSt K H0 H3 c ST (.e "look" [] :: us.map undE) ps := st
        obtain ⟨e, x, us2, ps', rfl, he, hxx, hA, hn⟩ := st.topE
        cases hA
        have hS : H3 ST = some (.lst ((e :: ps'.map Prod.fst).reverse.map V.ref)) := st.1
        obtain ⟨st4, _⟩ := st.put (v := .int ((NumText.digitsVal wd : Nat) : Int)) hxx (.int _) (.int _)
        refine ⟨_, rfl, _, rfl, ST, _, -1, _, rfl, rfl, .inl (.inl hS), atI_revR, e, _, 1, _, rfl, rfl, .inl (.inl he), rfl, .inl ⟨rfl, _, .inl (.inl hxx)⟩, _, rfl, SX.S wd, _, rfl, int_digits dg ne l9, by rw [SX.S_len]; omega, x, [], _, rfl, rfl, hxx, (by show 0 < sizeLine; decide), ?_⟩
        exact ⟨_, rfl, _, rfl, H0, ST, c + 1, .op (.und (.look1 (NumText.digitsVal wd))) us, ch, true, rfl, ⟨_, st4⟩, by omega, (fun us' z => nomatch (Rs.op.inj z).1), fun v H4 ret => q v H4 (ret.up (by omega))⟩
    | part =>
      obtain ⟨n1, n2, n3⟩ := inT_num hk (fun z => nomatch z)
      have n2' : decide (V.str (inT t) = V.str (Str.ofString "number in")) = false := by
        rw [Bool.eq_false_iff]
        exact fun z => nomatch n2.mp z
      have g3 := part_go (ch := ch) hx
      have wne : wd ≠ [] := fun z => by
        rw [z] at hx
        cases hx
      rw [n1]
      refine ⟨_, rfl, ?_⟩
      refine ⟨fun σ2 H2 => σ2 = [some (.str (inT t)), some (.ref ST), some (.str (SX.S wd)), some (.str ⟨#[ch]⟩), some (.str (SX.S (digW wd))), none, none] ∧ H2 = H, ?_, ?_⟩
      · refine ⟨_, rfl, _, rfl, _, rfl, S_small (by omega), rfl, _, rfl, ?_⟩
        rw [show (1 : Int) = ((1 : Nat) : Int) from rfl, cut_SP, b_S1, decide_eq_decide.mpr (S_eq _ _)]
        by_cases z : wd.take 1 = [98]
        · rw [decide_eq_true z]
          obtain ⟨t2, rfl⟩ : ∃ t2, wd = 98 :: t2 := by
            cases wd with
            | nil => cases z
            | cons a l => exact ⟨l, by rw [(List.cons.inj z).1]⟩
          have ec : cutS (SX.S (98 :: t2)) (some ((1 : Nat) : Int)) none = SX.S t2 := cut_SX
          refine ⟨_, rfl, _, rfl, _, rfl, S_small (by omega), ?_, rfl⟩
          rw [show digW (98 :: t2) = t2 from rfl, ← ec]
          rfl
        · rw [decide_eq_false z]
          have e : digW wd = wd := by
            cases wd with
            | nil => rfl
            | cons a l => exact if_neg fun y => z (by rw [y]; rfl)
          rw [e]
          exact ⟨rfl, rfl⟩
      rintro σ2 H2 ⟨rfl, rfl⟩
      refine ⟨fun σ2 H3 => σ2 = [some (.str (inT t)), some (.ref ST), some (.str (SX.S wd)), some (.str ⟨#[ch]⟩), some (.str (SX.S (digW wd))), none, none] ∧ H3 = H2 ∧ extK .part (wd ++ [ch]) = false, ?_, ?_⟩
      · refine ⟨_, rfl, ch, _, rfl, rfl, _, rfl, ?_⟩
        rw [fig_signs]
        by_cases hf2 : ch ∈ figL
        · rw [decide_eq_true (show ch ∈ [48, 49, 50, 51, 52, 53, 54, 55, 56, 57] from hf2)]
          refine ⟨_, rfl, rfl, _, rfl, ?_⟩
          rw [n2']
          refine ⟨_, rfl, _, rfl, _, rfl, S_small (by omega), rfl, _, rfl, ?_⟩
          rw [show (1 : Int) = ((1 : Nat) : Int) from rfl, cut_SP, b_S1, decide_eq_decide.mpr (S_eq _ _)]
          rw [decide_eq_true hf2, Bool.true_and] at g3
          by_cases zb : wd.take 1 = [98]
          · rw [decide_eq_true zb]
            rw [show isB wd = true from decide_eq_true zb, Bool.true_and] at g3
            refine ⟨_, rfl, rfl, _, rfl, ?_⟩
            rw [zero_S, decide_eq_decide.mpr (S_eq _ _)]
            by_cases z : digW wd = [48]
            · rw [decide_eq_true z]
              refine ⟨rfl, rfl, ?_⟩
              rw [g3, decide_eq_false (show ¬ digW wd ≠ [48] from fun y => y z)]
            · rw [decide_eq_false z]
              rw [g3, decide_eq_true z, if_pos (show true = true from rfl)] at q
              refine ⟨_, rfl, _, rfl, _, rfl, _, _, rfl, rfl, ?_, ?_⟩
              · rw [SX.S_len, sizeLine_eq]
                show wd.length + 1 ≤ _
                omega
              · refine ⟨(by show 2 ≤ sizeLine; decide), fun p np => ?_⟩
                refine q _ _ ⟨p, rfl, ?_, st.same (same_new np) (by omega)⟩
                rw [upd_same]
                show some (HO.lst [_, V.str (SX.S wd ++ SX.S [ch])]) = _
                rw [SX.S_cat]
                rfl
          · rw [decide_eq_false zb]
            refine ⟨rfl, rfl, ?_⟩
            rw [g3, show isB wd = false from decide_eq_false zb]
            rfl
        · rw [decide_eq_false (show ¬ ch ∈ [48, 49, 50, 51, 52, 53, 54, 55, 56, 57] from hf2)]
          refine ⟨rfl, rfl, ?_⟩
          rw [g3, decide_eq_false hf2]
          rfl
      · rintro σ3 H3 ⟨rfl, rfl, hx2⟩
        rw [hx2, if_neg (by decide)] at q
        refine ⟨_, rfl, rfl, _, rfl, ?_⟩
        rw [b_S1, decide_eq_decide.mpr (S_eq _ _)]
        by_cases z : wd = [98]
        · rw [decide_eq_true z]
          rw [if_neg (show ¬ wholeK .part wd = true from fun y => of_decide_eq_true y z)] at q
          exact q _ _ ⟨rfl, st.sb⟩
        · rw [decide_eq_false z]
          have hw : wholeK .part wd = true := decide_eq_true z
          rw [if_pos hw] at q
          refine ⟨_, rfl, rfl, _, rfl, ?_⟩
          rw [n2']
          refine ⟨_, rfl, ?_⟩
          refine ⟨fun σ2 H4 => σ2 = [some (.str (inT t)), some (.ref ST), some (.str (SX.S wd)), some (.str ⟨#[ch]⟩), some (.str (SX.S (digW wd))), some (paV (paW wd)), none] ∧ H4 = H3, ?_, ?_⟩
          · refine ⟨_, rfl, _, rfl, _, rfl, S_small (by omega), rfl, _, rfl, ?_⟩
            rw [show (1 : Int) = ((1 : Nat) : Int) from rfl, cut_SP, decide_eq_decide.mpr (S_eq _ _)]
            rcases part_word hx hw with ⟨b, rfl, e⟩ | ⟨t2, rfl, ne, dg, e⟩
            · rw [decide_eq_false (by cases b <;> decide), e]
              exact ⟨rfl, rfl⟩
            · have l9 := few_tail hf dg
              rw [decide_eq_true (show (98 :: t2).take 1 = [98] from rfl), e, show digW (98 :: t2) = t2 from rfl]
              exact ⟨_, rfl, SX.S t2, _, rfl, int_digits dg ne l9, by rw [SX.S_len]; omega, rfl, rfl⟩
          rintro σ4 H4 ⟨rfl, rfl⟩
          have hv : (∀ {H : Hp}, Dp K H (paV (paW wd)) (paD (paW wd))) ∧ Tp (paD (paW wd)) := by
            cases paW wd with
            | bit b => exact ⟨.str _, .str _⟩
            | ref i => exact ⟨.int _, .int _⟩
          cases t with
          | say ps =>
            obtain ⟨prs, st⟩ := st
            have st : LSt K H0 H4 c ST (.e "say" (ps.map paD) :: us.map undE) prs := st
            obtain ⟨e, x, us2, ps', rfl, he, hxx, hA, hn⟩ := st.topE
            have hS : H4 ST = some (.lst ((e :: ps'.map Prod.fst).reverse.map V.ref)) := st.1
            refine ⟨_, rfl, _, rfl, ST, _, -1, _, rfl, rfl, .inl (.inl hS), atI_revR, e, _, 1, _, rfl, rfl, .inl (.inl he), rfl, ?_⟩
            refine ⟨fun σ2 H5 => σ2 = [some (.str (inT (.say ps))), some (.ref ST), some (.str (SX.S wd)), some (.str ⟨#[ch]⟩), some (.str (SX.S (digW wd))), some (paV (paW wd)), some (.ref x)] ∧ H5 = H4, ?_, ?_⟩
            · refine ⟨_, rfl, rfl, _, rfl, ?_⟩
              rw [n3]
              exact ⟨rfl, rfl⟩
            rintro σ5 H5 ⟨rfl, rfl⟩
            obtain ⟨st4, _⟩ := st.put hxx (hv.1 (H := tu H5)) hv.2
            have st5 : LSt K H0 (upd H5 x (.lst (us2 ++ [paV (paW wd)]))) (c + 1) ST (topE (.say (ps ++ [paW wd])) ++ us.map undE) ((e, [x]) :: ps') := by
              show LSt K H0 _ (c + 1) ST (.e "say" ((ps ++ [paW wd]).map paD) :: us.map undE) _
              rw [List.map_append]
              exact st4
            refine ⟨_, rfl, .inl ⟨rfl, _, .inl (.inl hxx)⟩, _, rfl, x, us2, _, rfl, rfl, hxx, by rw [sizeLine_eq]; omega, ?_⟩
            refine ⟨(by show 2 ≤ sizeLine; decide), fun L1 m1 => ⟨_, rfl, rfl, .inr ⟨_, rfl, L1, _, _, .str "parts", rfl, rfl, .inl (.inl upd_same), ?_, _, rfl, _, rfl, ?_⟩⟩⟩
            · rw [n3]
              rfl
            · exact ⟨H0, ST, c + 1, .op (.say (ps ++ [paW wd])) us, ch, true, rfl, ⟨_, st5.same (same_new m1) (Nat.le_refl _)⟩, by omega, (fun us' z => nomatch (Rs.op.inj z).1), fun v H6 ret => q v H6 (ret.up (by omega))⟩
          | list ps =>
            obtain ⟨prs, st⟩ := st
            have st : LSt K H0 H4 c ST (.l (ps.map paD) :: us.map undE) prs := st
            obtain ⟨e, x, p, us2, ps', rfl, he, hxx, hpp, hA, hn⟩ := st.topL
            have hS : H4 ST = some (.lst ((e :: ps'.map Prod.fst).reverse.map V.ref)) := st.1
            refine ⟨_, rfl, _, rfl, ST, _, -1, _, rfl, rfl, .inl (.inl hS), atI_revR, e, _, 1, _, rfl, rfl, .inl (.inl he), rfl, ?_⟩
            refine ⟨fun σ2 H5 => σ2 = [some (.str (inT (.list ps))), some (.ref ST), some (.str (SX.S wd)), some (.str ⟨#[ch]⟩), some (.str (SX.S (digW wd))), some (paV (paW wd)), some (.ref p)] ∧ H5 = H4, ?_, ?_⟩
            · refine ⟨_, rfl, rfl, _, rfl, ?_⟩
              rw [n3]
              exact ⟨_, rfl, _, rfl, ST, _, -1, _, rfl, rfl, .inl (.inl hS), atI_revR, e, _, 1, _, rfl, rfl, .inl (.inl he), rfl, x, _, 0, _, rfl, rfl, .inl (.inl hxx), rfl, rfl, rfl⟩
            rintro σ5 H5 ⟨rfl, rfl⟩
            obtain ⟨st4, _⟩ := st.putL hpp (hv.1 (H := tu H5)) hv.2
            have st5 : LSt K H0 (upd H5 p (.lst (us2 ++ [paV (paW wd)]))) (c + 1) ST (topE (.list (ps ++ [paW wd])) ++ us.map undE) ((e, [x, p]) :: ps') := by
              show LSt K H0 _ (c + 1) ST (.l ((ps ++ [paW wd]).map paD) :: us.map undE) _
              rw [List.map_append]
              exact st4
            refine ⟨_, rfl, .inl ⟨rfl, _, .inl (.inl hpp)⟩, _, rfl, p, us2, _, rfl, rfl, hpp, by rw [sizeLine_eq]; omega, ?_⟩
            refine ⟨(by show 2 ≤ sizeLine; decide), fun L1 m1 => ⟨_, rfl, rfl, .inr ⟨_, rfl, L1, _, _, .str "listing", rfl, rfl, .inl (.inl upd_same), ?_, _, rfl, _, rfl, ?_⟩⟩⟩
            · rw [n3]
              rfl
            · exact ⟨H0, ST, c + 1, .op (.list (ps ++ [paW wd])) us, ch, true, rfl, ⟨_, st5.same (same_new m1) (Nat.le_refl _)⟩, by omega, (fun us' z => nomatch (Rs.op.inj z).1), fun v H6 ret => q v H6 (ret.up (by omega))⟩
          | _ => cases hk

end
def spRead7 (K : PySem.W.Frag) : Sp := fun vs H Q _ => ∃ tx : List Nat, vs = [.str (SX.S tx)] ∧ tx.length ≤ 100000 ∧ Few tx ∧ ∀ p H', Same H H' → (match lrun (.bd .start) tx 0 with
  | .bad n => H' p = some (.lst [.str "bad", .int (n : Int)])
  | .good b => ∃ v, H' p = some (.lst [.str "good", v]) ∧ Dp K H' v (brD b)) → Q (.ref p) H'
/-- a state within a word: the word was read just before -/
def InOk (tx : List Nat) (i : Nat) : LS → Prop
  | .bd _ => True
  | .inw r w => w ≠ [] ∧ ∃ t us k pre, r = .op t us ∧ kdT t = some k ∧ extK k w = true ∧ tx = pre ++ (w ++ tx.drop i)
theorem lstep_in {tx : List Nat} {i c : Nat} {s s' : LS} (hs : InOk tx i s) (hc : tx[i]? = some c) (e : lstep s c = some s') : InOk tx (i + 1) s' := by
  have hd : tx.drop i = c :: tx.drop (i + 1) := by
    obtain ⟨h, e⟩ := List.getElem?_eq_some_iff.mp hc
    rw [← e]
    exact List.drop_eq_getElem_cons h
  have bs : ∀ {r : Rs} {g : Bool}, bstep r c g = some s' → InOk tx (i + 1) s' := fun {r g} e => by
    unfold bstep at e
    split at e
    · cases e
      trivial
    · split at e
      · obtain ⟨_, _, rfl⟩ := Option.map_eq_some_iff.mp e
        trivial
      · split at e
        · obtain ⟨_, _, rfl⟩ := Option.map_eq_some_iff.mp e
          trivial
        · split at e
          · cases e
          · split at e
            · rename_i k hk
              split at e
              · rename_i hx
                cases e
                cases r with
                | op t us =>
                  refine ⟨(by simp), t, us, k, tx.take i, rfl, hk, hx, ?_⟩
                  conv => lhs; rw [← List.take_append_drop i tx, hd]
                  rfl
                | _ => cases hk
              · cases e
            · cases e
  cases s with
  | bd r => exact bs e
  | inw r w =>
    obtain ⟨ne, t, us, k, pre, rfl, hk, hx, et⟩ := hs
    rw [lstep_inw hk] at e
    split at e
    · rename_i hx2
      cases e
      refine ⟨(by simp), t, us, k, pre, rfl, hk, hx2, ?_⟩
      conv => lhs; rw [et, hd]
      simp
    · split at e
      · exact bs e
      · cases e
theorem st_word {r : Rs} (n : NoName r) : inV (.str (stR r)) [.str "name", .str "part", .str "listed", .str "number in"] = false := by
  refine st_cases (fun r z => inV (.str z) [.str "name", .str "part", .str "listed", .str "number in"] = false) ?_ ?_ ?_ ?_ ?_ ?_ ?_ ?_ ?_ ?_ ?_ ?_ r n <;> intros <;> decide +kernel
theorem in_word {t : Top} {k : Kd} (h : kdT t = some k) : inV (.str (inT t)) [.str "name", .str "part", .str "listed", .str "number in"] = true ∧ inT t ≠ "whole" := by
  cases t with
  | name => exact ⟨(by decide +kernel : inV (.str "name") [.str "name", .str "part", .str "listed", .str "number in"] = true), (by decide +kernel : ("name" : Str) ≠ "whole")⟩
  | say ps => exact ⟨(by decide +kernel : inV (.str "part") [.str "name", .str "part", .str "listed", .str "number in"] = true), (by decide +kernel : ("part" : Str) ≠ "whole")⟩
  | list ps => exact ⟨(by decide +kernel : inV (.str "listed") [.str "name", .str "part", .str "listed", .str "number in"] = true), (by decide +kernel : ("listed" : Str) ≠ "whole")⟩
  | look0 => exact ⟨(by decide +kernel : inV (.str "number in") [.str "name", .str "part", .str "listed", .str "number in"] = true), (by decide +kernel : ("number in" : Str) ≠ "whole")⟩
  | _ => cases h
theorem st_name {r : Rs} (n : NoName r) : decide (V.str (stR r) = V.str (Str.ofString "name")) = false := by
  refine st_eq (fun _ => false) (fun r n => ?_) n
  refine st_cases (fun r z => decide (z = ("name" : Str)) = false) ?_ ?_ ?_ ?_ ?_ ?_ ?_ ?_ ?_ ?_ ?_ ?_ r n <;> intros <;> decide +kernel
def isWhole : Rs → Bool
  | .whole _ => true
  | _ => false
theorem st_whole {r : Rs} (n : NoName r) : decide (V.str (stR r) = V.str (Str.ofString "whole")) = isWhole r := by
  refine st_eq isWhole (fun r n => ?_) n
  refine st_cases (fun r z => decide (z = ("whole" : Str)) = isWhole r) ?_ ?_ ?_ ?_ ?_ ?_ ?_ ?_ ?_ ?_ ?_ ?_ r n <;> intros <;> (show decide (_ = _) = (_ : Bool)) <;> first | exact (by decide +kernel) | rfl
theorem lrun_at {tx : List Nat} {i c : Nat} {s : LS} (hc : tx[i]? = some c) : lrun s (tx.drop i) i = match lstep s c with
    | some s' => lrun s' (tx.drop (i + 1)) (i + 1)
    | none => .bad i := by
  obtain ⟨h, e⟩ := List.getElem?_eq_some_iff.mp hc
  rw [List.drop_eq_getElem_cons h, e]
  rfl
theorem emp_S : (Str.ofString "" : Str) = SX.S [] := by decide +kernel

section
variable {P : Program} {w : World} {K : PySem.W.Frag} {mg : Str → Option Value} {base : Heap} {cs : Cs}
theorem ok_lread7 {f : Addr} {fd : FuncData} (D : Df K mg "_law_read" s_law_read ["text"] f fd) (T : Txt K w mg cs) (c_law_word_step : Cl P w K mg base CX0 3 "_law_word_step" (spWStep7 K)) (c_law_is_begun : Cl P w K mg base CX0 1 "_law_is_begun" spIsBegun7) (c_law_step : Cl P w K mg base CX0 2 "_law_step" (spStep7 K)) :
    FnOk P w K mg base CX0 4 f fd ["text"] (spRead7 K) := by
  refine D.fn.ok sc_law_read (fun vs H Q E h => ?_) (fun cdv A outer s H vs Q E hr h => ?_)
  · obtain ⟨tx, rfl, _⟩ := h
    rfl
  · obtain ⟨tx, rfl, hl, few, q⟩ := h
    refine ⟨_, (pss_cons (ps_set (i := 1) sc_law_read.nd rfl (.inl rfl) pe_str) (pss_cons (ps_set (i := 2) sc_law_read.nd rfl (.inl rfl) pe_str) (pss_cons (ps_set (i := 3) sc_law_read.nd rfl (.inl rfl) (pe_lst pa_nil)) (pss_cons (ps_for PassesOwn.never rfl (pi_range1 (by rfl) T.n_range (pa_cons (pe_callB call_len_str (by rfl) T.n_len (by decide +kernel) (pa_cons (pv 0) pa_nil)) pa_nil)) (pg_name (i := 4) sc_law_read.nd rfl (.inl rfl)) (pss_cons (ps_set (i := 5) sc_law_read.nd rfl (.inl rfl) (pe_ix ix_str (pv 0) (pv 4) (fun _ _ => rfl))) (C8.pss_cut (ps_if (PW.pt (pw_and (pt_cmpR op_in_seq (pv 1) (pe_lst (pa_cons pe_str (pa_cons pe_str (pa_cons pe_str (pa_cons pe_str pa_nil))))) (by rfl)) (pw_and1 (PW.pt (pw_or (pt_cmpR op_ne (pv 2) pe_str (nomark _)) (pw_or1 (pt_cmpR op_ne (pv 1) pe_str (nomark _)))))))) (pss_one (ps_set (i := 6) sc_law_read.nd rfl (.inl rfl) (pe_cl c_law_word_step hr (by first | decide | omega) (by rfl) (pa_cons (pv 1) (pa_cons (pv 3) (pa_cons (pv 2) (pa_cons (pv 5) pa_nil))))))) (pss_one (ps_if (pt_cmpR op_eq (pv 1) pe_str (nomark _)) (pss_cons (ps_set (i := 6) sc_law_read.nd rfl (.inl rfl) (pe_lst (pa_cons (pv 1) (pa_cons (pe_op op_add_str (pv 2) (pv 5)) pa_nil)))) (pss_one (ps_if (pt_cmpR op_eq (pv 5) pe_str (nomark _)) (pss_one (ps_set (i := 6) sc_law_read.nd rfl (.inl rfl) (pe_lst (pa_cons pe_str (pa_cons pe_str pa_nil))))) (pss_one (ps_if (pt_not (pt_val (pe_cl c_law_is_begun hr (by first | decide | omega) (by rfl) (pa_cons pe_str (pa_cons (pv 5) pa_nil))))) (pss_one (ps_set (i := 6) sc_law_read.nd rfl (.inl rfl) pe_non)) pss_nil))))) (pss_one (ps_set (i := 6) sc_law_read.nd rfl (.inl rfl) (pe_cl c_law_step hr (by first | decide | omega) (by rfl) (pa_cons (pv 1) (pa_cons (pv 3) (pa_cons (pv 5) (pa_cons pe_bl pa_nil)))))))))) (pss_cons (ps_if (pt_cmpR op_isN (pv 6) pe_non (nomark _)) (pss_one (ps_ret (pe_lst (pa_cons pe_str (pa_cons (pe_callTy call_int1 (by rfl) T.n_int (by decide +kernel) (pa_cons (pv 4) pa_nil)) pa_nil))))) pss_nil) (pss_one (ps_asg (pv 6) (pg_lst (by rfl) (pgs_cons (pg_name (i := 1) sc_law_read.nd rfl (.inl rfl)) (pgs_cons (pg_name (i := 2) sc_law_read.nd rfl (.inl rfl)) pgs_nil))))))))) (pss_cons (ps_if (pt_cmpR op_eq (pv 1) pe_str (nomark _)) (pss_one (ps_ret (pe_lst (pa_cons pe_str (pa_cons (pe_ix (ixL K) (pv 3) pe_int (fun _ _ => rfl)) pa_nil))))) pss_nil) (pss_one (ps_ret (pe_lst (pa_cons pe_str (pa_cons (pe_callB call_len_str (by rfl) T.n_len (by decide +kernel) (pa_cons (pv 0) pa_nil)) pa_nil)))))))))), ?_⟩
    refine ⟨(by show 0 ≤ sizeLine; decide), fun ST nST => ?_⟩
    have st0 : LStk K H (upd H ST (.lst [])) 0 ST .start := ⟨[], upd_same, List.nodup_cons.mpr ⟨(fun m => nomatch m), List.nodup_nil⟩, Nat.le_refl 0, .nil, same_new nST, fun x hx => by rw [List.mem_singleton.mp hx]; exact nST⟩
    generalize upd H ST (.lst []) = H1 at st0
    refine ⟨_, rfl, _, rfl, S_small (by omega), ?_⟩
    rw [SX.S_len]
    refine ⟨_, rfl, by omega, by omega, for_range (lo := 0) (n := tx.length) (fun i σ H' => ∃ (s : LS) (y4 y5 y6 : Option V), σ = [some (.str (SX.S tx)), some (.str (lsS s)), some (.str (SX.S (lsW s))), some (.ref ST), y4, y5, y6] ∧ i ≤ tx.length ∧ InOk tx i s ∧ lrun s (tx.drop i) i = lrun (.bd .start) tx 0 ∧ LStk K H H' (5 * i) ST (lsR s)) ?_ ?_ ?_⟩
    · exact ⟨.bd .start, none, none, none, rfl, Nat.zero_le _, trivial, rfl, st0⟩
    · rintro i σ H2 hi ⟨s, y4, y5, y6, rfl, hi2, ok, run, st⟩
      rw [show ((0 : Int) + (i : Int)) = (i : Int) from Int.zero_add _]
      have ec := List.getElem?_eq_getElem hi
      generalize tx[i] = ch at ec
      have drp : (tx.drop i).length = tx.length - i := List.length_drop
      refine ⟨_, rfl, _, rfl, _, _, _, rfl, rfl, S_small (by omega), at_S ec, ?_⟩
      refine ⟨fun σ2 H3 => ∃ v, σ2 = [some (.str (SX.S tx)), some (.str (lsS s)), some (.str (SX.S (lsW s))), some (.ref ST), some (.int (i : Int)), some (.str ⟨#[ch]⟩), some v] ∧ RetLS K H H3 (5 * (i + 1)) ST v (lstep s ch), ?_, ?_⟩
      · cases s with
        | inw r wd =>
          obtain ⟨ne, t, us, k, pre, rfl, hk, hx, et⟩ := ok
          obtain ⟨iw, _⟩ := in_word hk
          have lw : wd.length ≤ tx.length := by
            have := congrArg List.length et
            rw [List.length_append, List.length_append] at this
            omega
          refine ⟨_, rfl, (by show 4 ≤ sizeLine; decide), fun L1 m1 => ⟨L1, _, rfl, .inl (.inl (.inl upd_same)), rfl, rfl, _, rfl, ?_⟩⟩
          rw [show inV (V.str (lsS (.inw (.op t us) wd))) [V.str (Str.ofString "name"), V.str (Str.ofString "part"), V.str (Str.ofString "listed"), V.str (Str.ofString "number in")] = true from iw]
          refine ⟨_, rfl, rfl, _, rfl, ?_⟩
          rw [emp_S, decide_eq_false (show ¬ V.str (SX.S (lsW (.inw (.op t us) wd))) = V.str (SX.S []) by rw [S_eq]; exact ne)]
          refine ⟨_, rfl, _, rfl, _, rfl, _, rfl, H, ST, 5 * i, t, us, wd, ch, k, rfl, st.same (same_new m1) (Nat.le_refl _), by omega, hk, hx, few_mid few et, by omega, fun v H4 ret => ?_⟩
          exact ⟨v, rfl, ret.up (by omega)⟩
        | bd r =>
          by_cases hn : ∃ us, r = .op .name us
          · obtain ⟨us, rfl⟩ := hn
            refine ⟨_, rfl, (by show 4 ≤ sizeLine; decide), fun L1 m1 => ⟨L1, _, rfl, .inl (.inl (.inl upd_same)), rfl, rfl, _, rfl, ?_⟩⟩
            rw [show inV (V.str (lsS (.bd (.op .name us)))) [V.str (Str.ofString "name"), V.str (Str.ofString "part"), V.str (Str.ofString "listed"), V.str (Str.ofString "number in")] = true from (in_word (t := .name) (k := .kind) rfl).1]
            have nm : V.str (lsS (.bd (.op .name us))) = V.str (Str.ofString "name") := rfl
            refine ⟨_, rfl, rfl, _, rfl, ?_⟩
            rw [emp_S, decide_eq_true (show V.str (SX.S (lsW (.bd (.op .name us)))) = V.str (SX.S []) from rfl)]
            refine ⟨_, rfl, rfl, _, rfl, ?_⟩
            rw [decide_eq_true nm]
            refine ⟨_, rfl, rfl, _, rfl, ?_⟩
            rw [decide_eq_true nm]
            have st1 := st.same (same_new (o := .lst [V.str (Str.ofString "name"), V.str (Str.ofString "part"), V.str (Str.ofString "listed"), V.str (Str.ofString "number in")]) m1) (show 5 * i ≤ 5 * (i + 1) by omega)
            refine ⟨_, rfl, _, rfl, _, rfl, _, _, rfl, rfl, (by show 0 + 1 ≤ sizeLine; decide), (by show 2 ≤ sizeLine; decide), fun p np => ?_⟩
            have st2 := st1.same (same_new (o := .lst [.str (lsS (.bd (.op .name us))), .str (SX.S [] ++ ⟨#[ch]⟩)]) np) (Nat.le_refl _)
            refine ⟨_, rfl, rfl, _, rfl, ?_⟩
            rw [sign_is ch _ 32 bl_S]
            by_cases h32 : ch = 32
            · rw [decide_eq_true h32]
              subst h32
              exact ⟨(by show 2 ≤ sizeLine; decide), fun p2 np2 => ⟨.ref p2, rfl, p2, rfl, upd_same, st2.same (same_new np2) (Nat.le_refl _)⟩⟩
            · rw [decide_eq_false h32]
              refine ⟨_, rfl, [], ch, rfl, Nat.zero_le _, fun H4 s4 => ⟨_, rfl, ?_⟩⟩
              cases hb : extK .kind ([] ++ [ch]) with
              | true =>
                have hw := ext_wch hb ch List.mem_cons_self
                have e : lstep (.bd (.op .name us)) ch = some (.inw (.op .name us) [ch]) := by
                  show bstep _ ch false = _
                  rw [bstep_new hw]
                  show (if extK .kind [ch] = true then some (LS.inw (.op .name us) [ch]) else none) = _
                  rw [if_pos (show extK .kind [ch] = true from hb)]
                rw [e]
                refine ⟨.ref p, rfl, p, rfl, s4 _ _ ?_, st2.same s4 (Nat.le_refl _)⟩
                rw [upd_same]
                rfl
              | false =>
                have e : lstep (.bd (.op .name us)) ch = none := by
                  by_cases h40 : ch = 40
                  · rw [h40]
                    rfl
                  · by_cases h41 : ch = 41
                    · rw [h41]
                      rfl
                    · show bstep _ ch false = _
                      rw [bstep_new ⟨h32, h40, h41⟩]
                      show (if extK .kind [ch] = true then some (LS.inw (.op .name us) [ch]) else none) = _
                      rw [if_neg (by rw [show extK .kind [ch] = false from hb]; decide)]
                rw [e]
                exact ⟨.non, rfl, rfl, st2.sb.trans s4⟩
          · have nn : NoName r := fun us z => hn ⟨us, z⟩
            refine ⟨_, rfl, (by show 4 ≤ sizeLine; decide), fun L1 m1 => ⟨L1, _, rfl, .inl (.inl (.inl upd_same)), rfl, rfl, _, rfl, ?_⟩⟩
            rw [show inV (V.str (lsS (.bd r))) [V.str (Str.ofString "name"), V.str (Str.ofString "part"), V.str (Str.ofString "listed"), V.str (Str.ofString "number in")] = false from st_word nn]
            refine ⟨_, rfl, rfl, _, rfl, ?_⟩
            rw [show decide (V.str (lsS (.bd r)) = V.str (Str.ofString "name")) = false from st_name nn]
            refine ⟨_, rfl, _, rfl, _, rfl, H, ST, 5 * i, r, ch, false, rfl, st.same (same_new m1) (Nat.le_refl _), by omega, nn, fun v H4 ret => ?_⟩
            exact ⟨v, rfl, ret.up (by omega)⟩
      · rintro σ2 H3 ⟨v, rfl, ret⟩
        rw [lrun_at ec] at run
        cases e : lstep s ch with
        | none =>
          rw [e] at ret run
          obtain ⟨rfl, sb⟩ := ret
          rw [← run] at q
          refine ⟨_, rfl, rfl, _, rfl, ?_⟩
          rw [decide_eq_true rfl]
          refine ⟨_, rfl, .inl ⟨_, rfl, (by show 2 ≤ sizeLine; decide), fun p np => ?_⟩⟩
          exact q p _ (sb.trans (same_new np)) upd_same
        | some s' =>
          rw [e] at ret run
          have vn := ret_ne ret
          obtain ⟨p, rfl, hp, st2⟩ := ret
          refine ⟨_, rfl, rfl, _, rfl, ?_⟩
          rw [decide_eq_false vn]
          refine ⟨_, rfl, p, _, rfl, .inl (.inl hp), rfl, _, _, rfl, _, _, rfl, rfl, ?_⟩
          exact ⟨s', _, _, _, rfl, hi, lstep_in ok ec e, run, st2⟩
    · rintro σ H2 ⟨s, y4, y5, y6, rfl, hi2, ok, run, st⟩
      rw [List.drop_length] at run
      rw [← run] at q
      have bad : lrun s [] tx.length = .bad tx.length → (tRet (tLst (tCons (tC (V.str (Str.ofString "bad"))) (tCons (tCB (fun xs H Q => ∃ z, xs = [V.str z] ∧ z.length ≤ sizeLine ∧ Q (V.int z.length) H) (tCons (tVar 0) tNil)) tNil)))) { nx := fun x H' => Q V.non H', rt := Q } [some (.str (SX.S tx)), some (.str (lsS s)), some (.str (SX.S (lsW s))), some (.ref ST), y4, y5, y6] H2 := fun e => by
        rw [e] at q
        refine ⟨_, rfl, _, rfl, S_small (by omega), (by show 2 ≤ sizeLine; decide), fun p np => ?_⟩
        refine q p _ (st.sb.trans (same_new np)) ?_
        rw [SX.S_len]
        exact upd_same
      refine ⟨_, rfl, rfl, _, rfl, ?_⟩
      cases s with
      | inw r wd =>
        obtain ⟨ne, t, us, k, pre, rfl, hk, hx, et⟩ := ok
        rw [decide_eq_false (show ¬ V.str (lsS (.inw (.op t us) wd)) = V.str (Str.ofString "whole") from fun z => (in_word hk).2 (V.str.inj z))]
        exact bad rfl
      | bd r =>
        by_cases hn : ∃ us, r = .op .name us
        · obtain ⟨us, rfl⟩ := hn
          rw [decide_eq_false (show ¬ V.str (lsS (.bd (.op .name us))) = V.str (Str.ofString "whole") from fun z => (in_word (t := .name) (k := .kind) rfl).2 (V.str.inj z))]
          exact bad rfl
        · have nn : NoName r := fun us z => hn ⟨us, z⟩
          rw [show decide (V.str (lsS (.bd r)) = V.str (Str.ofString "whole")) = isWhole r from st_whole nn]
          cases r with
          | whole b =>
            obtain ⟨v, hS, hv, sb, _⟩ := st
            refine ⟨_, rfl, ST, _, 0, v, rfl, rfl, .inl (.inl hS), at0, (by show 2 ≤ sizeLine; decide), fun p np => ?_⟩
            exact q p _ (sb.trans (same_new np)) ⟨v, upd_same, dp_same ((tu_same H2).trans (same_new np)) _ hv⟩
          | start => exact bad rfl
          | op t us => exact bad rfl

end
theorem nums_len : ∀ {ds : List PyData} {bs : List (Int × Int)}, ds.length ≠ bs.length → numsOk ds bs = false
  | [], [], h => absurd rfl h
  | [], _ :: _, _ => rfl
  | _ :: _, [], _ => rfl
  | d :: ds, b :: bs, h => by
    show (whole d b.1 b.2 && numsOk ds bs) = false
    rw [nums_len fun e => h (congrArg Nat.succ e), Bool.and_false]
theorem dp2 {K : PySem.W.Frag} {H : Hp} {ws : List V} {xs : List PyData} (h : DpAll K H ws xs) (c : ws.length = 2) : ∃ v0 v1 d0 d1, ws = [v0, v1] ∧ xs = [d0, d1] ∧ Dp K H v0 d0 ∧ Dp K H v1 d1 := by
  match xs, ws, c, h with
  | _, [v0, v1], _, .cons h0 (.cons h1 .nil) => exact ⟨_, _, _, _, rfl, rfl, h0, h1⟩
theorem dp1 {K : PySem.W.Frag} {H : Hp} {ws : List V} {xs : List PyData} (h : DpAll K H ws xs) (c : ws.length = 1) : ∃ v0 d0, ws = [v0] ∧ xs = [d0] ∧ Dp K H v0 d0 := by
  match xs, ws, c, h with
  | _, [v0], _, .cons h0 .nil => exact ⟨_, _, rfl, rfl, h0⟩
theorem dp3 {K : PySem.W.Frag} {H : Hp} {ws : List V} {xs : List PyData} (h : DpAll K H ws xs) (c : ws.length = 3) : ∃ v0 v1 v2 d0 d1 d2, ws = [v0, v1, v2] ∧ xs = [d0, d1, d2] ∧ Dp K H v0 d0 ∧ Dp K H v1 d1 ∧ Dp K H v2 d2 := by
  match xs, ws, c, h with
  | _, [v0, v1, v2], _, .cons h0 (.cons h1 (.cons h2 .nil)) => exact ⟨_, _, _, _, _, _, rfl, rfl, h0, h1, h2⟩
theorem dp_cons {K : PySem.W.Frag} {H : Hp} {ws : List V} {x : PyData} {xs : List PyData} (h : DpAll K H ws (x :: xs)) : ∃ v vs, ws = v :: vs ∧ Dp K H v x ∧ DpAll K H vs xs := by
  match ws, h with
  | _, .cons h0 t => exact ⟨_, _, rfl, h0, t⟩
theorem dps_last {K : PySem.W.Frag} {H : Hp} {vs : List V} {ds : List PyData} (h : DpAll K H vs ds) : DpAll K H vs.dropLast ds.dropLast := by
  rw [List.dropLast_eq_take, List.dropLast_eq_take, dp_all_len h]
  exact dps_take _ h
theorem gds_drop {n : Nat} {xs : List PyData} (h : ∀ x ∈ xs, Gd n x) (k : Nat) : ∀ x ∈ xs.drop k, Gd n x := fun x hx => h x (List.mem_of_mem_drop hx)
theorem gds_last {n : Nat} {xs : List PyData} (h : ∀ x ∈ xs, Gd n x) : ∀ x ∈ xs.dropLast, Gd n x := fun x hx => h x (List.mem_of_mem_take (List.dropLast_eq_take ▸ hx))
theorem slA_any {K : PySem.W.Frag} {H : Hp} {a : Addr} {xs : List V} {lo hi : Option Int} {Q : VK} (hT : SqT K H a xs) (k : ∀ p H', Same H H' → SqT K H' p (cutV xs lo hi) → Q (.ref p) H') : rSlA K (.ref a) lo hi H Q := by
  refine ⟨a, xs, rfl, hT, fun h => k a H (Same.refl H) ?_, fun _ p np => k p _ (same_new np) (.inl (.inl upd_same))⟩
  unfold cutV
  rw [h.1, h.2, List.drop_zero, Nat.sub_zero, List.take_length]
  exact hT
theorem cut_mid {v : V} {vs : List V} : cutV (v :: vs) (some 1) (some (-1)) = vs.dropLast := by
  unfold cutV
  have e1 : HT.sIx (v :: vs).length 0 (some 1) = 1 := by
    rw [show (some (1 : Int)) = some ((1 : Nat) : Int) from rfl, HT.sIx_nat, List.length_cons]
    omega
  have e2 : HT.sIx (v :: vs).length (v :: vs).length (some (-1)) = vs.length := by
    show (if (-1 : Int) < 0 then ((-1 : Int) + ((v :: vs).length : Int)).toNat else min (-1 : Int).toNat (v :: vs).length) = _
    rw [if_pos (by decide), List.length_cons]
    omega
  rw [e1, e2, List.dropLast_eq_take]
  rfl
theorem cut_two {v : V} {vs : List V} : cutV (v :: vs) (some 2) none = vs.drop 1 := by
  unfold cutV
  rw [show (some (2 : Int)) = some ((2 : Nat) : Int) from rfl, HT.sIx_nat, HT.sIx_none]
  cases vs with
  | nil => rfl
  | cons x r =>
    rw [List.length_cons, List.length_cons, show min 2 (r.length + 1 + 1) = 2 by omega, show r.length + 1 + 1 - 2 = r.length by omega]
    show r.take r.length = _
    rw [List.take_length]
    rfl
theorem gen_parts {g : PyData} (h : genOk g = true) : ∃ (k r : PyData) (n m : Int), g = .tuple [k, .int n, .int m, r] ∧ 1 ≤ n ∧ n ≤ 10 ∧ 1 ≤ m ∧ m ≤ 40 := by
  unfold genOk at h
  split at h
  · rename_i k n m r
    simp only [Bool.and_eq_true] at h
    obtain ⟨n', rfl, a1, a2⟩ := whole_int h.1.1.2
    obtain ⟨m', rfl, b1, b2⟩ := whole_int h.1.2
    exact ⟨k, r, n', m', rfl, a1, a2, b1, b2⟩
  · cases h
theorem fitLonger_no {ds : List PyData} (h : ds.length ≠ 2) : fitLonger ds = false := by
  unfold fitLonger
  split
  · exact absurd rfl h
  · rfl
theorem fitTree_no {ds : List PyData} (h : ds.length ≠ 3) : fitTree ds = false := by
  unfold fitTree
  split
  · exact absurd rfl h
  · rfl
theorem fitOnetime_no {ds : List PyData} (h : ds.length ≠ 2) : fitOnetime ds = false := by
  unfold fitOnetime
  split
  · exact absurd rfl h
  · rfl
theorem fitOpening_no {ds : List PyData} (h : ds.length ≠ 1) : fitOpening ds = false := by
  unfold fitOpening
  split
  · exact absurd rfl h
  · rfl
theorem at_last {v : V} : ∀ {vs : List V}, vs ≠ [] → vs.getLastD v = v' → atI vs (-1) = some v'
  | vs, h, e => by
    have e2 := List.dropLast_concat_getLast h
    rw [← e2, atI_last]
    rw [← e, List.getLastD_eq_getLast?, List.getLast?_eq_some_getLast h]
    rfl

theorem named_eq {x : Str} {d : PyData} (h : named x d = true) : d = .str x := by
  cases d with
  | str z =>
    rw [named_str] at h
    rw [of_decide_eq_true h]
  | none => exact absurd h (by unfold named; simp [PyData.eqv])
  | bool b => exact absurd h (by unfold named; simp [PyData.eqv])
  | int b => exact absurd h (by unfold named; simp [PyData.eqv])
  | list b => exact absurd h (by unfold named; simp [PyData.eqv])
  | tuple b => exact absurd h (by unfold named; simp [PyData.eqv])
  | dict b => exact absurd h (by unfold named; simp [PyData.eqv])
theorem looks_eq {k : PyData} {r : List PyData} : looksOk (.tuple (k :: r)) = if named "say" k then sayOk r else if named "toss" k then tossOk r else if named "look" k then lookOk r else named "ask" k && askOk r := rfl
theorem sayOk_no {r : List PyData} (h : r.length ≠ 1) : sayOk r = false := by
  unfold sayOk
  split
  · exact absurd rfl h
  · rfl
theorem tossOk_no {r : List PyData} (h : r.length ≠ 1) : tossOk r = false := by
  unfold tossOk
  split
  · exact absurd rfl h
  · rfl
theorem lookOk_no {r : List PyData} (h : r.length ≠ 3) : lookOk r = false := by
  unfold lookOk
  split
  · exact absurd rfl h
  · rfl
theorem askOk_no {r : List PyData} (h : r.length ≠ 2) : askOk r = false := by
  unfold askOk
  split
  · exact absurd rfl h
  · rfl
theorem toss_kids {r : List PyData} (h : tossOk r = true) : ∃ xs, r = [.tuple xs] ∧ 1 ≤ xs.length ∧ xs.length ≤ 64 := by
  unfold tossOk at h
  split at h
  · rename_i xs
    rw [Bool.and_eq_true, decide_eq_true_eq, decide_eq_true_eq] at h
    exact ⟨xs, rfl, by omega, by omega⟩
  · cases h
theorem kids_toss {k : PyData} {xs : List PyData} (h : named "toss" k = true) : kidsD (.tuple [k, .tuple xs]) = xs := by
  show (if named "toss" k then xs else _) = xs
  rw [if_pos h]
theorem kids_other {k : PyData} {r : List PyData} (h : named "toss" k = false) : kidsD (.tuple (k :: r)) = r.drop 1 := by
  show (if named "toss" k then _ else r.drop 1) = r.drop 1
  rw [if_neg (by rw [h]; decide)]
theorem kids_gd {n : Nat} {d x : PyData} (h : Gd n d) (hx : x ∈ kidsD d) : Gd n x := by
  unfold kidsD at hx
  split at hx
  · rename_i k r
    obtain ⟨hl, n', rfl, hg⟩ := gd_tup h
    split at hx
    · split at hx
      · rename_i xs _
        have h1 := hg (.tuple xs) (List.mem_cons_of_mem _ List.mem_cons_self)
        obtain ⟨_, m, rfl, h2⟩ := gd_tup h1
        exact gd_le (h2 x hx) (by omega)
      · cases hx
    · exact gd_up (hg x (List.mem_cons_of_mem _ (List.mem_of_mem_drop hx)))
  · cases hx
theorem kids_len {n : Nat} {d : PyData} (h : Gd n d) : (kidsD d).length ≤ 5000 := by
  unfold kidsD
  split
  · rename_i k r
    obtain ⟨hl, n', rfl, hg⟩ := gd_tup h
    split
    · split
      · rename_i xs _
        have h1 := hg (.tuple xs) (List.mem_cons_of_mem _ List.mem_cons_self)
        exact (gd_tup h1).1
      · exact Nat.zero_le _
    · rw [List.length_drop]
      rw [List.length_cons] at hl
      omega
  · exact Nat.zero_le _
theorem sz_pos (n : Nat) (d : PyData) : 1 ≤ szN n d := by
  cases n with
  | zero => exact Nat.le_refl 1
  | succ n =>
    show 1 ≤ 1 + _
    omega
/-! ### the pile of a walk through a breaker: address, value, data, how deep -/
abbrev Ent : Type := Addr × V × PyData × Nat
def good (xs : List Ent) (many : Nat) : Bool := xs.all (fun x => okN (61 - x.2.2.2) x.2.2.1) && decide (many + (xs.map fun x => szN (61 - x.2.2.2) x.2.2.1).sum ≤ 2001)
theorem good_nil {many : Nat} (h : many ≤ 2001) : good [] many = true := by
  show (true && decide (many + 0 ≤ 2001)) = true
  rw [Bool.true_and, decide_eq_true (by omega)]
theorem good_many {xs : List Ent} {x : Ent} {many : Nat} (h : 2001 < many + 1) : good (xs ++ [x]) many = false := by
  unfold good
  rw [List.map_append, List.sum_append]
  have := sz_pos (61 - x.2.2.2) x.2.2.1
  rw [decide_eq_false (show ¬ many + ((xs.map fun x => szN (61 - x.2.2.2) x.2.2.1).sum + ([x].map fun x => szN (61 - x.2.2.2) x.2.2.1).sum) ≤ 2001 by
    rw [List.map_cons, List.sum_cons]
    omega), Bool.and_false]
theorem good_bad {xs : List Ent} {x : Ent} {many : Nat} (h : okN (61 - x.2.2.2) x.2.2.1 = false) : good (xs ++ [x]) many = false := by
  unfold good
  rw [List.all_append, List.all_cons, h, Bool.false_and, Bool.and_false, Bool.false_and]
theorem okN_deep {k : Nat} {d : PyData} (h : 60 < k) : okN (61 - k) d = false := by
  rw [show 61 - k = 0 by omega]
  rfl
theorem okN_looks {k : Nat} {d : PyData} (h : looksOk d = false) : okN k d = false := by
  cases k with
  | zero => rfl
  | succ k =>
    show (looksOk d && _) = false
    rw [h, Bool.false_and]
theorem good_step {xs es : List Ent} {x : Ent} {many : Nat} (hk : x.2.2.2 ≤ 60) (hl : looksOk x.2.2.1 = true) (he : es.map (fun e => e.2.2) = (kidsD x.2.2.1).map fun d => (d, x.2.2.2 + 1)) :
    good (xs ++ [x]) many = good (xs ++ es) (many + 1) := by
  unfold good
  obtain ⟨p, v, d, k⟩ := x
  dsimp only at hk hl he
  have hn : 61 - k = (60 - k) + 1 := by omega
  have e1 : es.all (fun e => okN (61 - e.2.2.2) e.2.2.1) = (kidsD d).all (okN (60 - k)) := by
    have h1 : es.all (fun e => okN (61 - e.2.2.2) e.2.2.1) = (es.map (fun e => e.2.2)).all (fun e => okN (61 - e.2) e.1) := by
      rw [List.all_map]
      rfl
    rw [h1, he, List.all_map]
    have h2 : 61 - (k + 1) = 60 - k := by omega
    show (kidsD d).all (fun d => okN (61 - (k + 1)) d) = _
    rw [h2]
  have e2 : (es.map (fun e => szN (61 - e.2.2.2) e.2.2.1)).sum = ((kidsD d).map (szN (60 - k))).sum := by
    have h1 : es.map (fun e => szN (61 - e.2.2.2) e.2.2.1) = (es.map (fun e => e.2.2)).map (fun e => szN (61 - e.2) e.1) := by
      rw [List.map_map]
      rfl
    rw [h1, he, List.map_map]
    have h2 : 61 - (k + 1) = 60 - k := by omega
    show ((kidsD d).map (fun d => szN (61 - (k + 1)) d)).sum = _
    rw [h2]
  rw [List.all_append, List.all_append, List.map_append, List.map_append, List.sum_append, List.sum_append, e1, e2]
  have e3 : [(p, v, d, k)].all (fun x => okN (61 - x.2.2.2) x.2.2.1) = (kidsD d).all (okN (60 - k)) := by
    show (okN (61 - k) d && true) = _
    rw [Bool.and_true, hn]
    show (looksOk d && _) = _
    rw [hl, Bool.true_and]
  have e4 : ([(p, v, d, k)].map (fun x => szN (61 - x.2.2.2) x.2.2.1)).sum = 1 + ((kidsD d).map (szN (60 - k))).sum := by
    show szN (61 - k) d + 0 = _
    rw [hn]
    rfl
  rw [e3, e4]
  congr 1
  apply decide_eq_decide.mpr
  omega

theorem made_parts {d : PyData} (h : madeD d = true) : ∃ z r, d = .tuple (.str z :: r) ∧ madeZ z = true := by
  unfold madeD at h
  split at h
  · rename_i z r
    exact ⟨z, r, rfl, h⟩
  · cases h
theorem chk_plain {n : Nat} {d : PyData} (h : madeD d = false) : chk n d = plainOk d := by
  unfold chk
  rw [if_neg (by rw [h]; decide)]
theorem chk_zero {d : PyData} (h : madeD d = true) : chk 0 d = false := by
  unfold chk
  rw [if_pos h]
theorem chk_succ {n : Nat} {d : PyData} (h : madeD d = true) : chk (n + 1) d = (fitsD d && (!(headIs "onetime" d && madeD (lastD d)) && chk n (lastD d))) := by
  rw [chk]
  rw [if_pos h]
theorem dps_at_last {K : PySem.W.Frag} {H : Hp} {ws : List V} {xs : List PyData} (h : DpAll K H ws xs) (hne : ws ≠ []) : ∃ vl, atI ws (-1) = some vl ∧ Dp K H vl (lastD (.tuple xs)) ∧ lastD (.tuple xs) ∈ xs := by
  have hl : 0 < ws.length := List.length_pos_iff.mpr hne
  have e1 : ws[ws.length - 1]? = some (ws[ws.length - 1]'(by omega)) := List.getElem?_eq_getElem _
  obtain ⟨d, h1, h2⟩ := dp_all_get h e1
  have e2 : lastD (.tuple xs) = d := by
    show xs.getLastD .none = d
    rw [List.getLastD_eq_getLast?, List.getLast?_eq_getElem?, ← dp_all_len h, h1]
    rfl
  refine ⟨_, ?_, e2 ▸ h2, e2 ▸ List.mem_of_getElem? h1⟩
  unfold atI ixN
  rw [if_neg (by decide), if_pos (by omega)]
  show ws[((-1 : Int) + (ws.length : Int)).toNat]? = _
  rw [show ((-1 : Int) + (ws.length : Int)).toNat = ws.length - 1 by omega]
  exact e1

/-! ### the most asks -/
def askB (d : PyData) : Nat := if headIs "ask" d then 1 else 0
def paN : Nat → PyData → Nat
  | 0, _ => 0
  | n + 1, d => askB d + ((kidsD d).map (paN n)).foldl max 0
def item (i : Nat) : PyData → PyData
  | .tuple xs => xs.getD i .none
  | _ => .none
def intOf : PyData → Int
  | .int i => i
  | _ => 0
/-- how the program counts, so many made ones allowed -/
def progM : Nat → PyData → Int
  | 0, d => if headIs "counter" d then intOf (item 2 d) else if madeD d then 0 else (paN 60 d : Int)
  | n + 1, d => if headIs "marks" d then 1 + progM n (lastD d) else if headIs "secrets" d then progM n (lastD d) else if headIs "counter" d then intOf (item 2 d) else if madeD d then 0 else (paN 60 d : Int)
theorem fold_max (l : List Nat) : ∀ m a : Nat, l.foldl max (max m a) = max (l.foldl max m) a := by
  induction l with
  | nil => intro m a; rfl
  | cons x l ih =>
    intro m a
    rw [List.foldl_cons, List.foldl_cons, show max (max m a) x = max (max m x) a by omega, ih]
theorem fold_add (a : Nat) (l : List Nat) : ∀ b : Nat, a + l.foldl max b = (l.map (a + ·)).foldl max (a + b) := by
  induction l with
  | nil => intro b; rfl
  | cons x l ih =>
    intro b
    rw [List.foldl_cons, List.map_cons, List.foldl_cons, ih, show a + max b x = max (a + b) (a + x) by omega]
theorem fold_pop (most a : Nat) (ys ks : List Nat) : (ys ++ [a + ks.foldl max 0]).foldl max most = (ys ++ ks.map (a + ·)).foldl max (max most a) := by
  rw [List.foldl_append, List.foldl_append, fold_max, List.foldl_cons, List.foldl_nil, fold_add, Nat.add_zero]
  rw [show max (ys.foldl max most) a = max a (ys.foldl max most) by omega, fold_max]
  omega
abbrev Ent2 : Type := Addr × V × PyData × Nat × Nat
def valE (x : Ent2) : Nat := x.2.2.2.1 + paN (61 - x.2.2.2.2) x.2.2.1
def szE (xs : List Ent2) : Nat := (xs.map fun x => szN (61 - x.2.2.2.2) x.2.2.1).sum
theorem szE_app (xs ys : List Ent2) : szE (xs ++ ys) = szE xs + szE ys := by
  unfold szE
  rw [List.map_append, List.sum_append]
theorem szE_len : ∀ xs : List Ent2, xs.length ≤ szE xs
  | [] => Nat.le_refl 0
  | x :: xs => by
    have h1 := szE_len xs
    have h2 := sz_pos (61 - x.2.2.2.2) x.2.2.1
    show xs.length + 1 ≤ szN (61 - x.2.2.2.2) x.2.2.1 + szE xs
    omega
theorem ents_vals {es : List Ent2} {ds : List PyData} {a k : Nat} (h : es.map (fun e => e.2.2) = ds.map fun d => (d, a, k + 1)) : es.map valE = (ds.map (paN (60 - k))).map (a + ·) ∧ szE es = (ds.map (szN (60 - k))).sum := by
  constructor
  · have h1 : es.map valE = (es.map (fun e => e.2.2)).map (fun e => e.2.1 + paN (61 - e.2.2) e.1) := by
      rw [List.map_map]
      rfl
    rw [h1, h, List.map_map, List.map_map]
    have h2 : 61 - (k + 1) = 60 - k := by omega
    show ds.map (fun d => a + paN (61 - (k + 1)) d) = _
    rw [h2]
    rfl
  · unfold szE
    have h1 : es.map (fun x => szN (61 - x.2.2.2.2) x.2.2.1) = (es.map (fun e => e.2.2)).map (fun e => szN (61 - e.2.2) e.1) := by
      rw [List.map_map]
      rfl
    rw [h1, h, List.map_map]
    have h2 : 61 - (k + 1) = 60 - k := by omega
    show (ds.map (fun d => szN (61 - (k + 1)) d)).sum = _
    rw [h2]
theorem okN_kids {k : Nat} {d : PyData} (hk : k ≤ 60) (h : okN (61 - k) d = true) : looksOk d = true ∧ ∀ e ∈ kidsD d, okN (60 - k) e = true := by
  rw [show 61 - k = (60 - k) + 1 by omega] at h
  have h' : (looksOk d && (kidsD d).all (okN (60 - k))) = true := h
  rw [Bool.and_eq_true, List.all_eq_true] at h'
  exact h'
theorem okN_pos {n : Nat} {d : PyData} (h : okN n d = true) : 1 ≤ n := by
  cases n with
  | zero => cases h
  | succ n => omega
theorem looks_head {d : PyData} (h : looksOk d = true) : ∃ k r, d = .tuple (k :: r) := by
  unfold looksOk at h
  split at h
  · exact ⟨_, _, rfl⟩
  · cases h

theorem chk_head {n : Nat} {d : PyData} (h : chk n d = true) : ∃ z r, d = .tuple (.str z :: r) := by
  cases c : madeD d with
  | true =>
    obtain ⟨z, r, rfl, _⟩ := made_parts c
    exact ⟨z, r, rfl⟩
  | false =>
    rw [chk_plain c] at h
    unfold plainOk at h
    rw [Bool.and_eq_true] at h
    have h1 : (looksOk d && _) = true := h.1
    rw [Bool.and_eq_true] at h1
    obtain ⟨k, r, rfl⟩ := looks_head h1.1
    have h2 := h1.1
    rw [looks_eq] at h2
    cases c1 : named "say" k with
    | true => exact ⟨_, r, by rw [named_eq c1]⟩
    | false =>
      rw [c1, if_neg (by decide)] at h2
      cases c2 : named "toss" k with
      | true => exact ⟨_, r, by rw [named_eq c2]⟩
      | false =>
        rw [c2, if_neg (by decide)] at h2
        cases c3 : named "look" k with
        | true => exact ⟨_, r, by rw [named_eq c3]⟩
        | false =>
          rw [c3, if_neg (by decide), Bool.and_eq_true] at h2
          exact ⟨_, r, by rw [named_eq h2.1]⟩
theorem head_str {x z : Str} {r : List PyData} : headIs x (.tuple (.str z :: r)) = decide (z = x) := named_str
/-- one step of the count, at a name -/
theorem progM_marks {n : Nat} {r : List PyData} : progM (n + 1) (.tuple (.str "marks" :: r)) = 1 + progM n (lastD (.tuple (.str "marks" :: r))) := by
  rw [progM, head_str, decide_eq_true rfl, if_pos rfl]
theorem progM_secrets {n : Nat} {r : List PyData} : progM (n + 1) (.tuple (.str "secrets" :: r)) = progM n (lastD (.tuple (.str "secrets" :: r))) := by
  rw [progM, head_str, head_str, decide_eq_false (by decide), decide_eq_true rfl, if_neg (by decide), if_pos rfl]
theorem progM_other {n : Nat} {z : Str} {r : List PyData} (h1 : z ≠ "marks") (h2 : z ≠ "secrets") : progM n (.tuple (.str z :: r)) = if z = "counter" then intOf (item 2 (.tuple (.str z :: r))) else if madeD (.tuple (.str z :: r)) then 0 else (paN 60 (.tuple (.str z :: r)) : Int) := by
  cases n with
  | zero =>
    rw [progM, head_str]
    by_cases c : z = "counter"
    · rw [decide_eq_true c, if_pos c, if_pos rfl]
    · rw [decide_eq_false c, if_neg c, if_neg (by decide)]
  | succ n =>
    rw [progM, head_str, head_str, head_str, decide_eq_false h1, decide_eq_false h2, if_neg (by decide), if_neg (by decide)]
    by_cases c : z = "counter"
    · rw [decide_eq_true c, if_pos c, if_pos rfl]
    · rw [decide_eq_false c, if_neg c, if_neg (by decide)]
theorem made_num {z : Str} {r : List PyData} (h : z ∈ numK) : madeD (.tuple (.str z :: r)) = true := by
  show (decide (z ∈ numK) || decide (z ∈ fitK)) = true
  rw [decide_eq_true h, Bool.true_or]
theorem chk_made {n : Nat} {z : Str} {r : List PyData} (hz : madeD (.tuple (.str z :: r)) = true) (h : chk n (.tuple (.str z :: r)) = true) : ∃ m, n = m + 1 ∧ fitZ z r.dropLast = true ∧ chk m (lastD (.tuple (.str z :: r))) = true := by
  cases n with
  | zero =>
    rw [chk_zero hz] at h
    cases h
  | succ m =>
    rw [chk_succ hz, Bool.and_eq_true, Bool.and_eq_true] at h
    exact ⟨m, rfl, h.1, h.2.2⟩
theorem counter_parts {r : List PyData} (h : fitZ "counter" r.dropLast = true) : ∃ l c m x, r = [.int l, .int c, .int m, x] ∧ 1 ≤ c ∧ c ≤ 256 := by
  have h' : numsOk r.dropLast [(1, 40), (1, 256), (1, 40)] = true := h
  have hl : r.dropLast.length = 3 := by
    by_cases c : r.dropLast.length = [((1 : Int), (40 : Int)), (1, 256), (1, 40)].length
    · exact c
    · rw [nums_len c] at h'
      cases h'
  rw [List.length_dropLast] at hl
  match r, hl with
  | [a, b, c, x], _ =>
    have h2 : (whole a 1 40 && (whole b 1 256 && (whole c 1 40 && true))) = true := h'
    simp only [Bool.and_eq_true] at h2
    obtain ⟨l, rfl, _⟩ := whole_int h2.1
    obtain ⟨c', rfl, c1, c2⟩ := whole_int h2.2.1
    obtain ⟨m, rfl, _⟩ := whole_int h2.2.2.1
    exact ⟨l, c', m, x, rfl, c1, c2⟩

def bsz : Nat → Nat
  | 0 => 0
  | n + 1 => 1 + 3 * bsz n
/-- tuples, texts, whole numbers, none large -/
def Pz : Nat → PyData → Prop
  | 0, d => match d with
    | .int i => i.natAbs < 10 ^ 100
    | .str x => okS 100 x
    | _ => False
  | n + 1, d => match d with
    | .int i => i.natAbs < 10 ^ 100
    | .str x => okS 100 x
    | .tuple xs => xs.length ≤ 100 ∧ ∀ x ∈ xs, Pz n x
    | _ => False
theorem pz_str {n : Nat} {x : Str} : Pz n (.str x) ↔ okS 100 x := by cases n <;> exact Iff.rfl
theorem pz_int {n : Nat} {i : Int} (h : i.natAbs ≤ 5000) : Pz n (.int i) := by
  have h' : i.natAbs < 10 ^ 100 := Nat.lt_of_le_of_lt h (by decide)
  cases n <;> exact h'
theorem pz_pl : ∀ {n : Nat} {d : PyData}, Pz n d → Pl n d
  | 0, .int _, _ => trivial
  | 0, .str _, h => ⟨h.1, Nat.le_trans h.2 (by decide)⟩
  | n + 1, .int _, _ => trivial
  | n + 1, .str _, h => ⟨h.1, Nat.le_trans h.2 (by decide)⟩
  | n + 1, .tuple xs, h => ⟨Nat.le_trans h.1 (by decide), fun x hx => pz_pl (h.2 x hx)⟩
theorem pz_gz : ∀ {n : Nat} {d : PyData}, Pz n d → Gz 100 n d
  | 0, .int _, h => h
  | 0, .str _, h => h
  | n + 1, .int _, h => h
  | n + 1, .str _, h => h
  | n + 1, .tuple xs, h => ⟨h.1, fun x hx => pz_gz (h.2 x hx)⟩
theorem pz_up : ∀ {n : Nat} {d : PyData}, Pz n d → Pz (n + 1) d
  | 0, .int _, h => h
  | 0, .str _, h => h
  | n + 1, .int _, h => h
  | n + 1, .str _, h => h
  | n + 1, .tuple xs, h => ⟨h.1, fun x hx => pz_up (h.2 x hx)⟩
theorem pz_le {n m : Nat} {d : PyData} (h : Pz n d) (hm : n ≤ m) : Pz m d := by
  induction hm with
  | refl => exact h
  | step _ ih => exact pz_up ih
theorem Wf.pz {n m : Nat} {rows : List (List Bool)} (h : Wf n m rows) (hn : n ≤ 4) : Pz 2 (tabD n m rows) := by
  have hp : 2 ^ n ≤ 16 := two_pow_le (b := 4) hn
  have h1 := h.len
  have h2 := h.m2
  refine ⟨(by show 4 ≤ 100; decide), fun x hx => ?_⟩
  rcases List.mem_cons.mp hx with e | hx
  · rw [e]
    exact pz_str.mpr ⟨by decide +kernel, by decide +kernel⟩
  rcases List.mem_cons.mp hx with e | hx
  · rw [e]
    exact pz_int (by omega)
  rcases List.mem_cons.mp hx with e | hx
  · rw [e]
    exact pz_int (by omega)
  · rw [List.mem_singleton.mp hx]
    refine ⟨by rw [List.length_map]; omega, fun y hy => ?_⟩
    obtain ⟨r, hr, rfl⟩ := List.mem_map.mp hy
    refine pz_str.mpr ⟨(okT_sb (by have := h.row r hr; omega)).1, ?_⟩
    rw [sb_len, h.row r hr]
    omega
/-- a plain breaker, so deep and so large at most, on a heap -/
def PG (K : PySem.W.Frag) (G : Hp) (j : Nat) (v : V) : Prop := ∃ D, Dp K G v D ∧ Pz (3 * j) D ∧ okN j D = true ∧ szN j D ≤ bsz j
def PB (K : PySem.W.Frag) (a : Addr) (H : Hp) (j : Nat) (v : V) : Prop := PG K (off a H) j v
theorem PG.same {K : PySem.W.Frag} {G G' : Hp} {j : Nat} {v : V} (h : PG K G j v) (k : Same G G') : PG K G' j v := by
  obtain ⟨D, h1, h2⟩ := h
  exact ⟨D, dp_same k D h1, h2⟩
theorem PB.keep {K : PySem.W.Frag} {a : Addr} {H H' : Hp} {j : Nat} {v : V} (h : PB K a H j v) (k : Keep a H H') : PB K a H' j v := PG.same h k.off
theorem pg_all {K : PySem.W.Frag} {G : Hp} {j : Nat} : ∀ {ws : List V}, (∀ v ∈ ws, PG K G j v) → ∃ ds, DpAll K G ws ds ∧ ∀ x ∈ ds, Pz (3 * j) x ∧ okN j x = true ∧ szN j x ≤ bsz j
  | [], _ => ⟨[], .nil, fun x hx => (nomatch hx)⟩
  | v :: ws, h => by
    obtain ⟨D, h1, h2⟩ := h v List.mem_cons_self
    obtain ⟨ds, g1, g2⟩ := pg_all fun x hx => h x (List.mem_cons_of_mem _ hx)
    refine ⟨D :: ds, .cons h1 g1, fun x hx => ?_⟩
    rcases List.mem_cons.mp hx with e | hx
    · exact e ▸ h2
    · exact g2 x hx
theorem sqt_offL {K : PySem.W.Frag} {L p : Addr} {H : Hp} {xs ys : List V} (e : H L = some (.lst ys)) (s : SqT K H p xs) : SqT K (off L H) p xs := by
  rcases s with (h | ⟨o, h⟩) | h
  · have hp : p ≠ L := fun z => by
      rw [z, e] at h
      cases h
    exact .inl (.inl (by rw [off_ne hp]; exact h))
  · have hp : p ≠ L := fun z => by
      rw [z, e] at h
      cases h
    exact .inl (.inr ⟨o, by rw [off_ne hp]; exact h⟩)
  · exact .inr h
mutual
theorem dp_offL {K : PySem.W.Frag} {L : Addr} {H : Hp} {ys : List V} (e : H L = some (.lst ys)) : ∀ (D : PyData) {n : Nat} {v : V}, Pl n D → Dp K H v D → Dp K (off L H) v D
  | .int _, _, _, _, .int i => .int i
  | .str _, _, _, _, .str x => .str x
  | .tuple xs, _, _, h, .tup hs ha => .tup (sqt_offL e hs) (dps_offL e xs (by
      obtain ⟨_, m, _, hx⟩ := pl_tup h
      exact fun x hx' => ⟨m, hx x hx'⟩) ha)
  | .none, n, _, h, _ => by cases n <;> exact h.elim
  | .bool _, n, _, h, _ => by cases n <;> exact h.elim
  | .list _, n, _, h, _ => by cases n <;> exact h.elim
  | .dict _, n, _, h, _ => by cases n <;> exact h.elim
theorem dps_offL {K : PySem.W.Frag} {L : Addr} {H : Hp} {ys : List V} (e : H L = some (.lst ys)) : ∀ (ds : List PyData) {vs : List V}, (∀ x ∈ ds, ∃ n, Pl n x) → DpAll K H vs ds → DpAll K (off L H) vs ds
  | [], _, _, .nil => .nil
  | d :: ds, _, h, .cons h1 t => by
    obtain ⟨n, hn⟩ := h d List.mem_cons_self
    exact .cons (dp_offL e d hn h1) (dps_offL e ds (fun x hx => h x (List.mem_cons_of_mem _ hx)) t)
end
theorem PG.offL {K : PySem.W.Frag} {G : Hp} {L : Addr} {ys : List V} {j : Nat} {v : V} (h : PG K G j v) (e : G L = some (.lst ys)) : PG K (off L G) j v := by
  obtain ⟨D, h1, h2, h3⟩ := h
  exact ⟨D, dp_offL e D (pz_pl h2) h1, h2, h3⟩
theorem pl_up : ∀ {n : Nat} {d : PyData}, Pl n d → Pl (n + 1) d
  | 0, .int _, h => h
  | 0, .str _, h => h
  | n + 1, .int _, h => h
  | n + 1, .str _, h => h
  | n + 1, .tuple xs, h => ⟨h.1, fun x hx => pl_up (h.2 x hx)⟩
theorem pl_le {n m : Nat} {d : PyData} (h : Pl n d) (hm : n ≤ m) : Pl m d := by
  induction hm with
  | refl => exact h
  | step _ ih => exact pl_up ih
def spParts8 (K : PySem.W.Frag) : Sp := fun vs H Q _ => ∃ (a d : Addr) (len : Nat), vs = [.ref a, .int (len : Int)] ∧ len ≤ 100 ∧ Hnd H a d ∧ ∀ (p : Addr) (ds : List V × List PyData) (H' : Hp), DpAll K (fun _ => none) ds.1 ds.2 → H' p = some (.tup ds.1) → p ≠ a → (∀ x ∈ ds.2, partOk x = true ∧ Pz 0 x) → ds.2.length ≤ 100 → Hnd H' a d → Keep a H H' → Q (.ref p) H'
def spBr (K : PySem.W.Frag) (j : Nat) : Sp := fun vs H Q _ => ∃ (a d : Addr) (dep asks len said : Nat), vs = [.ref a, .int (dep : Int), .int (asks : Int), .int (len : Int), .int (said : Int)] ∧ dep ≤ j ∧ len ≤ 90 ∧ said ≤ 90 ∧ Hnd H a d ∧ ∀ v H', PB K a H' (dep + 1) v → Hnd H' a d → Keep a H H' → Q v H'
def spBrB (K : PySem.W.Frag) (j : Nat) : Sp := fun vs H Q E => 1 ≤ j ∧ spBr K (j - 1) vs H Q E
theorem dps_none {K : PySem.W.Frag} {H : Hp} {vs : List V} {ds : List PyData} (h : DpAll K (fun _ => none) vs ds) : DpAll K H vs ds := dps_same (fun _ _ e => by cases e) ds h
theorem dp_new {K : PySem.W.Frag} {a p : Addr} {H : Hp} {vs : List V} {ds : List PyData} (pa : p ≠ a) (e : H p = some (.tup vs)) (h : DpAll K (off a H) vs ds) : Dp K (off a H) (.ref p) (.tuple ds) := .tup (.inl (.inl (by rw [off_ne pa]; exact e))) h
theorem parts_all {ds : List PyData} (h : ∀ x ∈ ds, partOk x = true ∧ Pz 0 x) : partsOk (.tuple ds) = true := by
  show ds.all partOk = true
  rw [List.all_eq_true]
  exact fun x hx => (h x hx).1
theorem gd_any {n : Nat} {d : PyData} (h : Gd 0 d) : Gd n d := gd_le h (Nat.zero_le _)
theorem pz_parts {ds : List PyData} {n : Nat} (h : ∀ x ∈ ds, partOk x = true ∧ Pz 0 x) (hl : ds.length ≤ 100) : Pz (n + 1) (.tuple ds) := ⟨hl, fun x hx => pz_le (h x hx).2 (Nat.zero_le _)⟩
theorem pz_word {x : Str} (h : PySem.PyData.strOk x = true := by decide +kernel) (h2 : x.length ≤ 100 := by decide +kernel) {n : Nat} : Pz n (.str x) := pz_str.mpr ⟨h, h2⟩
theorem kids_say {r : List PyData} : kidsD (.tuple (.str "say" :: r)) = r.drop 1 := kids_other (by rw [named_str]; decide)
theorem kids_look {r : List PyData} : kidsD (.tuple (.str "look" :: r)) = r.drop 1 := kids_other (by rw [named_str]; decide)
theorem kids_ask {r : List PyData} : kidsD (.tuple (.str "ask" :: r)) = r.drop 1 := kids_other (by rw [named_str]; decide)
theorem looks_say {r : List PyData} : looksOk (.tuple (.str "say" :: r)) = sayOk r := by
  rw [looks_eq, named_str, if_pos (by decide)]
theorem looks_toss {r : List PyData} : looksOk (.tuple (.str "toss" :: r)) = tossOk r := by
  rw [looks_eq, named_str, named_str, if_neg (by decide), if_pos (by decide)]
theorem looks_look {r : List PyData} : looksOk (.tuple (.str "look" :: r)) = lookOk r := by
  rw [looks_eq, named_str, named_str, named_str, if_neg (by decide), if_neg (by decide), if_pos (by decide)]
theorem looks_ask {r : List PyData} : looksOk (.tuple (.str "ask" :: r)) = askOk r := by
  rw [looks_eq, named_str, named_str, named_str, named_str, if_neg (by decide), if_neg (by decide), if_neg (by decide), decide_eq_true rfl, Bool.true_and]
theorem ok_say {j : Nat} {ds : List PyData} (h : partsOk (.tuple ds) = true) : okN (j + 1) (.tuple [.str "say", .tuple ds]) = true ∧ szN (j + 1) (.tuple [.str "say", .tuple ds]) = 1 := by
  constructor
  · show (looksOk _ && (kidsD _).all _) = true
    rw [looks_say, kids_say, show sayOk [.tuple ds] = partsOk (.tuple ds) from rfl, h]
    rfl
  · show 1 + _ = 1
    rw [kids_say]
    rfl
theorem ok_look {j : Nat} {i : Int} {x y : PyData} (h0 : 0 ≤ i) (h1 : i ≤ 9999) (hx : okN j x = true) (hy : okN j y = true) : okN (j + 1) (.tuple [.str "look", .int i, x, y]) = true ∧ szN (j + 1) (.tuple [.str "look", .int i, x, y]) = 1 + (szN j x + szN j y) := by
  constructor
  · show (looksOk _ && (kidsD _).all _) = true
    rw [looks_look, kids_look, show lookOk [.int i, x, y] = (decide (0 ≤ i) && decide (i ≤ 9999)) from rfl, decide_eq_true h0, decide_eq_true h1]
    show (okN j x && (okN j y && true)) = true
    rw [hx, hy]
    rfl
  · show 1 + _ = _
    rw [kids_look]
    show 1 + (szN j x + (szN j y + 0)) = _
    omega
theorem ok_askD {j : Nat} {ds : List PyData} {x : PyData} (h : partsOk (.tuple ds) = true) (hx : okN j x = true) : okN (j + 1) (.tuple [.str "ask", .tuple ds, x]) = true ∧ szN (j + 1) (.tuple [.str "ask", .tuple ds, x]) = 1 + szN j x := by
  constructor
  · show (looksOk _ && (kidsD _).all _) = true
    rw [looks_ask, kids_ask, show askOk [.tuple ds, x] = partsOk (.tuple ds) from rfl, h]
    show (okN j x && true) = true
    rw [hx]
    rfl
  · show 1 + _ = _
    rw [kids_ask]
    show 1 + (szN j x + 0) = _
    omega
theorem ok_toss {j : Nat} {xs : List PyData} (h1 : 1 ≤ xs.length) (h2 : xs.length ≤ 64) (hx : ∀ x ∈ xs, okN j x = true) : okN (j + 1) (.tuple [.str "toss", .tuple xs]) = true ∧ szN (j + 1) (.tuple [.str "toss", .tuple xs]) = 1 + (xs.map (szN j)).sum := by
  have hn : named "toss" (.str "toss") = true := by rw [named_str]; decide
  constructor
  · show (looksOk _ && (kidsD _).all _) = true
    rw [looks_toss, kids_toss hn, show tossOk [.tuple xs] = (decide ((1 : Int) ≤ (xs.length : Int)) && decide ((xs.length : Int) ≤ 64)) from rfl, decide_eq_true (by omega), decide_eq_true (by omega), List.all_eq_true.mpr hx]
    rfl
  · show 1 + _ = _
    rw [kids_toss hn]
theorem sum_le {α : Type} {f : α → Nat} {m : Nat} : ∀ {l : List α}, (∀ x ∈ l, f x ≤ m) → (l.map f).sum ≤ l.length * m
  | [], _ => Nat.zero_le _
  | x :: l, h => by
    rw [List.map_cons, List.sum_cons, List.length_cons, Nat.succ_mul]
    have h1 := h x List.mem_cons_self
    have h2 := sum_le fun y hy => h y (List.mem_cons_of_mem x hy)
    omega

section
variable {P : Program} {w : World} {K : PySem.W.Frag} {mg : Str → Option Value} {base : Heap} {cs : Cs}
theorem ok_lawparts {f : Addr} {fd : FuncData} (D : Df K mg "_law_parts" s_law_parts ["hand", "length"] f fd) (T : Txt K w mg cs) (c_law_take : Cl P w K mg base CX0 1 "_law_take" spTake) : FnOk P w K mg base CX0 2 f fd ["hand", "length"] (spParts8 K) := by
  refine D.fn.ok sc_law_parts (fun vs H Q E h => ?_) (fun cdv A outer s H vs Q E hr h => ?_)
  · obtain ⟨a, d, len, rfl, _⟩ := h
    rfl
  · obtain ⟨a, d, len, rfl, hlen, hh, q⟩ := h
    refine ⟨_, (pss_cons (ps_set (i := 2) sc_law_parts.nd rfl (.inl rfl) (pe_lst pa_nil)) (pss_cons (ps_for PassesOwn.never rfl (pi_range1 (by rfl) T.n_range (pa_cons (pv 1) pa_nil)) (pg_name (i := 3) sc_law_parts.nd rfl (.inl rfl)) (pss_cons (ps_set (i := 4) sc_law_parts.nd rfl (.inl rfl) (pe_cl c_law_take hr (by first | decide | omega) (by rfl) (pa_cons (pv 0) (pa_cons pe_int pa_nil)))) (pss_one (ps_if (pt_cmpR op_lt (pv 4) pe_int (nomark _)) (pss_one (ps_expr (pe_bm PySem.F.plainAttrs_list PySem.F.slot_list_append PySem.F.type_list_append mt_append (pv 2) (pa_cons (pe_ix (ixL K) (pe_lst (pa_cons pe_str (pa_cons pe_str pa_nil))) (pv 4) (fun _ _ => rfl)) pa_nil)))) (pss_one (ps_expr (pe_bm PySem.F.plainAttrs_list PySem.F.slot_list_append PySem.F.type_list_append mt_append (pv 2) (pa_cons (pe_cl c_law_take hr (by first | decide | omega) (by rfl) (pa_cons (pv 0) (pa_cons pe_int pa_nil))) pa_nil)))))))) (pss_one (ps_ret (pe_callTy (tupOf K) (by rfl) T.n_tuple (by decide +kernel) (pa_cons (pv 2) pa_nil)))))), ?_⟩
    refine ⟨Nat.zero_le _, fun L nL => ?_⟩
    have hL := hh.ne nL
    refine ⟨_, rfl, _, rfl, by omega, by omega, for_range (lo := 0) (n := len) (fun i σ H' => ∃ (ws : List V) (ds : List PyData) (y3 y4 : Option V), σ = [some (.ref a), some (.int (len : Int)), some (.ref L), y3, y4] ∧ ws.length = i ∧ DpAll K (fun _ => none) ws ds ∧
      (∀ x ∈ ds, partOk x = true ∧ Pz 0 x) ∧ H' L = some (.lst ws) ∧ Hnd H' a d ∧ Keep a H H') ?_ ?_ ?_⟩
    · exact ⟨[], [], none, none, rfl, rfl, .nil, fun x hx => (nomatch hx), upd_same, hh.new nL, Keep.new nL⟩
    · rintro i σ H' hi ⟨ws, ds, y3, y4, rfl, hl, hA, hx, eL, h1, k1⟩
      refine ⟨_, rfl, a, d, 5, rfl, by decide, h1, fun r H1 l1 u1 n1 kk1 => ?_⟩
      have eL1 := kk1 _ _ eL hL.1
      have hsz : ws.length < sizeLine := Nat.lt_of_lt_of_le (show ws.length < 10000 by omega) (by decide)
      refine ⟨_, rfl, _, _, rfl, rfl, _, rfl, ite2 (fun c => ?_) (fun c => ?_)⟩
      · have hr2 : r < 2 := of_decide_eq_true c
        refine ⟨_, rfl, .inl ⟨rfl, _, .inl (.inl eL1)⟩, ?_⟩
        refine ⟨by decide, fun p np => ?_⟩
        have npL : p ≠ L := (ne_of_none eL1 np).symm
        obtain ⟨z, hz, hzp⟩ : ∃ z : Str, atI [V.str "0", V.str "1"] r = some (V.str z) ∧ (z = "0" ∨ z = "1") := by
          have er : r = 0 ∨ r = 1 := by omega
          rcases er with e | e <;> subst e
          · exact ⟨"0", rfl, .inl rfl⟩
          · exact ⟨"1", rfl, .inr rfl⟩
        refine ⟨_, rfl, p, _, r, .str z, rfl, rfl, .inl (.inl upd_same), hz, L, _, _, rfl, rfl, by rw [upd_ne npL.symm]; exact eL1, hsz, ?_⟩
        refine ⟨ws ++ [.str z], ds ++ [.str z], _, _, rfl, by rw [List.length_append, hl]; rfl, dpAll_snoc hA (.str z), ?_, upd_same, (n1.new np).set hL.1 hL.2, ((k1.trans kk1).trans (Keep.new np)).set nL⟩
        intro x hx'
        rcases List.mem_append.mp hx' with h | h
        · exact hx x h
        · rw [List.mem_singleton.mp h]
          rcases hzp with rfl | rfl <;> exact ⟨by decide, pz_str (n := 0) |>.mpr ⟨by decide +kernel, by decide +kernel⟩⟩
      · refine ⟨_, rfl, .inl ⟨rfl, _, .inl (.inl eL1)⟩, _, rfl, a, d, 9, rfl, by decide, n1, fun r2 H2 l2 u2 n2 kk2 => ⟨L, _, _, rfl, rfl, kk2 _ _ eL1 hL.1, hsz, ?_⟩⟩
        refine ⟨ws ++ [.int r2], ds ++ [.int r2], _, _, rfl, by rw [List.length_append, hl]; rfl, dpAll_snoc hA (.int r2), ?_, upd_same, n2.set hL.1 hL.2, ((k1.trans kk1).trans kk2).set nL⟩
        intro x hx'
        rcases List.mem_append.mp hx' with h | h
        · exact hx x h
        · rw [List.mem_singleton.mp h]
          refine ⟨?_, pz_int (n := 0) (by omega)⟩
          show (decide (0 ≤ r2) && decide (r2 ≤ 9999)) = true
          rw [decide_eq_true l2, decide_eq_true (by omega)]
          rfl
    · rintro σ H' ⟨ws, ds, y3, y4, rfl, hl, hA, hx, eL, h1, k1⟩
      refine ⟨_, rfl, L, _, rfl, .inl ⟨.inl (.inl eL), fun p np => ?_⟩⟩
      have hpa := (h1.ne np).1
      have hdl := dp_all_len hA
      exact q p (ws, ds) _ hA upd_same hpa hx (by show ds.length ≤ 100; omega) (h1.new np) (k1.trans (Keep.new np))
theorem br_say {a d p t : Addr} {H : Hp} {j : Nat} {ws : List V} {ds : List PyData} (pa : p ≠ a) (ta : t ≠ a) (ep : H p = some (.tup [.str "say", .ref t])) (et : H t = some (.tup ws)) (hA : DpAll K (fun _ => none) ws ds) (hx : ∀ x ∈ ds, partOk x = true ∧ Pz 0 x) (hl : ds.length ≤ 100) : PB K a H (j + 1) (.ref p) := by
  have h := ok_say (j := j) (parts_all hx)
  refine ⟨_, dp_new pa ep (.cons (.str _) (.cons (dp_new ta et (dps_none hA)) .nil)), ⟨(by show 2 ≤ 100; decide), fun x hx' => ?_⟩, h.1, ?_⟩
  · rcases List.mem_cons.mp hx' with e | hx'
    · rw [e]
      exact pz_word
    · rw [List.mem_singleton.mp hx']
      exact pz_parts hx hl
  · rw [h.2]
    show 1 ≤ 1 + 3 * bsz j
    omega
theorem br_step {f : Addr} {fd : FuncData} (D : Df K mg "_law_breaker" s_law_breaker ["hand", "depth", "asks", "length", "said"] f fd) (T : Txt K w mg cs) (j : Nat) (c_law_take : Cl P w K mg base CX0 1 "_law_take" spTake) (c_law_parts : Cl P w K mg base CX0 2 "_law_parts" (spParts8 K))
    (c_law_breaker : Cl P w K mg base CX0 (j + 2) "_law_breaker" (spBrB K j)) : FnOk P w K mg base CX0 (j + 3) f fd ["hand", "depth", "asks", "length", "said"] (spBr K j) := by
  refine D.fn.ok sc_law_breaker (fun vs H Q E h => ?_) (fun cdv A outer s H vs Q E hr h => ?_)
  · obtain ⟨a, d, dep, asks, len, said, rfl, _⟩ := h
    rfl
  · obtain ⟨a, d, dep, asks, len, said, rfl, hdep, hlen, hsaid, hh, q⟩ := h
    refine ⟨_, (pss_cons (ps_set (i := 5) sc_law_breaker.nd rfl (.inl rfl) (pe_cl c_law_take hr (by first | decide | omega) (by rfl) (pa_cons (pv 0) (pa_cons pe_int pa_nil)))) (pss_cons (ps_if (PW.pt (pw_or (pt_cmpR op_eq (pv 1) pe_int (nomark _)) (pw_or1 (pt_cmpR op_eq (pv 5) pe_int (nomark _))))) (pss_cons (ps_set (i := 6) sc_law_breaker.nd rfl (.inl rfl) (pv 4)) (C8.pss_cut (ps_if (pt_cmpR op_eq (pe_cl c_law_take hr (by first | decide | omega) (by rfl) (pa_cons (pv 0) (pa_cons pe_int pa_nil))) pe_int (nomark _)) (pss_one (ps_set (i := 6) sc_law_breaker.nd rfl (.inl rfl) (pe_cl c_law_take hr (by first | decide | omega) (by rfl) (pa_cons (pv 0) (pa_cons pe_int pa_nil))))) pss_nil) (pss_one (ps_ret (pe_tup (pa_cons pe_str (pa_cons (pe_cl c_law_parts hr (by first | decide | omega) (by rfl) (pa_cons (pv 0) (pa_cons (pv 6) pa_nil))) pa_nil))))))) pss_nil) (pss_cons (ps_if (PW.pt (pw_or (pt_cmpR op_lt (pv 5) pe_int (nomark _)) (pw_or1 (PW.pt (pw_and (pt_cmpR op_eq (pv 5) pe_int (nomark _)) (pw_and1 (pt_cmpR op_eq (pv 2) pe_int (nomark _)))))))) (pss_cons (ps_set (i := 7) sc_law_breaker.nd rfl (.inl rfl) (pe_cl c_law_breaker hr (by first | decide | omega) (by rfl) (pa_cons (pv 0) (pa_cons (pe_op op_sub (pv 1) pe_int) (pa_cons (pv 2) (pa_cons (pv 3) (pa_cons (pv 4) pa_nil))))))) (pss_one (ps_ret (pe_tup (pa_cons pe_str (pa_cons (pe_cl c_law_take hr (by first | decide | omega) (by rfl) (pa_cons (pv 0) (pa_cons pe_int pa_nil))) (pa_cons (pv 7) (pa_cons (pe_cl c_law_breaker hr (by first | decide | omega) (by rfl) (pa_cons (pv 0) (pa_cons (pe_op op_sub (pv 1) pe_int) (pa_cons (pv 2) (pa_cons (pv 3) (pa_cons (pv 4) pa_nil)))))) pa_nil)))))))) pss_nil) (pss_cons (ps_if (pt_cmpR op_eq (pv 5) pe_int (nomark _)) (pss_cons (ps_set (i := 8) sc_law_breaker.nd rfl (.inl rfl) (pe_op op_add pe_int (pe_cl c_law_take hr (by first | decide | omega) (by rfl) (pa_cons (pv 0) (pa_cons pe_int pa_nil))))) (pss_one (ps_ret (pe_tup (pa_cons pe_str (pa_cons (pe_callTy (tupOf K) (by rfl) T.n_tuple (by decide +kernel) (pa_cons (pe_lc (own := [("k", 9)]) (g := gName 9) (tt := tYes) rfl sc_law_breaker.nd (pi_range1 (by rfl) T.n_range (pa_cons (pv 8) pa_nil)) (blkOk_by (own := [("k", 9)]) (N := ["hand", "depth", "asks", "length", "said", "kind", "size", "first", "many", "k"]) (sc := defScope s_law_breaker) (by decide +kernel)) (fun _ _ _ _ _ => (pg_name (i := 9) sc_law_breaker.nd rfl (.inl rfl))) (fun _ _ _ _ _ => pts_nil) (fun _ _ _ _ _ => (pe_cl c_law_breaker hr (by first | decide | omega) (by rfl) (pa_cons (pv 0) (pa_cons (pe_op op_sub (pv 1) pe_int) (pa_cons (pv 2) (pa_cons (pv 3) (pa_cons (pv 4) pa_nil)))))))) pa_nil)) pa_nil)))))) pss_nil) (pss_cons (ps_if (pt_cmpR op_eq (pv 2) pe_int (nomark _)) (pss_one (ps_ret (pe_tup (pa_cons pe_str (pa_cons (pe_cl c_law_parts hr (by first | decide | omega) (by rfl) (pa_cons (pv 0) (pa_cons (pv 4) pa_nil))) pa_nil))))) pss_nil) (pss_cons (ps_set (i := 6) sc_law_breaker.nd rfl (.inl rfl) (pv 3)) (C8.pss_cut (ps_if (pt_cmpR op_eq (pe_cl c_law_take hr (by first | decide | omega) (by rfl) (pa_cons (pv 0) (pa_cons pe_int pa_nil))) pe_int (nomark _)) (pss_one (ps_set (i := 6) sc_law_breaker.nd rfl (.inl rfl) (pe_cl c_law_take hr (by first | decide | omega) (by rfl) (pa_cons (pv 0) (pa_cons pe_int pa_nil))))) pss_nil) (pss_one (ps_ret (pe_tup (pa_cons pe_str (pa_cons (pe_cl c_law_parts hr (by first | decide | omega) (by rfl) (pa_cons (pv 0) (pa_cons (pv 6) pa_nil))) (pa_cons (pe_cl c_law_breaker hr (by first | decide | omega) (by rfl) (pa_cons (pv 0) (pa_cons (pe_op op_sub (pv 1) pe_int) (pa_cons (pe_op op_sub (pv 2) pe_int) (pa_cons (pv 3) (pa_cons (pv 4) pa_nil)))))) pa_nil))))))))))))), ?_⟩
    refine ⟨_, rfl, a, d, 6, rfl, by decide, hh, fun kind H1 l1 u1 n1 k1 => ?_⟩
    -- a say of so many parts
    have say : ∀ (H2 : Hp) (p : Addr) (dd : List V × List PyData) (H3 : Hp), Keep a H H2 → DpAll K (fun _ => none) dd.1 dd.2 → H3 p = some (.tup dd.1) → p ≠ a → (∀ x ∈ dd.2, partOk x = true ∧ Pz 0 x) → dd.2.length ≤ 100 → Hnd H3 a d → Keep a H2 H3 →
        ∀ p', H3 p' = none → Q (.ref p') (upd H3 p' (.tup [.str "say", .ref p])) := by
      intro H2 p dd H3 k2 hA ep pa hx hl n3 k3 p' np
      have hp' := (n3.ne np).1
      refine q _ _ (br_say (d := d) (t := p) hp' pa upd_same (by rw [upd_ne (ne_of_none ep np)]; exact ep) hA hx hl) (n3.new np) ((k2.trans k3).trans (Keep.new np))
    refine ⟨_, rfl, rfl, _, rfl, ?_⟩
    refine dite (dep = 0) (fun hd0 => ?a1) (fun hd0 => ?b1)
    case' a1 => rw [decide_eq_true (show V.int (dep : Int) = V.int 0 by rw [hd0]; rfl)]
    case' b1 =>
      rw [decide_eq_false (show ¬ V.int (dep : Int) = V.int 0 from fun z => hd0 (by have := V.int.inj z; omega))]
      refine ⟨_, rfl, rfl, _, rfl, ?_⟩
      refine dite (kind = 0) (fun hk0 => ?a2) (fun hk0 => ?b2)
    case' a2 => rw [decide_eq_true (congrArg V.int hk0)]
    case b2 =>
      rw [decide_eq_false (fun z => hk0 (V.int.inj z))]
      obtain ⟨jj, rfl⟩ : ∃ jj, dep = jj + 1 := ⟨dep - 1, by omega⟩
      have rec1 : ((jj + 1 : Nat) : Int) - 1 = (jj : Int) := by omega
      refine ⟨_, rfl, _, _, rfl, rfl, _, rfl, ?_⟩
      refine dite (kind < 3) (fun h3 => ?l1) (fun h3 => ?c1)
      case' l1 => rw [decide_eq_true h3]
      case' c1 =>
        rw [decide_eq_false h3]
        refine ⟨_, rfl, rfl, _, rfl, ?_⟩
        refine dite (kind = 5) (fun h5 => ?c2) (fun h5 => ?r1)
      case' c2 =>
        rw [decide_eq_true (congrArg V.int h5)]
        refine ⟨_, rfl, rfl, _, rfl, ?_⟩
        refine dite (asks = 0) (fun ha0 => ?l2) (fun ha0 => ?r2)
      case' l2 => rw [decide_eq_true (show V.int (asks : Int) = V.int 0 by rw [ha0]; rfl)]
      case' r2 => rw [decide_eq_false (show ¬ V.int (asks : Int) = V.int 0 from fun z => ha0 (by have := V.int.inj z; omega))]
      case' r1 => rw [decide_eq_false (fun z => h5 (V.int.inj z))]
      -- look
      case l1 =>
        refine ⟨_, rfl, _, rfl, _, _, rfl, rfl, _, rfl, _, rfl, _, rfl, by omega, a, d, jj, asks, len, said, ?_, by omega, hlen, hsaid, n1, fun v1 H2 p1 n2 k2 => ?_⟩
        · show [V.ref a, V.int (((jj + 1 : Nat) : Int) - 1), _, _, _] = _
          rw [rec1]
        refine ⟨_, rfl, a, d, 9, rfl, by decide, n2, fun r H3 l3 u3 n3 k3 => ⟨_, rfl, _, rfl, _, rfl, _, _, rfl, rfl, _, rfl, _, rfl, _, rfl, by omega, a, d, jj, asks, len, said, ?_, by omega, hlen, hsaid, n3, fun v2 H4 p2 n4 k4 => ?_⟩⟩
        · show [V.ref a, V.int (((jj + 1 : Nat) : Int) - 1), _, _, _] = _
          rw [rec1]
        refine ⟨(by show 4 ≤ sizeLine; decide), fun p np => ?_⟩
        have pa := (n4.ne np).1
        have g1 := (p1.keep (k3.trans k4)).keep (Keep.new (o := .tup [.str "look", .int r, v1, v2]) np)
        have g2 := p2.keep (Keep.new (o := .tup [.str "look", .int r, v1, v2]) np)
        refine q _ _ ?_ (n4.new np) ((((k1.trans k2).trans k3).trans k4).trans (Keep.new np))
        obtain ⟨D1, a1, b1, c1, e1⟩ := g1
        obtain ⟨D2, a2, b2, c2, e2⟩ := g2
        have hk := ok_look (i := r) (by omega) (by omega) c1 c2
        refine ⟨_, dp_new pa upd_same (.cons (.str _) (.cons (.int _) (.cons a1 (.cons a2 .nil)))), ⟨(by show 4 ≤ 100; decide), fun x hx => ?_⟩, hk.1, ?_⟩
        · rcases List.mem_cons.mp hx with e | hx
          · exact e ▸ pz_word
          rcases List.mem_cons.mp hx with e | hx
          · (rw [e]; exact pz_int (by omega))
          rcases List.mem_cons.mp hx with e | hx
          · exact e ▸ pz_le b1 (by show 3 * (jj + 1) ≤ 3 * (jj + 1) + 2; omega)
          · rw [List.mem_singleton.mp hx]
            exact pz_le b2 (by show 3 * (jj + 1) ≤ 3 * (jj + 1) + 2; omega)
        · rw [hk.2]
          show _ ≤ 1 + 3 * bsz (jj + 1)
          omega
      case l2 =>
        refine ⟨_, rfl, _, rfl, _, _, rfl, rfl, _, rfl, _, rfl, _, rfl, by omega, a, d, jj, asks, len, said, ?_, by omega, hlen, hsaid, n1, fun v1 H2 p1 n2 k2 => ?_⟩
        · show [V.ref a, V.int (((jj + 1 : Nat) : Int) - 1), _, _, _] = _
          rw [rec1]
        refine ⟨_, rfl, a, d, 9, rfl, by decide, n2, fun r H3 l3 u3 n3 k3 => ⟨_, rfl, _, rfl, _, rfl, _, _, rfl, rfl, _, rfl, _, rfl, _, rfl, by omega, a, d, jj, asks, len, said, ?_, by omega, hlen, hsaid, n3, fun v2 H4 p2 n4 k4 => ?_⟩⟩
        · show [V.ref a, V.int (((jj + 1 : Nat) : Int) - 1), _, _, _] = _
          rw [rec1]
        refine ⟨(by show 4 ≤ sizeLine; decide), fun p np => ?_⟩
        have pa := (n4.ne np).1
        have g1 := (p1.keep (k3.trans k4)).keep (Keep.new (o := .tup [.str "look", .int r, v1, v2]) np)
        have g2 := p2.keep (Keep.new (o := .tup [.str "look", .int r, v1, v2]) np)
        refine q _ _ ?_ (n4.new np) ((((k1.trans k2).trans k3).trans k4).trans (Keep.new np))
        obtain ⟨D1, a1, b1, c1, e1⟩ := g1
        obtain ⟨D2, a2, b2, c2, e2⟩ := g2
        have hk := ok_look (i := r) (by omega) (by omega) c1 c2
        refine ⟨_, dp_new pa upd_same (.cons (.str _) (.cons (.int _) (.cons a1 (.cons a2 .nil)))), ⟨(by show 4 ≤ 100; decide), fun x hx => ?_⟩, hk.1, ?_⟩
        · rcases List.mem_cons.mp hx with e | hx
          · exact e ▸ pz_word
          rcases List.mem_cons.mp hx with e | hx
          · (rw [e]; exact pz_int (by omega))
          rcases List.mem_cons.mp hx with e | hx
          · exact e ▸ pz_le b1 (by show 3 * (jj + 1) ≤ 3 * (jj + 1) + 2; omega)
          · rw [List.mem_singleton.mp hx]
            exact pz_le b2 (by show 3 * (jj + 1) ≤ 3 * (jj + 1) + 2; omega)
        · rw [hk.2]
          show _ ≤ 1 + 3 * bsz (jj + 1)
          omega
      -- the rest
      all_goals
        refine ⟨_, rfl, rfl, _, rfl, ?_⟩
        by_cases hk3 : kind = 3
        · rw [decide_eq_true (congrArg V.int hk3)]
          refine ⟨_, rfl, a, d, 3, rfl, by decide, n1, fun r H2 l2 u2 n2 k2 => ⟨_, _, rfl, rfl, ?_⟩⟩
          obtain ⟨many, em, m1, m2⟩ : ∃ n : Nat, (1 : Int) + r = (n : Int) ∧ 1 ≤ n ∧ n ≤ 3 := ⟨(1 + r).toNat, by omega, by omega, by omega⟩
          show gName 8 (V.int (1 + r)) _ _ _
          rw [em]
          refine ⟨_, rfl, _, rfl, by omega, by omega, fun Dl hD => ?_⟩
          obtain ⟨nDa, nDd⟩ := n2.ne hD
          have k12 := k1.trans k2
          have hDo := k12.free hD nDa
          refine lc_range (lo := 0) (n := many) (fun i H' => ∃ ws : List V, ws.length = i ∧ (∀ v ∈ ws, PG K (off Dl (off a H')) (jj + 1) v) ∧ Hnd H' a d ∧ Keep a H H' ∧ H' Dl = some (.lst ws)) ?_ ?_ ?_
          · exact ⟨[], rfl, fun v hv => (nomatch hv), n2.new hD, k12.trans (Keep.new hD), upd_same⟩
          · rintro i H' hi ⟨ws, hl, hw, g1, g2, g3⟩
            refine ⟨rfl, ?_⟩
            refine ⟨_, rfl, _, rfl, _, _, rfl, rfl, _, rfl, _, rfl, _, rfl, by omega, a, d, jj, asks, len, said, ?_, by omega, hlen, hsaid, g1, fun v1 H3 p1 n3 k3 => ⟨_, k3 _ _ g3 nDa, ?_, ?_⟩⟩
            · show [V.ref a, V.int (((jj + 1 : Nat) : Int) - 1), _, _, _] = _
              rw [rec1]
            · exact Nat.lt_of_lt_of_le (show ws.length < 10000 by omega) (by decide)
            · refine ⟨ws ++ [v1], by rw [List.length_append, hl]; rfl, fun x hx => ?_, n3.set nDa nDd, (g2.trans k3).set hDo, upd_same⟩
              rw [off_upd]
              rcases List.mem_append.mp hx with h | h
              · exact (hw x h).same (off_mono k3.off)
              · rw [List.mem_singleton.mp h]
                refine PG.offL (ys := ws) p1 ?_
                rw [off_ne nDa]
                exact k3 _ _ g3 nDa
          · rintro H' ⟨ws, hl, hw, g1, g2, g3⟩
            refine ⟨Dl, _, rfl, .inl ⟨.inl (.inl g3), fun t nt => ⟨(by show 2 ≤ sizeLine; decide), fun p np => ?_⟩⟩⟩
            have h1' := g1.new (o := .tup ws) nt
            have ta := (g1.ne nt).1
            have pa := (h1'.ne np).1
            have kk : Keep a H' (upd (upd H' t (.tup ws)) p (.tup [.str "toss", .ref t])) := (Keep.new nt).trans (Keep.new np)
            refine q _ _ ?_ (h1'.new np) (g2.trans kk)
            obtain ⟨ds, hA, hx⟩ := pg_all fun v hv => (hw v hv).same fun b o e => kk.off b o (off_same Dl _ b o e)
            have hwl := dp_all_len hA
            have hlen2 : ws.length = many := hl
            have hk := ok_toss (j := jj + 1) (xs := ds) (by omega) (by omega) (fun x h => (hx x h).2.1)
            have et : upd (upd H' t (.tup ws)) p (.tup [.str "toss", .ref t]) t = some (.tup ws) := by
              rw [upd_ne (ne_of_none upd_same np)]
              exact upd_same
            refine ⟨_, dp_new pa upd_same (.cons (.str _) (.cons (dp_new ta et hA) .nil)), ⟨(by show 2 ≤ 100; decide), fun x hx' => ?_⟩, hk.1, ?_⟩
            · rcases List.mem_cons.mp hx' with e | hx'
              · exact e ▸ pz_word
              · rw [List.mem_singleton.mp hx']
                exact ⟨by omega, fun y hy => pz_le (hx y hy).1 (by show 3 * (jj + 1) ≤ 3 * (jj + 1) + 1; omega)⟩
            · rw [hk.2]
              have := sum_le (f := szN (jj + 1)) (m := bsz (jj + 1)) fun x h => (hx x h).2.2
              have h3 : ds.length * bsz (jj + 1) ≤ 3 * bsz (jj + 1) := Nat.mul_le_mul_right _ (by omega)
              show _ ≤ 1 + 3 * bsz (jj + 1)
              omega
        · rw [decide_eq_false (fun z => hk3 (V.int.inj z))]
          refine ⟨_, rfl, rfl, _, rfl, ?_⟩
          by_cases ha : asks = 0
          · rw [decide_eq_true (show V.int (asks : Int) = V.int 0 by rw [ha]; rfl)]
            exact ⟨_, rfl, _, rfl, a, d, said, rfl, by omega, n1, fun p ds H3 hA ep pa hx hl n3 k3 => ⟨(by show 2 ≤ sizeLine; decide), fun p' np => say H1 p ds H3 k1 hA ep pa hx hl n3 k3 p' np⟩⟩
          · rw [decide_eq_false (show ¬ V.int (asks : Int) = V.int 0 from fun z => ha (by have := V.int.inj z; omega))]
            refine ⟨_, rfl, ?_⟩
            refine ⟨fun σ2 H2 => ∃ sz : Nat, σ2 = [some (.ref a), some (.int ((jj + 1 : Nat) : Int)), some (.int (asks : Int)), some (.int (len : Int)), some (.int (said : Int)), some (.int kind), some (.int (sz : Int)), none, none, none] ∧ sz ≤ 90 ∧ Hnd H2 a d ∧ Keep a H H2, ?_, ?_⟩
            · refine ⟨_, rfl, a, d, 9, rfl, by decide, n1, fun r H2 l2 u2 n2 k2 => ⟨rfl, _, rfl, ?_⟩⟩
              by_cases c : r = 0
              · rw [decide_eq_true (congrArg V.int c)]
                refine ⟨_, rfl, a, d, 4, rfl, by decide, n2, fun r2 H3 l3 u3 n3 k3 => ⟨r2.toNat, ?_, by omega, n3, (k1.trans k2).trans k3⟩⟩
                have e : r2 = ((r2.toNat : Nat) : Int) := by omega
                show [_, _, _, _, _, _, some (V.int r2), _, _, _] = _
                rw [← e]
              · rw [decide_eq_false (fun z => c (V.int.inj z))]
                exact ⟨len, rfl, hlen, n2, k1.trans k2⟩
            · rintro σ2 H2 ⟨sz, rfl, hsz, n2, k2⟩
              refine ⟨_, rfl, _, rfl, a, d, sz, rfl, by omega, n2, fun p ds H3 hA ep pa hx hl n3 k3 => ?_⟩
              obtain ⟨as', ea⟩ : ∃ k, asks = k + 1 := ⟨asks - 1, by omega⟩
              subst ea
              refine ⟨_, rfl, _, rfl, _, _, rfl, rfl, _, rfl, _, _, rfl, rfl, _, rfl, _, rfl, by omega, a, d, jj, as', len, said, ?_, by omega, hlen, hsaid, n3, fun v1 H4 p1 n4 k4 => ?_⟩
              · show [V.ref a, V.int (((jj + 1 : Nat) : Int) - 1), V.int (((as' + 1 : Nat) : Int) - 1), _, _] = _
                rw [rec1, show ((as' + 1 : Nat) : Int) - 1 = (as' : Int) by omega]
              refine ⟨(by show 3 ≤ sizeLine; decide), fun p' np => ?_⟩
              have pa' := (n4.ne np).1
              have ep4 := k4 _ _ ep pa
              obtain ⟨D1, a1, b1, c1, e1⟩ := p1.keep (Keep.new (o := .tup [.str "ask", .ref p, v1]) np)
              have hk := ok_askD (j := jj + 1) (parts_all hx) c1
              refine q _ _ ?_ (n4.new np) (((k2.trans k3).trans k4).trans (Keep.new np))
              refine ⟨_, dp_new pa' upd_same (.cons (.str _) (.cons (dp_new pa (by rw [upd_ne (ne_of_none ep4 np)]; exact ep4) (dps_none hA)) (.cons a1 .nil))), ⟨(by show 3 ≤ 100; decide), fun x hx' => ?_⟩, hk.1, ?_⟩
              · rcases List.mem_cons.mp hx' with e | hx'
                · exact e ▸ pz_word
                rcases List.mem_cons.mp hx' with e | hx'
                · exact e ▸ pz_parts hx hl
                · rw [List.mem_singleton.mp hx']
                  exact pz_le b1 (by show 3 * (jj + 1) ≤ 3 * (jj + 1) + 2; omega)
              · rw [hk.2]
                show _ ≤ 1 + 3 * bsz (jj + 1)
                omega
    -- say
    all_goals
      refine ⟨_, rfl, ?_⟩
      refine ⟨fun σ2 H2 => ∃ sz : Nat, σ2 = [some (.ref a), some (.int (dep : Int)), some (.int (asks : Int)), some (.int (len : Int)), some (.int (said : Int)), some (.int kind), some (.int (sz : Int)), none, none, none] ∧ sz ≤ 90 ∧ Hnd H2 a d ∧ Keep a H H2, ?_, ?_⟩
      · refine ⟨_, rfl, a, d, 9, rfl, by decide, n1, fun r H2 l2 u2 n2 k2 => ⟨rfl, _, rfl, ?_⟩⟩
        by_cases c : r = 0
        · rw [decide_eq_true (congrArg V.int c)]
          refine ⟨_, rfl, a, d, 4, rfl, by decide, n2, fun r2 H3 l3 u3 n3 k3 => ⟨r2.toNat, ?_, by omega, n3, (k1.trans k2).trans k3⟩⟩
          have e : r2 = ((r2.toNat : Nat) : Int) := by omega
          show [_, _, _, _, _, _, some (V.int r2), _, _, _] = _
          rw [← e]
        · rw [decide_eq_false (fun z => c (V.int.inj z))]
          exact ⟨said, rfl, hsaid, n2, k1.trans k2⟩
      · rintro σ2 H2 ⟨sz, rfl, hsz, n2, k2⟩
        exact ⟨_, rfl, _, rfl, a, d, sz, rfl, by omega, n2, fun p ds H3 hA ep pa hx hl n3 k3 => ⟨(by show 2 ≤ sizeLine; decide), fun p' np => say H2 p ds H3 k2 hA ep pa hx hl n3 k3 p' np⟩⟩
theorem no_br {f : Addr} {fd : FuncData} (k : Nat) : FnOk P w K mg base CX0 k f fd ["hand", "depth", "asks", "length", "said"] (spBrB K 0) :=
  ⟨fun _ _ _ _ h => absurd h.1 (by decide), fun _ _ _ _ _ _ _ _ _ _ _ _ _ h => absurd h.1 (by decide)⟩
theorem ok_br {f : Addr} {fd : FuncData} (D : Df K mg "_law_breaker" s_law_breaker ["hand", "depth", "asks", "length", "said"] f fd) (T : Txt K w mg cs) (c_law_take : Cl P w K mg base CX0 1 "_law_take" spTake) (c_law_parts : Cl P w K mg base CX0 2 "_law_parts" (spParts8 K)) :
    ∀ j : Nat, FnOk P w K mg base CX0 (j + 3) f fd ["hand", "depth", "asks", "length", "said"] (spBr K j)
  | 0 => br_step D T 0 c_law_take c_law_parts (D.cl (no_br _))
  | j + 1 => br_step D T (j + 1) c_law_take c_law_parts (D.cl ((ok_br D T c_law_take c_law_parts j).imp fun _ _ _ _ h => h.2))

theorem map_int_set (rs : List Int) (j : Nat) (x : Int) : (rs.map V.int).set j (.int x) = (rs.set j x).map V.int := by
  rw [List.map_set]
theorem at_int {rs : List Int} {j : Nat} {z : Int} (h : rs[j]? = some z) : atI (rs.map V.int) ((j : Nat) : Int) = some (.int z) := atI_nat (by
  rw [List.getElem?_map, h]
  rfl)
theorem ok_draws {f : Addr} {fd : FuncData} (D : Df K mg "_law_draws" s_law_draws ["script", "many"] f fd) (T : Txt K w mg cs) : FnOk P w K mg base CX0 1 f fd ["script", "many"] (spDraws K) := by
  refine D.fn.ok sc_law_draws (fun vs H Q E h => ?_) (fun cdv A outer s H vs Q E hr h => ?_)
  · obtain ⟨a, ns, many, rfl, _⟩ := h
    rfl
  · obtain ⟨a, ns, many, rfl, hS, hl, hm, q⟩ := h
    refine ⟨_, (pss_cons (ps_setLc (i := 2) (own := [("cell", 5)]) (g := gName 5) (tt := tYes) rfl sc_law_draws.nd rfl rfl (sw_true rfl rfl rfl (by decide +kernel)) (pi_list (pv 0)) (blkOk_by (own := [("cell", 5)]) (N := ["script", "many", "rests", "draws", "k", "cell", "at", "mixed"]) (sc := defScope s_law_draws) (by decide +kernel)) (fun _ _ _ _ _ => (pg_name (i := 5) sc_law_draws.nd rfl (.inl rfl))) (fun _ _ _ _ _ => pts_nil) (fun _ _ _ _ _ => (pe_callB call_abs (by rfl) T.n_abs (by decide +kernel) (pa_cons (pe_callTy call_int1 (by rfl) T.n_int (by decide +kernel) (pa_cons (pv 5) pa_nil)) pa_nil)))) (pss_cons (ps_set (i := 3) sc_law_draws.nd rfl (.inl rfl) (pe_lst pa_nil)) (pss_cons (ps_for PassesOwn.never rfl (pi_range1 (by rfl) T.n_range (pa_cons (pv 1) pa_nil)) (pg_name (i := 4) sc_law_draws.nd rfl (.inl rfl)) (pss_cons (ps_set (i := 5) sc_law_draws.nd rfl (.inl rfl) (pv 4)) (C8.pss_cut (ps_if (pt_cmpR op_gt (pe_callB (lenS K) (by rfl) T.n_len (by decide +kernel) (pa_cons (pv 0) pa_nil)) pe_int (nomark _)) (pss_cons (ps_set (i := 6) sc_law_draws.nd rfl (.inl rfl) (pe_op op_mod (pv 4) (pe_callB (lenS K) (by rfl) T.n_len (by decide +kernel) (pa_cons (pv 0) pa_nil)))) (pss_cons (ps_set (i := 5) sc_law_draws.nd rfl (.inl rfl) (pe_callTy call_int1 (by rfl) T.n_int (by decide +kernel) (pa_cons (pe_ix (ixL K) (pv 0) (pv 6) (fun _ _ => rfl)) pa_nil))) (pss_one (ps_if (PW.pt (pw_and (pt_cmpR op_ge (pv 5) (pe_op op_pow pe_int pe_int) (nomark _)) (pw_and1 (pt_cmpR op_gt (pe_ix (ixL K) (pv 2) (pv 6) (fun _ _ => rfl)) pe_int (nomark _))))) (pss_cons (ps_expr (pe_bm PySem.F.plainAttrs_list PySem.F.slot_list_append PySem.F.type_list_append mt_append (pv 3) (pa_cons (pe_op op_mod (pe_callTy call_int1 (by rfl) T.n_int (by decide +kernel) (pa_cons (pe_ix (ixL K) (pv 2) (pv 6) (fun _ _ => rfl)) pa_nil)) pe_int) pa_nil))) (pss_cons (ps_asg (pe_op op_fdiv (pe_callTy call_int1 (by rfl) T.n_int (by decide +kernel) (pa_cons (pe_ix (ixL K) (pv 2) (pv 6) (fun _ _ => rfl)) pa_nil)) pe_int) (pg_sub (pv 2) (pv 6) set_list)) (pss_one ps_continue))) pss_nil)))) pss_nil) (pss_cons (ps_set (i := 7) sc_law_draws.nd rfl (.inl rfl) (pe_op op_mod (pe_callTy call_int1 (by rfl) T.n_int (by decide +kernel) (pa_cons (pe_op op_add (pe_op op_add (pe_op op_mul (pv 5) pe_int) (pe_op op_mul (pv 4) pe_int)) pe_int) pa_nil)) pe_int)) (pss_cons (ps_set (i := 7) sc_law_draws.nd rfl (.inl rfl) (pe_op op_mod (pe_callTy call_int1 (by rfl) T.n_int (by decide +kernel) (pa_cons (pe_op op_add (pe_op op_fdiv (pe_op op_mul (pv 7) (pv 7)) pe_int) (pv 7)) pa_nil)) pe_int)) (pss_one (ps_expr (pe_bm PySem.F.plainAttrs_list PySem.F.slot_list_append PySem.F.type_list_append mt_append (pv 3) (pa_cons (pe_op op_mod (pe_callTy call_int1 (by rfl) T.n_int (by decide +kernel) (pa_cons (pe_op op_add (pe_op op_fdiv (pe_op op_mul (pv 7) (pv 7)) pe_int) (pe_op op_mul (pv 4) pe_int)) pa_nil)) pe_int) pa_nil))))))))) (pss_one (ps_ret (pv 3)))))), ?_⟩
    -- rests
    refine ⟨_, rfl, a, rfl, ⟨_, hS⟩, fun R hR => ?_⟩
    refine lc_list (xs := ns.map V.int) (fun i H' => ∃ rs : List Int, rs.length = i ∧ (∀ x ∈ rs, 0 ≤ x) ∧ Same H H' ∧ H' R = some (.lst (rs.map V.int))) ?_ ?_ ?_ ?_
    · exact ⟨[], rfl, fun x hx => (nomatch hx), same_new hR, upd_same⟩
    · rintro i H' _ ⟨rs, _, _, hs, _⟩
      exact hs.seq hS
    · rintro i x H' hx ⟨rs, hn, h0, hs, hr'⟩
      obtain ⟨z, hz⟩ : ∃ z, x = V.int z := by
        rw [List.getElem?_map] at hx
        cases e : ns[i]? with
        | none =>
          rw [e] at hx
          cases hx
        | some z =>
          rw [e] at hx
          exact ⟨z, (Option.some.inj hx).symm⟩
      subst hz
      have hi : i < ns.length := by
        have := (List.getElem?_eq_some_iff.mp hx).1
        rw [List.length_map] at this
        exact this
      refine ⟨rfl, ?_⟩
      refine ⟨_, rfl, .inl ⟨_, rfl, _, rfl, _, hr', ?_, ?_⟩⟩
      · rw [List.length_map]
        exact small1000 (by omega)
      · refine ⟨rs ++ [if z < 0 then -z else z], by rw [List.length_append, hn]; rfl, ?_, ?_, ?_⟩
        · intro y hy
          rcases List.mem_append.mp hy with hy | hy
          · exact h0 y hy
          · rw [List.mem_singleton.mp hy]
            split <;> omega
        · intro b o e
          rw [upd_ne (ne_of_none e hR)]
          exact hs b o e
        · rw [upd_same, List.map_append]
          rfl
    · rintro H1 ⟨rs, hn, h0, s1, e1⟩
      rw [List.length_map] at hn
      -- draws = []
      refine ⟨Nat.zero_le _, fun L hL => ?_⟩
      have nRL : R ≠ L := ne_of_none e1 hL
      have hL0 : H L = none := s1.free hL
      -- the loop
      refine ⟨_, rfl, _, rfl, by omega, by omega, for_range (lo := 0) (n := many) (fun i σ H' => ∃ (rs ds : List Int) (y4 y5 y6 y7 : Option V), σ = [some (.ref a), some (.int (many : Int)), some (.ref R), some (.ref L), y4, y5, y6, y7] ∧
        rs.length = ns.length ∧ (∀ x ∈ rs, 0 ≤ x) ∧ ds.length = i ∧ (∀ x ∈ ds, 0 ≤ x) ∧ Same H H' ∧ H' R = some (.lst (rs.map V.int)) ∧ H' L = some (.lst (ds.map V.int))) ?_ ?_ ?_⟩
      · refine ⟨rs, [], none, none, none, none, rfl, hn, h0, rfl, fun x hx => (nomatch hx), s1.trans (same_new hL), ?_, upd_same⟩
        rw [upd_ne nRL]
        exact e1
      · clear e1 hn h0 rs s1 hL
        rintro i σ H' hi ⟨rs, ds, y4, y5, y6, y7, rfl, hn, h0, hd, hd0, s1, e1, e2⟩
        have hSL : SqL K H' a (ns.map V.int) := s1.seq hS
        -- what the rest of the turn asks: a number is put behind the draws
        have put : ∀ (x : Int) (σ' : L2.St) (H2 : Hp) (rs' : List Int), 0 ≤ x → rs'.length = ns.length → (∀ x ∈ rs', 0 ≤ x) → Same H H2 → H2 R = some (.lst (rs'.map V.int)) → H2 L = some (.lst ((ds ++ [x]).map V.int)) →
            (∃ y4 y5 y6 y7 : Option V, σ' = [some (.ref a), some (.int (many : Int)), some (.ref R), some (.ref L), y4, y5, y6, y7]) →
            (fun (i : Nat) (σ : L2.St) (H' : Hp) => ∃ (rs ds : List Int) (y4 y5 y6 y7 : Option V), σ = [some (.ref a), some (.int (many : Int)), some (.ref R), some (.ref L), y4, y5, y6, y7] ∧
              rs.length = ns.length ∧ (∀ x ∈ rs, 0 ≤ x) ∧ ds.length = i ∧ (∀ x ∈ ds, 0 ≤ x) ∧ Same H H' ∧ H' R = some (.lst (rs.map V.int)) ∧ H' L = some (.lst (ds.map V.int))) (i + 1) σ' H2 := by
          rintro x σ' H2 rs' hx g1 g2 g3 g4 g5 ⟨z4, z5, z6, z7, rfl⟩
          refine ⟨rs', ds ++ [x], z4, z5, z6, z7, rfl, g1, g2, by rw [List.length_append, hd]; rfl, ?_, g3, g4, g5⟩
          intro y hy
          rcases List.mem_append.mp hy with hy | hy
          · exact hd0 y hy
          · rw [List.mem_singleton.mp hy]
            exact hx
        have app : ∀ (x : Int), upd H' L (.lst (ds.map V.int ++ [.int x])) R = some (.lst (rs.map V.int)) ∧ Same H (upd H' L (.lst (ds.map V.int ++ [.int x]))) ∧ upd H' L (.lst (ds.map V.int ++ [.int x])) L = some (.lst ((ds ++ [x]).map V.int)) := by
          intro x
          refine ⟨by rw [upd_ne nRL]; exact e1, fun b u e => ?_, ?_⟩
          · rw [upd_ne (ne_of_none e hL0)]
            exact s1 b u e
          · rw [upd_same, List.map_append]
            rfl
        have hsz : (ds.map V.int).length < sizeLine := by
          rw [List.length_map]
          exact Nat.lt_of_lt_of_le (show ds.length < 10000 by omega) (by decide)
        -- cell = k
        refine ⟨_, rfl, ?_⟩
        refine ⟨fun σ2 H2 => H2 = H' ∧ ∃ (c : Int) (y6 : Option V), σ2 = [some (.ref a), some (.int (many : Int)), some (.ref R), some (.ref L), some (.int (0 + (i : Int))), some (.int c), y6, y7], ?_, ?_⟩
        · -- if len(script) > 0
          refine ⟨_, rfl, a, _, rfl, .inl hSL, _, _, rfl, rfl, _, rfl, ite2 (fun c => ?_) (fun c => ?_)⟩
          · have hp : 0 < ns.length := by
              have c' : (0 : Int) < (((ns.map V.int).length : Nat) : Int) := of_decide_eq_true c
              rw [List.length_map] at c'
              omega
            -- at = k % len(script)
            refine ⟨_, rfl, _, rfl, a, _, rfl, .inl hSL, _, _, rfl, rfl, ?_, ?_⟩
            · rw [List.length_map]
              omega
            · obtain ⟨j, hj, hjl⟩ : ∃ j : Nat, (0 + (i : Int)) % (((ns.map V.int).length : Nat) : Int) = (j : Int) ∧ j < ns.length := by
                rw [List.length_map]
                have h1 := Int.emod_nonneg (0 + (i : Int)) (b := (ns.length : Int)) (by omega)
                have h2 := Int.emod_lt_of_pos (0 + (i : Int)) (b := (ns.length : Int)) (by omega)
                exact ⟨((0 + (i : Int)) % (ns.length : Int)).toNat, by omega, by omega⟩
              show gName 6 (V.int ((0 + (i : Int)) % (((ns.map V.int).length : Nat) : Int))) _ _ _
              rw [hj]
              have hx : (ns.map V.int)[j]? = some (.int ns[j]) := by
                rw [List.getElem?_map, List.getElem?_eq_getElem hjl]
                rfl
              have hjr : j < rs.length := by omega
              have hy : (rs.map V.int)[j]? = some (.int rs[j]) := by
                rw [List.getElem?_map, List.getElem?_eq_getElem hjr]
                rfl
              -- cell = int(script[at])
              refine ⟨_, rfl, _, rfl, a, _, (j : Int), _, rfl, rfl, hSL, atI_nat hx, .inl ⟨_, rfl, ?_⟩⟩
              -- if cell >= 10 ** 18 and rests[at] > 0
              refine ⟨_, rfl, _, _, rfl, rfl, ⟨by decide, by decide, by decide⟩, _, _, rfl, rfl, _, rfl, ite2 (fun c => ?_) (fun c => ?_)⟩
              · refine ⟨_, rfl, _, rfl, R, _, (j : Int), _, rfl, rfl, .inl (.inl e1), atI_nat hy, _, _, rfl, rfl, _, rfl, ite2 (fun c => ?_) (fun c => ?_)⟩
                · have hr0 : 0 ≤ rs[j] := h0 _ (List.getElem_mem hjr)
                  -- draws.append(int(rests[at]) % 1000003)
                  refine ⟨_, rfl, .inl ⟨rfl, _, .inl (.inl e2)⟩, _, rfl, _, rfl, R, _, (j : Int), _, rfl, rfl, .inl (.inl e1), atI_nat hy, .inl ⟨_, rfl, _, _, rfl, rfl, (by show (0 : Int) < 1000003; decide), L, _, _, rfl, rfl, e2, hsz, ?_⟩⟩
                  obtain ⟨p1, p2, p3⟩ := app (rs[j] % 1000003)
                  -- rests[at] = int(rests[at]) // 1000003
                  refine ⟨_, rfl, _, rfl, R, _, (j : Int), _, rfl, rfl, .inl (.inl p1), atI_nat hy, .inl ⟨_, rfl, _, _, rfl, rfl, ⟨by decide, by decide⟩, _, rfl, _, rfl, R, _, (j : Int), j, rfl, rfl, p1, ?_, ?_⟩⟩
                  · unfold ixN
                    rw [if_pos (by omega), if_pos (by rw [List.length_map]; omega)]
                    rfl
                  · refine put (rs[j] % 1000003) _ _ (rs.set j (rs[j] / 1000003)) (by omega) (by rw [List.length_set]; exact hn) ?_ ?_ ?_ ?_ ⟨_, _, _, _, rfl⟩
                    · intro y hy'
                      rcases List.mem_or_eq_of_mem_set hy' with z | z
                      · exact h0 y z
                      · rw [z]
                        omega
                    · intro b u e
                      rw [upd_ne (ne_of_none e hR)]
                      exact p2 b u e
                    · rw [upd_same, List.map_set]
                    · rw [upd_ne nRL.symm]
                      exact p3
                · exact ⟨rfl, _, _, rfl⟩
              · exact ⟨rfl, _, _, rfl⟩
          · exact ⟨rfl, _, _, rfl⟩
        · rintro σ2 H2 ⟨rfl, c, z6, rfl⟩
          -- mixed, twice
          refine ⟨_, rfl, _, _, rfl, rfl, .inr ⟨by decide, by decide⟩, _, rfl, _, _, rfl, rfl, .inr ⟨by decide, by decide⟩, _, _, rfl, rfl, _, _, rfl, rfl, .inl ⟨_, rfl, _, _, rfl, rfl, (by show (0 : Int) < 2147483647; decide), ?_⟩⟩
          refine ⟨_, rfl, _, rfl, _, _, rfl, rfl, .inl ⟨?_, ?_⟩, _, _, rfl, rfl, ⟨by decide, by decide⟩, _, rfl, _, _, rfl, rfl, .inl ⟨_, rfl, _, _, rfl, rfl, (by show (0 : Int) < 2147483629; decide), ?_⟩⟩
          · omega
          · omega
          -- draws.append
          refine ⟨_, rfl, .inl ⟨rfl, _, .inl (.inl e2)⟩, _, rfl, _, rfl, _, _, rfl, rfl, .inl ⟨?_, ?_⟩, _, _, rfl, rfl, ⟨by decide, by decide⟩, _, rfl, _, _, rfl, rfl, .inr ⟨by decide, by decide⟩, _, _, rfl, rfl, .inl ⟨_, rfl, _, _, rfl, rfl, (by show (0 : Int) < 2147483629; decide), L, _, _, rfl, rfl, e2, hsz, ?_⟩⟩
          · omega
          · omega
          refine put _ _ _ rs ?_ hn h0 (app _).2.1 (app _).1 (app _).2.2 ⟨_, _, _, _, rfl⟩
          exact Int.emod_nonneg _ (by decide)
      · rintro σ H2 ⟨rs, ds, y4, y5, y6, y7, rfl, hn, h0, hd, hd0, s2, e1, e2⟩
        exact ⟨_, rfl, q L ds H2 hL0 s2 e2 hd0⟩

theorem ok_take {f : Addr} {fd : FuncData} (D : Df K mg "_law_take" s_law_take ["hand", "many"] f fd) (T : Txt K w mg cs) : FnOk P w K mg base CX0 1 f fd ["hand", "many"] spTake := by
  refine D.fn.ok sc_law_take (fun vs H Q E h => ?_) (fun cdv A outer s H vs Q E hr h => ?_)
  · obtain ⟨a, d, many, rfl, _⟩ := h
    rfl
  · obtain ⟨a, d, many, rfl, hm, ⟨ds, i, h1, h2, h3, h4⟩, q⟩ := h
    refine ⟨_, (pss_cons (ps_set (i := 2) sc_law_take.nd rfl (.inl rfl) (pe_ix (ixL K) (pv 0) pe_int (fun _ _ => rfl))) (pss_cons (ps_asg (pe_op op_add (pv 2) pe_int) (pg_sub (pv 0) pe_int set_list)) (pss_cons (ps_set (i := 3) sc_law_take.nd rfl (.inl rfl) (pe_ix (ixL K) (pv 0) pe_int (fun _ _ => rfl))) (pss_cons (ps_if (pt_cmpR op_ge (pv 2) (pe_callB (lenS K) (by rfl) T.n_len (by decide +kernel) (pa_cons (pv 3) pa_nil)) (nomark _)) (pss_one (ps_ret pe_int)) pss_nil) (pss_one (ps_ret (pe_op op_mod (pe_op op_fdiv (pe_callTy call_int1 (by rfl) T.n_int (by decide +kernel) (pa_cons (pe_ix (ixL K) (pv 3) (pv 2) (fun _ _ => rfl)) pa_nil)) pe_int) (pv 1)))))))), ?_⟩
    have s1 : Same H H := Same.refl H
    -- at = hand[1]
    refine ⟨_, rfl, a, _, 1, .int (i : Int), rfl, rfl, .inl (.inl h1), rfl, ?_⟩
    -- hand[1] = at + 1
    refine ⟨_, rfl, _, _, rfl, rfl, _, rfl, a, _, 1, 1, rfl, rfl, h1, rfl, ?_⟩
    -- draws = hand[0]
    refine ⟨_, rfl, a, _, 0, .ref d, rfl, rfl, .inl (.inl upd_same), rfl, ?_⟩
    have hd : (upd H a (.lst [.ref d, .int ((i : Int) + 1)])) d = some (.lst (ds.map V.int)) := by
      rw [upd_ne h4]
      exact h2
    have hn : Hnd (upd H a (.lst [.ref d, .int ((i : Int) + 1)])) a d := ⟨ds, i + 1, upd_same, hd, h3, h4⟩
    have hk : Keep a H (upd H a (.lst [.ref d, .int ((i : Int) + 1)])) := fun b o e n => by
      rw [upd_ne n]
      exact e
    -- at >= len(draws)
    refine ⟨_, rfl, _, rfl, d, _, rfl, .inl (.inl (.inl hd)), _, _, rfl, rfl, _, rfl, ite2 (fun c => ?_) (fun c => ?_)⟩
    · exact q 0 _ (Int.le_refl 0) hm hn hk
    · have hi : i < ds.length := by
        have c' : ¬ (((ds.map V.int).length : Int) ≤ (i : Int)) := fun z => c (decide_eq_true z)
        rw [List.length_map] at c'
        omega
      have hx : (ds.map V.int)[i]? = some (.int ds[i]) := by
        rw [List.getElem?_map, List.getElem?_eq_getElem hi]
        rfl
      have h0 := h3 ds[i] (List.getElem_mem hi)
      refine ⟨_, rfl, _, rfl, d, _, (i : Int), .int ds[i], rfl, rfl, .inl (.inl hd), atI_nat hx, .inl ⟨_, rfl, ?_⟩⟩
      refine ⟨_, _, rfl, rfl, ⟨by decide, by decide⟩, _, rfl, _, _, rfl, rfl, hm, ?_⟩
      exact q _ _ (Int.emod_nonneg _ (by omega)) (Int.emod_lt_of_pos _ hm) hn hk

end
/-! ### data that are plain breakers -/
theorem named_inv {x : Str} {k : PyData} (h : named x k = true) : k = .str x := by
  unfold named at h
  cases k with
  | str z =>
    simp only [PyData.eqv] at h
    rw [eq_of_beq h]
  | _ => simp only [PyData.eqv] at h; cases h
theorem part_inv {d : PyData} (h : partOk d = true) : ∃ p, d = paD p ∧ paOk p := by
  cases d with
  | str x =>
    have h : (decide (x = "0") || decide (x = "1")) = true := h
    rcases Bool.or_eq_true_iff.mp h with e | e
    · have e := of_decide_eq_true e
      subst e
      exact ⟨.bit false, by show PyData.str "0" = .str (sb [false]); congr 1, trivial⟩
    · have e := of_decide_eq_true e
      subst e
      exact ⟨.bit true, by show PyData.str "1" = .str (sb [true]); congr 1, trivial⟩
  | int i =>
    have h : (decide (0 ≤ i) && decide (i ≤ 9999)) = true := h
    obtain ⟨h1, h2⟩ := Bool.and_eq_true_iff.mp h
    have h1 := of_decide_eq_true h1
    have h2 := of_decide_eq_true h2
    refine ⟨.ref i.toNat, ?_, ?_⟩
    · show PyData.int i = .int ((i.toNat : Nat) : Int)
      rw [show ((i.toNat : Nat) : Int) = i by omega]
    · show i.toNat ≤ 9999
      omega
  | _ => cases h
theorem parts_inv {p : PyData} (h : partsOk p = true) : ∃ ps, p = psD ps ∧ ∀ q ∈ ps, paOk q := by
  cases p with
  | tuple xs =>
    have h : xs.all partOk = true := h
    induction xs with
    | nil => exact ⟨[], rfl, fun _ h => nomatch h⟩
    | cons x xs ih =>
      rw [List.all_cons, Bool.and_eq_true] at h
      obtain ⟨q, rfl, hq⟩ := part_inv h.1
      obtain ⟨ps, e, hp⟩ := ih h.2 h.2
      injection e with e
      subst e
      refine ⟨q :: ps, rfl, fun y hy => ?_⟩
      rcases List.mem_cons.mp hy with z | z
      · rw [z]
        exact hq
      · exact hp y z
  | _ => cases h
theorem brs_view {n : Nat} (ih : ∀ D, okN n D = true → ∃ b, D = brD b ∧ okB n b) : ∀ xs : List PyData, xs.all (okN n) = true → ∃ bs, xs = brsD bs ∧ ∀ b ∈ bs, okB n b
  | [], _ => ⟨[], rfl, fun _ h => nomatch h⟩
  | x :: xs, h => by
    rw [List.all_cons, Bool.and_eq_true] at h
    obtain ⟨b, rfl, hb⟩ := ih x h.1
    obtain ⟨bs, rfl, hbs⟩ := brs_view ih xs h.2
    refine ⟨b :: bs, rfl, fun y hy => ?_⟩
    rcases List.mem_cons.mp hy with z | z
    · rw [z]
      exact hb
    · exact hbs y z
theorem br_view : ∀ (n : Nat) (D : PyData), okN n D = true → ∃ b, D = brD b ∧ okB n b
  | 0, D, h => by cases h
  | n + 1, D, h => by
    obtain ⟨h1, h2⟩ := Bool.and_eq_true_iff.mp (show (looksOk D && (kidsD D).all (okN n)) = true from h)
    cases D with
    | tuple xs =>
      cases xs with
      | nil => cases h1
      | cons k r =>
        have h1 : (if named "say" k then sayOk r else if named "toss" k then tossOk r else if named "look" k then lookOk r else named "ask" k && askOk r) = true := h1
        by_cases c1 : named "say" k = true
        · rw [if_pos c1] at h1
          obtain rfl := named_inv c1
          match r, h1 with
          | [p], h1 =>
            obtain ⟨ps, rfl, hp⟩ := parts_inv h1
            exact ⟨.say ps, rfl, hp⟩
        · rw [if_neg c1] at h1
          by_cases c2 : named "toss" k = true
          · rw [if_pos c2] at h1
            have ek := named_inv c2
            match r, h1 with
            | [.tuple xs], h1 =>
              have hk : kidsD (.tuple [k, .tuple xs]) = xs := by
                show (if named "toss" k then xs else _) = xs
                rw [if_pos c2]
              rw [hk] at h2
              obtain ⟨bs, rfl, hb⟩ := brs_view (br_view n) xs h2
              obtain ⟨l1, _⟩ := Bool.and_eq_true_iff.mp (show (decide ((1 : Int) ≤ ((brsD bs).length : Int)) && decide (((brsD bs).length : Int) ≤ 64)) = true from h1)
              have l1 := of_decide_eq_true l1
              subst ek
              refine ⟨.toss bs, rfl, fun e => ?_, hb⟩
              subst e
              exact absurd l1 (by decide)
          · rw [if_neg c2] at h1
            have hk : kidsD (.tuple (k :: r)) = r.drop 1 := by
              show (if named "toss" k then _ else r.drop 1) = r.drop 1
              rw [if_neg c2]
            rw [hk] at h2
            by_cases c3 : named "look" k = true
            · rw [if_pos c3] at h1
              obtain rfl := named_inv c3
              match r, h1, h2 with
              | [m, x, y], h1, h2 =>
                have h2 : (okN n x && (okN n y && true)) = true := h2
                rw [Bool.and_true, Bool.and_eq_true] at h2
                obtain ⟨a, rfl, ha⟩ := br_view n x h2.1
                obtain ⟨b, rfl, hb⟩ := br_view n y h2.2
                have h1 : whole m 0 9999 = true := h1
                cases m with
                | int i =>
                  obtain ⟨p, e, hp⟩ := part_inv (d := .int i) h1
                  cases p with
                  | ref j =>
                    injection e with e
                    subst e
                    exact ⟨.look j a b, rfl, hp, ha, hb⟩
                  | bit _ => cases e
                | _ => cases h1
            · rw [if_neg c3] at h1
              obtain ⟨c4, h1⟩ := Bool.and_eq_true_iff.mp h1
              obtain rfl := named_inv c4
              match r, h1, h2 with
              | [p, x], h1, h2 =>
                have h3 : (okN n x && true) = true := h2
                rw [Bool.and_true] at h3
                obtain ⟨ps, rfl, hp⟩ := parts_inv h1
                obtain ⟨a, rfl, ha⟩ := br_view n x h3
                exact ⟨.ask ps a, rfl, hp, ha⟩
    | _ => cases h1

/-- words with blanks behind each: none only beside a parenthesis or at the end -/
inductive Spc : List (List Nat) → List Nat → Prop where
  | nil : Spc [] []
  | cons (w : List Nat) (ws : List (List Nat)) (k : Nat) (t : List Nat) (h : Spc ws t) (sep : k = 0 → w = [40] ∨ w = [41] ∨ ws = [] ∨ ∃ vs, ws = [40] :: vs ∨ ws = [41] :: vs) : Spc (w :: ws) (w ++ (List.replicate k 32 ++ t))

section
variable {P : Program} {w : World} {K : PySem.W.Frag} {mg : Str → Option Value} {base : Heap} {cs : Cs}
theorem ok_pw {f : Addr} {fd : FuncData} (D : Df K mg "_law_parts_words" s_law_parts_words ["parts"] f fd) (T : Txt K w mg cs) : FnOk P w K mg base CX0 1 f fd ["parts"] (spPW K) := by
  refine D.fn.ok sc_law_parts_words (fun vs H Q E h => ?_) (fun cdv A outer s H vs Q E hr h => ?_)
  · obtain ⟨a, us, ps, rfl, _⟩ := h
    rfl
  · obtain ⟨a, us, ps, rfl, hT, hA, hp, hl, q⟩ := h
    refine ⟨_, (pss_cons (ps_set (i := 1) sc_law_parts_words.nd rfl (.inl rfl) (pe_lst pa_nil)) (pss_cons (ps_for PassesOwn.never rfl (pi_tup (pv 0)) (pg_name (i := 2) sc_law_parts_words.nd rfl (.inl rfl)) (pss_one (ps_if (pt_val (pe_callB (isiK K) (by rfl) T.n_isinstance (by decide +kernel) (pa_cons (pv 2) (pa_cons (pe_ty "str" (by rfl) T.n_str (by decide +kernel)) pa_nil)))) (pss_one (ps_expr (pe_bm PySem.F.plainAttrs_list PySem.F.slot_list_append PySem.F.type_list_append mt_append (pv 1) (pa_cons (pv 2) pa_nil)))) (pss_one (ps_expr (pe_bm PySem.F.plainAttrs_list PySem.F.slot_list_append PySem.F.type_list_append mt_append (pv 1) (pa_cons (pe_op op_add_str pe_str (pe_callTy call_str_int (by rfl) T.n_str (by decide +kernel) (pa_cons (pv 2) pa_nil))) pa_nil))))))) (pss_one (ps_ret (pv 1))))), ?_⟩
    have hlen := dp_all_len hA
    rw [List.length_map] at hlen
    refine ⟨Nat.zero_le _, fun L nL => ?_⟩
    refine ⟨_, rfl, a, rfl, ⟨_, same_sqt (same_new nL) hT⟩, for_tup (xs := us) (fun i σ H' => ∃ y2 : Option V, σ = [some (.ref a), some (.ref L), y2] ∧ Same H H' ∧ H' L = some (.lst (((ps.take i).map paC).map fun w => V.str (SX.S w)))) ?_ ?_ ?_ ?_⟩
    · exact ⟨none, rfl, same_new nL, upd_same⟩
    · rintro i σ H' _ ⟨y2, rfl, s1, e1⟩
      exact same_sqt s1 hT
    · rintro i x σ H' hx ⟨y2, rfl, s1, e1⟩
      obtain ⟨p, hpi, hd⟩ := psD_at hA hx
      have okp := hp p (List.mem_of_getElem? hpi)
      replace hd := dp_same s1 _ hd
      have room : (((ps.take i).map paC).map fun w => V.str (SX.S w)).length < sizeLine := by
        rw [List.length_map, List.length_map, List.length_take, sizeLine_eq]
        omega
      have next : ∀ {y : Option V}, ∃ y2 : Option V, [some (V.ref a), some (.ref L), y] = [some (.ref a), some (.ref L), y2] ∧ Same H (upd H' L (.lst ((((ps.take i).map paC).map fun w => V.str (SX.S w)) ++ [V.str (SX.S (paC p))]))) ∧
          upd H' L (.lst ((((ps.take i).map paC).map fun w => V.str (SX.S w)) ++ [V.str (SX.S (paC p))])) L = some (.lst (((ps.take (i + 1)).map paC).map fun w => V.str (SX.S w))) := fun {y} => ⟨_, rfl, same_set s1 nL, by
        rw [upd_same, List.take_add_one, hpi, List.map_append, List.map_append]
        rfl⟩
      cases p with
      | bit b =>
        cases hd
        refine ⟨_, rfl, _, _, _, _, true, rfl, .ty "str", .base (.str _), kit_ty (by decide +kernel), _, rfl, ?_⟩
        refine ⟨_, rfl, .inl ⟨rfl, _, .inl (.inl e1)⟩, _, rfl, L, _, _, rfl, rfl, e1, room, ?_⟩
        exact next
      | ref k =>
        cases hd
        refine ⟨_, rfl, _, _, _, _, false, rfl, .ty "str", .base (.int _), kit_ty (by decide +kernel), _, rfl, ?_⟩
        refine ⟨_, rfl, .inl ⟨rfl, _, .inl (.inl e1)⟩, _, rfl, _, rfl, log_small okp, _, _, rfl, rfl, ?_, ?_⟩
        · rw [SX.num_S, SX.S_len (TL.numL k), sizeLine_eq]
          have := numL_small okp
          show 1 + _ ≤ _
          omega
        · rw [SX.num_S, show ("b" : Str) = SX.S [98] by decide +kernel, SX.S_cat]
          refine ⟨L, _, _, rfl, rfl, e1, room, ?_⟩
          exact next
    · rintro σ H' ⟨y2, rfl, s1, e1⟩
      rw [hlen, List.take_length] at e1
      exact ⟨_, rfl, q _ _ s1 e1⟩
theorem ok_lawtxt {f : Addr} {fd : FuncData} (D : Df K mg "_law_text" s_law_text ["words"] f fd) (T : Txt K w mg cs) : FnOk P w K mg base CX0 1 f fd ["words"] (spLawTxt K) := by
  refine D.fn.ok sc_law_text (fun vs H Q E h => ?_) (fun cdv A outer s H vs Q E hr h => ?_)
  · obtain ⟨L, ws, rfl, _⟩ := h
    rfl
  · obtain ⟨L, ws, rfl, hL, hl, hz, q⟩ := h
    refine ⟨_, (pss_cons (ps_set (i := 1) sc_law_text.nd rfl (.inl rfl) pe_str) (pss_cons (ps_for PassesOwn.never rfl (pi_range1 (by rfl) T.n_range (pa_cons (pe_callB (lenS K) (by rfl) T.n_len (by decide +kernel) (pa_cons (pv 0) pa_nil)) pa_nil)) (pg_name (i := 2) sc_law_text.nd rfl (.inl rfl)) (pss_cons (ps_if (PW.pt (pw_and (pt_cmpR op_gt (pv 2) pe_int (nomark _)) (pw_and (pt_cmpR op_ne (pe_ix (ixL K) (pv 0) (pv 2) (fun _ _ => rfl)) pe_str (nomark _)) (pw_and1 (pt_cmpR op_ne (pe_ix (ixL K) (pv 0) (pe_op op_sub (pv 2) pe_int) (fun _ _ => rfl)) pe_str (nomark _)))))) (pss_one (ps_set (i := 1) sc_law_text.nd rfl (.inl rfl) (pe_op op_add_str (pv 1) pe_str))) pss_nil) (pss_one (ps_set (i := 1) sc_law_text.nd rfl (.inl rfl) (pe_op op_add_str (pv 1) (pe_ix (ixL K) (pv 0) (pv 2) (fun _ _ => rfl))))))) (pss_one (ps_ret (pv 1))))), ?_⟩
    have hw : (wordV ws).length = ws.length := List.length_map _
    have wat : ∀ {i : Nat} {x : List Nat}, ws[i]? = some x → atI (wordV ws) (i : Int) = some (V.str (SX.S x)) := fun {i x} h => atI_nat (by
      unfold wordV
      rw [List.getElem?_map, h]
      rfl)
    have small : ∀ i, (SX.S (lawTxt (ws.take i))).length ≤ 400000 := fun i => by
      rw [SX.S_len]
      exact Nat.le_trans (lawTxt_take_len ws i) hz
    refine ⟨_, rfl, L, _, rfl, .inl hL, _, rfl, by omega, by omega, for_range (lo := 0) (n := (wordV ws).length) (fun i σ H' => ∃ y2 : Option V, σ = [some (.ref L), some (.str (SX.S (lawTxt (ws.take i)))), y2] ∧ H' = H) ?_ ?_ ?_⟩
    · exact ⟨none, rfl, rfl⟩
    · rintro i σ H' hi ⟨y2, rfl, rfl⟩
      rw [hw] at hi
      rw [show ((0 : Int) + (i : Int)) = (i : Int) from Int.zero_add _]
      have ex := List.getElem?_eq_getElem hi
      generalize ws[i] = x at ex
      cases i with
      | zero =>
        refine ⟨_, rfl, _, _, rfl, rfl, _, rfl, ?_⟩
        cases ws with
        | nil => cases ex
        | cons w ws =>
          cases ex
          refine ⟨_, rfl, _, rfl, _, rfl, L, _, _, _, rfl, rfl, hL, wat rfl, _, _, rfl, rfl, ?_, ?_⟩
          · have := small 1
            rw [lawTxt_one] at this
            rw [sizeLine_eq]
            show 0 + _ ≤ _
            omega
          · refine ⟨some (V.int ((0 : Nat) : Int)), ?_, rfl⟩
            show [_, some (V.str (SX.S [] ++ SX.S x)), _] = _
            rw [SX.S_cat, lawTxt_one]
            rfl
      | succ i =>
        have hi2 : i < ws.length := by omega
        have ez := List.getElem?_eq_getElem hi2
        generalize ws[i] = z at ez
        have st := lawTxt_step ez ex
        have sm := small (i + 2)
        rw [SX.S_len, st, List.length_append, List.length_append] at sm
        have q1 : (!decide (V.str (SX.S x) = V.str (Str.ofString ")"))) = !decide (x = [41]) := congrArg not (decide_eq_decide.mpr (by rw [show (Str.ofString ")" : Str) = SX.S [41] by decide +kernel, S_eq]))
        have q2 : (!decide (V.str (SX.S z) = V.str (Str.ofString "("))) = !decide (z = [40]) := congrArg not (decide_eq_decide.mpr (by rw [show (Str.ofString "(" : Str) = SX.S [40] by decide +kernel, S_eq]))
        have plain : ¬ (x ≠ [41] ∧ z ≠ [40]) → ∃ y2 : Option V, [some (V.ref L), some (V.str (SX.S (lawTxt (ws.take (i + 1))) ++ SX.S x)), some (V.int ((i + 1 : Nat) : Int))] = [some (V.ref L), some (.str (SX.S (lawTxt (ws.take (i + 1 + 1))))), y2] ∧ H' = H' := fun c => by
          refine ⟨some (V.int ((i + 1 : Nat) : Int)), ?_, rfl⟩
          rw [st, if_neg c, SX.S_cat]
          rfl
        refine ⟨_, rfl, _, _, rfl, rfl, _, rfl, ?_⟩
        rw [decide_eq_true (show (0 : Int) < ((i + 1 : Nat) : Int) by omega)]
        refine ⟨_, rfl, _, rfl, L, _, _, _, rfl, rfl, hL, wat ex, rfl, _, rfl, ?_⟩
        rw [q1]
        by_cases c1 : x = [41]
        · rw [decide_eq_true c1]
          refine ⟨_, rfl, _, rfl, _, rfl, L, _, _, _, rfl, rfl, hL, wat ex, _, _, rfl, rfl, ?_, plain fun h => h.1 c1⟩
          rw [SX.S_len (lawTxt (ws.take (i + 1))), SX.S_len x, sizeLine_eq]
          omega
        · rw [decide_eq_false c1]
          refine ⟨_, rfl, _, rfl, _, _, rfl, rfl, L, _, _, _, rfl, rfl, hL, (show atI (wordV ws) (((i + 1 : Nat) : Int) - 1) = _ by rw [show ((i + 1 : Nat) : Int) - 1 = (i : Int) by omega]; exact wat ez), rfl, _, rfl, ?_⟩
          rw [q2]
          by_cases c2 : z = [40]
          · rw [decide_eq_true c2]
            refine ⟨_, rfl, _, rfl, _, rfl, L, _, _, _, rfl, rfl, hL, wat ex, _, _, rfl, rfl, ?_, plain fun h => h.2 c2⟩
            rw [SX.S_len (lawTxt (ws.take (i + 1))), SX.S_len x, sizeLine_eq]
            omega
          · rw [decide_eq_false c2]
            rw [if_pos ⟨c1, c2⟩] at sm st
            refine ⟨_, rfl, _, _, rfl, rfl, ?_, ?_⟩
            · rw [SX.S_len (lawTxt (ws.take (i + 1))), sizeLine_eq]
              show _ + 1 ≤ _
              omega
            · refine ⟨_, rfl, _, rfl, _, rfl, L, _, _, _, rfl, rfl, hL, wat ex, _, _, rfl, rfl, ?_, some (V.int ((i + 1 : Nat) : Int)), ?_, rfl⟩
              · rw [show (Str.ofString " " : Str) = SX.S [32] by decide +kernel, SX.S_cat, SX.S_len (lawTxt (ws.take (i + 1)) ++ [32]), SX.S_len x, List.length_append, sizeLine_eq]
                show _ + 1 + _ ≤ _
                omega
              · show [_, some (V.str (SX.S (lawTxt (ws.take (i + 1))) ++ (Str.ofString " " : Str) ++ SX.S x)), _] = _
                rw [show (Str.ofString " " : Str) = SX.S [32] by decide +kernel, SX.S_cat, SX.S_cat, st, List.append_assoc]
    · rintro σ H' ⟨y2, rfl, rfl⟩
      rw [hw, List.take_length]
      exact ⟨_, rfl, q _ (fun _ _ e => e)⟩

theorem words_step {f : Addr} {fd : FuncData} (D : Df K mg "_law_words" s_law_words ["breaker"] f fd) (T : Txt K w mg cs) (j : Nat) (c_law_parts_words : Cl P w K mg base CX0 1 "_law_parts_words" (spPW K))
    (c_law_words : Cl P w K mg base CX0 (j + 1) "_law_words" (spWordsB K j)) : FnOk P w K mg base CX0 (j + 2) f fd ["breaker"] (spWords K j) := by
  refine D.fn.ok sc_law_words (fun vs H Q E h => ?_) (fun cdv A outer s H vs Q E hr h => ?_)
  · obtain ⟨v, b, rfl, _⟩ := h
    rfl
  · obtain ⟨v, b, rfl, hd, ok, hz, q⟩ := h
    refine ⟨_, (pss_cons (ps_set (i := 1) sc_law_words.nd rfl (.inl rfl) (pe_lst (pa_cons pe_str (pa_cons (pe_ix (ixT K) (pv 0) pe_int (fun _ _ => rfl)) pa_nil)))) (pss_cons (ps_if (pt_cmpR op_eq (pe_ix (ixT K) (pv 0) pe_int (fun _ _ => rfl)) pe_str (nomark _)) (pss_one (ps_set (i := 1) sc_law_words.nd rfl (.inl rfl) (pe_op op_cat (pv 1) (pe_cl c_law_parts_words hr (by first | decide | omega) (by rfl) (pa_cons (pe_ix (ixT K) (pv 0) pe_int (fun _ _ => rfl)) pa_nil))))) (pss_one (ps_if (pt_cmpR op_eq (pe_ix (ixT K) (pv 0) pe_int (fun _ _ => rfl)) pe_str (nomark _)) (pss_one (ps_for PassesOwn.never rfl (pi_tup (pe_ix (ixT K) (pv 0) pe_int (fun _ _ => rfl))) (pg_name (i := 2) sc_law_words.nd rfl (.inl rfl)) (pss_one (ps_set (i := 1) sc_law_words.nd rfl (.inl rfl) (pe_op op_cat (pv 1) (pe_cl c_law_words hr (by first | decide | omega) (by rfl) (pa_cons (pv 2) pa_nil))))))) (pss_one (ps_if (pt_cmpR op_eq (pe_ix (ixT K) (pv 0) pe_int (fun _ _ => rfl)) pe_str (nomark _)) (pss_one (ps_set (i := 1) sc_law_words.nd rfl (.inl rfl) (pe_op op_cat (pe_op op_cat (pe_op op_cat (pv 1) (pe_lst (pa_cons (pe_callTy call_str_int (by rfl) T.n_str (by decide +kernel) (pa_cons (pe_ix (ixT K) (pv 0) pe_int (fun _ _ => rfl)) pa_nil)) pa_nil))) (pe_cl c_law_words hr (by first | decide | omega) (by rfl) (pa_cons (pe_ix (ixT K) (pv 0) pe_int (fun _ _ => rfl)) pa_nil))) (pe_cl c_law_words hr (by first | decide | omega) (by rfl) (pa_cons (pe_ix (ixT K) (pv 0) pe_int (fun _ _ => rfl)) pa_nil))))) (pss_one (ps_set (i := 1) sc_law_words.nd rfl (.inl rfl) (pe_op op_cat (pe_op op_cat (pe_op op_cat (pe_op op_cat (pv 1) (pe_lst (pa_cons pe_str pa_nil))) (pe_cl c_law_parts_words hr (by first | decide | omega) (by rfl) (pa_cons (pe_ix (ixT K) (pv 0) pe_int (fun _ _ => rfl)) pa_nil))) (pe_lst (pa_cons pe_str pa_nil))) (pe_cl c_law_words hr (by first | decide | omega) (by rfl) (pa_cons (pe_ix (ixT K) (pv 0) pe_int (fun _ _ => rfl)) pa_nil)))))))))) (pss_one (ps_ret (pe_op op_cat (pv 1) (pe_lst (pa_cons pe_str pa_nil))))))), ?_⟩
    cases j with
    | zero => exact ok.elim
    | succ j =>
    cases b with
    | say ps =>
      unfold brD at hd
      obtain ⟨a, us, rfl, hT, hA⟩ : ∃ a us, v = .ref a ∧ SqT K H a us ∧ DpAll K H us [.str "say", psD ps] := by
        cases hd with
        | tup hT hA => exact ⟨_, _, rfl, hT, hA⟩
      cases hA with
      | cons h0 hA =>
        cases h0
        cases hA with
        | cons h1 hA =>
          cases hA
          cases h1 with
          | @tup r ws _ hR hP =>
            have tl : (TL.joinL [32] (sayC :: ps.map paC)).length ≤ 400000 := by
              have h : (40 :: (TL.joinL [32] (sayC :: ps.map paC) ++ [41])).length ≤ 400000 := hz
              rw [List.length_cons, List.length_append] at h
              omega
            rw [join_sum, List.length_map] at tl
            refine ⟨_, rfl, a, _, 0, _, rfl, rfl, hT, at0, (by show 2 ≤ sizeLine; decide), fun L nL => ?_⟩
            have e1 := same_new (o := .lst [.str "(", .str "say"]) nL
            have eL : upd H L (.lst [.str "(", .str "say"]) L = some (.lst [.str "(", .str "say"]) := upd_same
            show gName 1 (V.ref L) _ (upd H L (.lst [.str "(", .str "say"])) _
            generalize upd H L (.lst [.str "(", .str "say"]) = H1 at e1 eL
            refine ⟨_, rfl, a, _, 0, _, rfl, rfl, same_sqt e1 hT, at0, rfl, _, rfl, ?_⟩
            refine ⟨_, rfl, _, rfl, a, _, 1, _, rfl, rfl, same_sqt e1 hT, rfl, r, ws, ps, rfl, same_sqt e1 hR, dps_same e1 _ hP, ok, by omega, fun p2 H2 s2 e2 => ⟨L, p2, _, _, rfl, rfl, s2 _ _ eL, e2, ?_, fun N nN => ?_⟩⟩
            · rw [List.length_map, List.length_map, sizeLine_eq]
              show 2 + _ ≤ _
              omega
            refine ⟨_, rfl, (by show 1 ≤ sizeLine; decide), fun M nM => ⟨N, M, _, _, rfl, rfl, same_new nM _ _ upd_same, upd_same, ?_, fun R nR => q R _ ?_ ?_⟩⟩
            · rw [List.length_append, List.length_map, List.length_map, sizeLine_eq]
              show 2 + _ + 1 ≤ _
              omega
            · exact ((e1.trans s2).trans (same_new nN)).trans ((same_new nM).trans (same_new nR))
            · rw [upd_same, par_S, cl_S, say_S]
              refine congrArg (fun z => some (HO.lst z)) ?_
              show _ = wordV ([40] :: sayC :: (ps.map paC ++ [[41]]))
              unfold wordV
              simp
    | toss bs =>
      unfold brD at hd
      obtain ⟨a, us, rfl, hT, hA⟩ : ∃ a us, v = .ref a ∧ SqT K H a us ∧ DpAll K H us [.str "toss", .tuple (brsD bs)] := by
        cases hd with
        | tup hT hA => exact ⟨_, _, rfl, hT, hA⟩
      cases hA with
      | cons h0 hA =>
        cases h0
        cases hA with
        | cons h1 hA =>
          cases hA
          cases h1 with
          | @tup r ws _ hR hP =>
            have hlen := dp_all_len hP
            rw [brsD_len] at hlen
            have tl : (TL.joinL [32] (tossC :: txtsC bs)).length ≤ 400000 := by
              have h : (40 :: (TL.joinL [32] (tossC :: txtsC bs) ++ [41])).length ≤ 400000 := hz
              rw [List.length_cons, List.length_append] at h
              omega
            have wl := wordss_len bs
            have part : ∀ i, (wordssC (bs.take i)).length ≤ (wordssC bs).length := fun i => by
              have := wordss_app (bs.take i) (bs.drop i)
              rw [List.take_append_drop] at this
              rw [this, List.length_append]
              omega
            rw [join_sum, txtsC_map, List.length_map] at tl
            rw [txtsC_map] at wl
            refine ⟨_, rfl, a, _, 0, _, rfl, rfl, hT, at0, (by show 2 ≤ sizeLine; decide), fun L nL => ?_⟩
            have e1 := same_new (o := .lst [.str "(", .str "toss"]) nL
            have eL : upd H L (.lst [.str "(", .str "toss"]) L = some (.lst [.str "(", .str "toss"]) := upd_same
            show gName 1 (V.ref L) _ (upd H L (.lst [.str "(", .str "toss"])) _
            generalize upd H L (.lst [.str "(", .str "toss"]) = H1 at e1 eL
            refine ⟨_, rfl, a, _, 0, _, rfl, rfl, same_sqt e1 hT, at0, rfl, _, rfl, ?_⟩
            refine ⟨_, rfl, a, _, 0, _, rfl, rfl, same_sqt e1 hT, at0, rfl, _, rfl, ?_⟩
            refine ⟨_, rfl, a, _, 1, _, rfl, rfl, same_sqt e1 hT, rfl, r, rfl, ⟨_, same_sqt e1 hR⟩, for_tup (xs := ws) (fun i σ H' => ∃ (N : Addr) (y2 : Option V), σ = [some (.ref a), some (.ref N), y2] ∧ Same H H' ∧ H' N = some (.lst ([.str "(", .str "toss"] ++ wordV (wordssC (bs.take i))))) ?_ ?_ ?_ ?_⟩
            · exact ⟨L, none, rfl, e1, eL⟩
            · rintro i σ H' _ ⟨N, y2, rfl, s1, eN⟩
              exact same_sqt s1 hR
            · rintro i x σ H' hx ⟨N, y2, rfl, s1, eN⟩
              obtain ⟨d, hd1, hd2⟩ := dp_all_get hP hx
              obtain ⟨b, hb, rfl⟩ := brsD_at hd1
              have hm := List.mem_of_getElem? hb
              have hbl := sum_mem (List.mem_map.mpr ⟨b, hm, rfl⟩ : txtC b ∈ bs.map txtC)
              have hwl := words_len b
              have hp := part i
              refine ⟨_, rfl, _, rfl, by omega, x, b, rfl, dp_same s1 _ hd2, ok.2 b hm, by omega, fun p2 H2 s2 e2 => ⟨N, p2, _, _, rfl, rfl, s2 _ _ eN, e2, ?_, fun M nM => ⟨M, _, rfl, (s1.trans s2).trans (same_new nM), ?_⟩⟩⟩
              · rw [List.length_append, wordV_len, wordV_len, sizeLine_eq]
                show 2 + _ + _ ≤ _
                omega
              · rw [upd_same, List.take_add_one, hb, wordss_app, wordV_app, List.append_assoc]
                show _ = some (HO.lst ([V.str "(", .str "toss"] ++ (wordV (wordssC (bs.take i)) ++ wordV (wordsC b ++ []))))
                rw [List.append_nil]
            · rintro σ H' ⟨N, y2, rfl, s1, eN⟩
              rw [hlen, List.take_length] at eN
              refine ⟨_, rfl, (by show 1 ≤ sizeLine; decide), fun M nM => ⟨N, M, _, _, rfl, rfl, same_new nM _ _ eN, upd_same, ?_, fun R nR => q R _ (s1.trans ((same_new nM).trans (same_new nR))) ?_⟩⟩
              · rw [List.length_append, wordV_len, sizeLine_eq]
                show 2 + _ + 1 ≤ _
                omega
              · rw [upd_same, par_S, cl_S, toss_S]
                refine congrArg (fun z => some (HO.lst z)) ?_
                show _ = wordV ([40] :: tossC :: (wordssC bs ++ [[41]]))
                unfold wordV
                simp
    | look i x y =>
      unfold brD at hd
      obtain ⟨i9, okx, oky⟩ := ok
      obtain ⟨a, us, rfl, hT, hA⟩ : ∃ a us, v = .ref a ∧ SqT K H a us ∧ DpAll K H us [.str "look", .int (i : Int), brD x, brD y] := by
        cases hd with
        | tup hT hA => exact ⟨_, _, rfl, hT, hA⟩
      obtain ⟨v0, v1, v2, v3, d0, d1, d2, d3, rfl, e, h0, h1, h2, h3⟩ := dp4 hA (by rw [dp_all_len hA]; rfl)
      injection e with e0 e
      injection e with e1 e
      injection e with e2 e
      injection e with e3 e
      subst e0
      subst e1
      subst e2
      subst e3
      cases h0
      cases h1
      have tl : (TL.joinL [32] [lookC, TL.numL i, txtC x, txtC y]).length ≤ 400000 := by
        have h : (40 :: (TL.joinL [32] [lookC, TL.numL i, txtC x, txtC y] ++ [41])).length ≤ 400000 := hz
        rw [List.length_cons, List.length_append] at h
        omega
      rw [join_sum lookC [TL.numL i, txtC x, txtC y]] at tl
      change 4 + ((TL.numL i).length + ((txtC x).length + ((txtC y).length + 0))) + 3 ≤ 400000 at tl
      have wx := words_len x
      have wy := words_len y
      refine ⟨_, rfl, a, _, 0, _, rfl, rfl, hT, at0, (by show 2 ≤ sizeLine; decide), fun L nL => ?_⟩
      have e1 := same_new (o := .lst [.str "(", .str "look"]) nL
      have eL : upd H L (.lst [.str "(", .str "look"]) L = some (.lst [.str "(", .str "look"]) := upd_same
      show gName 1 (V.ref L) _ (upd H L (.lst [.str "(", .str "look"])) _
      generalize upd H L (.lst [.str "(", .str "look"]) = H1 at e1 eL
      refine ⟨_, rfl, a, _, 0, _, rfl, rfl, same_sqt e1 hT, at0, rfl, _, rfl, ?_⟩
      refine ⟨_, rfl, a, _, 0, _, rfl, rfl, same_sqt e1 hT, at0, rfl, _, rfl, ?_⟩
      refine ⟨_, rfl, a, _, 0, _, rfl, rfl, same_sqt e1 hT, at0, rfl, _, rfl, ?_⟩
      refine ⟨_, rfl, _, rfl, a, _, 1, _, rfl, rfl, same_sqt e1 hT, rfl, _, rfl, log_small i9, (by show 1 ≤ sizeLine; decide), fun L2 nL2 => ⟨L, L2, _, _, rfl, rfl, same_new nL2 _ _ eL, upd_same, (by show 2 + 1 ≤ sizeLine; decide), fun N nN => ?_⟩⟩
      have e2 := e1.trans ((same_new (o := .lst [V.str (Str.ofString (toString ((i : Nat) : Int)))]) nL2).trans (same_new (o := .lst ([V.str "(", .str "look"] ++ [V.str (Str.ofString (toString ((i : Nat) : Int)))])) nN))
      refine ⟨_, rfl, a, _, 2, _, rfl, rfl, same_sqt e2 hT, rfl, by omega, _, x, rfl, dp_same e2 _ h2, okx, by omega, fun p2 H2 s2 q2 => ⟨N, p2, _, _, rfl, rfl, s2 _ _ upd_same, q2, ?_, fun M nM => ?_⟩⟩
      · rw [wordV_len, sizeLine_eq]
        show 3 + _ ≤ _
        omega
      have e3 := (e2.trans s2).trans (same_new (o := .lst (([V.str "(", .str "look"] ++ [V.str (Str.ofString (toString ((i : Nat) : Int)))]) ++ wordV (wordsC x))) nM)
      refine ⟨_, rfl, a, _, 3, _, rfl, rfl, same_sqt e3 hT, rfl, by omega, _, y, rfl, dp_same e3 _ h3, oky, by omega, fun p3 H3 s3 q3 => ⟨M, p3, _, _, rfl, rfl, s3 _ _ upd_same, q3, ?_, fun S nS => ?_⟩⟩
      · rw [List.length_append, wordV_len, wordV_len, sizeLine_eq]
        show 3 + _ + _ ≤ _
        omega
      refine ⟨_, rfl, (by show 1 ≤ sizeLine; decide), fun O nO => ⟨S, O, _, _, rfl, rfl, same_new nO _ _ upd_same, upd_same, ?_, fun R nR => q R _ ((e3.trans s3).trans ((same_new nS).trans ((same_new nO).trans (same_new nR)))) ?_⟩⟩
      · rw [List.length_append, List.length_append, wordV_len, wordV_len, sizeLine_eq]
        show 3 + _ + _ + 1 ≤ _
        omega
      · rw [upd_same, par_S, cl_S, look_S, SX.num_S]
        refine congrArg (fun z => some (HO.lst z)) ?_
        show _ = wordV ([40] :: lookC :: TL.numL i :: (wordsC x ++ (wordsC y ++ [[41]])))
        unfold wordV
        simp
    | ask ps x =>
      unfold brD at hd
      obtain ⟨okp, okx⟩ := ok
      obtain ⟨a, us, rfl, hT, hA⟩ : ∃ a us, v = .ref a ∧ SqT K H a us ∧ DpAll K H us [.str "ask", psD ps, brD x] := by
        cases hd with
        | tup hT hA => exact ⟨_, _, rfl, hT, hA⟩
      cases hA with
      | cons h0 hA =>
        cases h0
        cases hA with
        | cons h1 hA =>
          cases hA with
          | cons h2 hA =>
            cases hA
            cases h1 with
            | @tup r ws _ hR hP =>
              have tl : (TL.joinL [32] [askC, 40 :: (TL.joinL [32] (ps.map paC) ++ [41]), txtC x]).length ≤ 400000 := by
                have h : (40 :: (TL.joinL [32] [askC, 40 :: (TL.joinL [32] (ps.map paC) ++ [41]), txtC x] ++ [41])).length ≤ 400000 := hz
                rw [List.length_cons, List.length_append] at h
                omega
              rw [join_sum] at tl
              change 3 + ((40 :: (TL.joinL [32] (ps.map paC) ++ [41])).length + ((txtC x).length + 0)) + 2 ≤ 400000 at tl
              rw [List.length_cons, List.length_append] at tl
              have pl := join_ge ps
              have wx := words_len x
              refine ⟨_, rfl, a, _, 0, _, rfl, rfl, hT, at0, (by show 2 ≤ sizeLine; decide), fun L nL => ?_⟩
              have e1 := same_new (o := .lst [.str "(", .str "ask"]) nL
              have eL : upd H L (.lst [.str "(", .str "ask"]) L = some (.lst [.str "(", .str "ask"]) := upd_same
              show gName 1 (V.ref L) _ (upd H L (.lst [.str "(", .str "ask"])) _
              generalize upd H L (.lst [.str "(", .str "ask"]) = H1 at e1 eL
              refine ⟨_, rfl, a, _, 0, _, rfl, rfl, same_sqt e1 hT, at0, rfl, _, rfl, ?_⟩
              refine ⟨_, rfl, a, _, 0, _, rfl, rfl, same_sqt e1 hT, at0, rfl, _, rfl, ?_⟩
              refine ⟨_, rfl, a, _, 0, _, rfl, rfl, same_sqt e1 hT, at0, rfl, _, rfl, ?_⟩
              refine ⟨_, rfl, (by show 1 ≤ sizeLine; decide), fun L2 nL2 => ⟨L, L2, _, _, rfl, rfl, same_new nL2 _ _ eL, upd_same, (by show 2 + 1 ≤ sizeLine; decide), fun N nN => ?_⟩⟩
              have e2 := e1.trans ((same_new (o := .lst [V.str "("]) nL2).trans (same_new (o := .lst ([V.str "(", .str "ask"] ++ [V.str "("])) nN))
              refine ⟨_, rfl, a, _, 1, _, rfl, rfl, same_sqt e2 hT, rfl, r, ws, ps, rfl, same_sqt e2 hR, dps_same e2 _ hP, okp, by omega, fun p2 H2 s2 q2 => ⟨N, p2, _, _, rfl, rfl, s2 _ _ upd_same, q2, ?_, fun M nM => ?_⟩⟩
              · rw [List.length_map, List.length_map, sizeLine_eq]
                show 3 + _ ≤ _
                omega
              refine ⟨(by show 1 ≤ sizeLine; decide), fun M2 nM2 => ⟨M, M2, _, _, rfl, rfl, same_new nM2 _ _ upd_same, upd_same, ?_, fun S nS => ?_⟩⟩
              · rw [List.length_append, List.length_map, List.length_map, sizeLine_eq]
                show 3 + _ + 1 ≤ _
                omega
              have e3 := (e2.trans s2).trans ((same_new (o := .lst (([V.str "(", .str "ask"] ++ [V.str "("]) ++ (ps.map paC).map fun w => V.str (SX.S w))) nM).trans ((same_new (o := .lst [V.str ")"]) nM2).trans (same_new (o := .lst ((([V.str "(", .str "ask"] ++ [V.str "("]) ++ (ps.map paC).map fun w => V.str (SX.S w)) ++ [V.str ")"])) nS)))
              refine ⟨_, rfl, a, _, 2, _, rfl, rfl, same_sqt e3 hT, rfl, by omega, _, x, rfl, dp_same e3 _ h2, okx, by omega, fun p3 H3 s3 q3 => ⟨S, p3, _, _, rfl, rfl, s3 _ _ upd_same, q3, ?_, fun O nO => ?_⟩⟩
              · rw [List.length_append, List.length_append, List.length_map, List.length_map, wordV_len, sizeLine_eq]
                show 3 + _ + 1 + _ ≤ _
                omega
              refine ⟨_, rfl, (by show 1 ≤ sizeLine; decide), fun O2 nO2 => ⟨O, O2, _, _, rfl, rfl, same_new nO2 _ _ upd_same, upd_same, ?_, fun R nR => q R _ ((e3.trans s3).trans ((same_new nO).trans ((same_new nO2).trans (same_new nR)))) ?_⟩⟩
              · rw [List.length_append, List.length_append, List.length_append, List.length_map, List.length_map, wordV_len, sizeLine_eq]
                show 3 + _ + 1 + _ + 1 ≤ _
                omega
              · rw [upd_same, par_S, cl_S, ask_S]
                refine congrArg (fun z => some (HO.lst z)) ?_
                show _ = wordV ([40] :: askC :: [40] :: (ps.map paC ++ [41] :: (wordsC x ++ [[41]])))
                unfold wordV
                simp
theorem no_words {f : Addr} {fd : FuncData} (k : Nat) : FnOk P w K mg base CX0 k f fd ["breaker"] (spWordsB K 0) :=
  ⟨fun _ _ _ _ h => absurd h.1 (by decide), fun _ _ _ _ _ _ _ _ _ _ _ _ _ h => absurd h.1 (by decide)⟩
theorem ok_words {f : Addr} {fd : FuncData} (D : Df K mg "_law_words" s_law_words ["breaker"] f fd) (T : Txt K w mg cs) (c_law_parts_words : Cl P w K mg base CX0 1 "_law_parts_words" (spPW K)) :
    ∀ j : Nat, FnOk P w K mg base CX0 (j + 2) f fd ["breaker"] (spWords K j)
  | 0 => words_step D T 0 c_law_parts_words (D.cl (no_words _))
  | j + 1 => words_step D T (j + 1) c_law_parts_words (D.cl ((ok_words D T c_law_parts_words j).imp fun _ _ _ _ h => h.2))

end
/-- data of tuples, texts and numbers, so deep at most -/
def TpN : Nat → PyData → Prop
  | 0, _ => False
  | n + 1, d => match d with
    | .str _ => True
    | .int _ => True
    | .tuple xs => xs.length ≤ 1000000 ∧ ∀ x ∈ xs, TpN n x
    | _ => False
def spSame (K : PySem.W.Frag) (j : Nat) : Sp := fun vs H Q _ => ∃ (u v : V) (D : PyData), vs = [u, v] ∧ Dp K H u D ∧ Dp K H v D ∧ TpN j D ∧ Q (.bl true) H
def spSameB (K : PySem.W.Frag) (j : Nat) : Sp := fun vs H Q E => 1 ≤ j ∧ spSame K (j - 1) vs H Q E
section
variable {P : Program} {w : World} {K : PySem.W.Frag} {mg : Str → Option Value} {base : Heap} {cs : Cs}
theorem same_step {f : Addr} {fd : FuncData} (D : Df K mg "_law_same" s_law_same ["found", "due"] f fd) (T : Txt K w mg cs) (j : Nat) (c_law_same : Cl P w K mg base CX0 (j + 1) "_law_same" (spSameB K j)) : FnOk P w K mg base CX0 (j + 2) f fd ["found", "due"] (spSame K j) := by
  refine D.fn.ok sc_law_same (fun vs H Q E h => ?_) (fun cdv A outer s H vs Q E hr h => ?_)
  · obtain ⟨u, v, D, rfl, _⟩ := h
    rfl
  · obtain ⟨u, v, D, rfl, h1, h2, tp, q⟩ := h
    refine ⟨_, (pss_cons (ps_if (pt_val (pe_callB (isiK K) (by rfl) T.n_isinstance (by decide +kernel) (pa_cons (pv 1) (pa_cons (pe_ty "tuple" (by rfl) T.n_tuple (by decide +kernel)) pa_nil)))) (pss_cons (ps_if (PW.pt (pw_or (pt_not (pt_val (pe_callB (isiK K) (by rfl) T.n_isinstance (by decide +kernel) (pa_cons (pv 0) (pa_cons (pe_ty "tuple" (by rfl) T.n_tuple (by decide +kernel)) pa_nil))))) (pw_or1 (pt_cmpR op_ne (pe_callB (lenS K) (by rfl) T.n_len (by decide +kernel) (pa_cons (pv 0) pa_nil)) (pe_callB (lenS K) (by rfl) T.n_len (by decide +kernel) (pa_cons (pv 1) pa_nil)) (nomark _))))) (pss_one (ps_ret pe_bl)) pss_nil) (pss_cons (ps_for PassesOwn.never rfl (pi_range1 (by rfl) T.n_range (pa_cons (pe_callB (lenS K) (by rfl) T.n_len (by decide +kernel) (pa_cons (pv 1) pa_nil)) pa_nil)) (pg_name (i := 2) sc_law_same.nd rfl (.inl rfl)) (pss_one (ps_if (pt_not (pt_val (pe_cl c_law_same hr (by first | decide | omega) (by rfl) (pa_cons (pe_ix (ixT K) (pv 0) (pv 2) (fun _ _ => rfl)) (pa_cons (pe_ix (ixT K) (pv 1) (pv 2) (fun _ _ => rfl)) pa_nil))))) (pss_one (ps_ret pe_bl)) pss_nil))) (pss_one (ps_ret pe_bl)))) pss_nil) (pss_cons (ps_if (pt_val (pe_callB (isiK K) (by rfl) T.n_isinstance (by decide +kernel) (pa_cons (pv 1) (pa_cons (pe_ty "str" (by rfl) T.n_str (by decide +kernel)) pa_nil)))) (pss_one (ps_ret (pe_and (pe_callB (isiK K) (by rfl) T.n_isinstance (by decide +kernel) (pa_cons (pv 0) (pa_cons (pe_ty "str" (by rfl) T.n_str (by decide +kernel)) pa_nil))) (pe_one (pe_cmpR op_eq (pv 0) (pv 1) (nomark _)))))) pss_nil) (pss_one (ps_ret (pe_and (pe_callB (isiK K) (by rfl) T.n_isinstance (by decide +kernel) (pa_cons (pv 0) (pa_cons (pe_ty "int" (by rfl) T.n_int (by decide +kernel)) pa_nil))) (pe_and (pe_not (pe_callB (isiK K) (by rfl) T.n_isinstance (by decide +kernel) (pa_cons (pv 0) (pa_cons (pe_ty "bool" (by rfl) T.n_bool (by decide +kernel)) pa_nil)))) (pe_one (pe_cmpR op_eq (pv 0) (pv 1) (nomark _))))))))), ?_⟩
    cases j with
    | zero => exact tp.elim
    | succ j =>
    cases D with
    | str x =>
      cases h1
      cases h2
      refine ⟨_, rfl, _, _, _, _, false, rfl, .ty "tuple", .base (.str _), kit_ty (by decide +kernel), _, rfl, ?_⟩
      refine ⟨_, rfl, _, _, _, _, true, rfl, .ty "str", .base (.str _), kit_ty (by decide +kernel), _, rfl, ?_⟩
      refine ⟨_, rfl, _, _, _, _, true, rfl, .ty "str", .base (.str _), kit_ty (by decide +kernel), _, rfl, ?_⟩
      refine ⟨_, rfl, _, rfl, rfl, ?_⟩
      rw [decide_eq_true rfl]
      exact q
    | int i =>
      cases h1
      cases h2
      refine ⟨_, rfl, _, _, _, _, false, rfl, .ty "tuple", .base (.int _), kit_ty (by decide +kernel), _, rfl, ?_⟩
      refine ⟨_, rfl, _, _, _, _, false, rfl, .ty "str", .base (.int _), kit_ty (by decide +kernel), _, rfl, ?_⟩
      refine ⟨_, rfl, _, _, _, _, true, rfl, .ty "int", .base (.int _), kit_ty (by decide +kernel), _, rfl, ?_⟩
      refine ⟨_, rfl, _, _, _, _, false, rfl, .ty "bool", .base (.int _), kit_ty (by decide +kernel), _, rfl, ?_⟩
      refine ⟨_, rfl, _, rfl, _, rfl, rfl, ?_⟩
      rw [decide_eq_true rfl]
      exact q
    | tuple xs =>
      obtain ⟨xl, tx⟩ := tp
      obtain ⟨a, us, rfl, hT, hA⟩ : ∃ a us, u = .ref a ∧ SqT K H a us ∧ DpAll K H us xs := by
        cases h1 with
        | tup hT hA => exact ⟨_, _, rfl, hT, hA⟩
      obtain ⟨b, ws, rfl, hU, hB⟩ : ∃ a us, v = .ref a ∧ SqT K H a us ∧ DpAll K H us xs := by
        cases h2 with
        | tup hT hA => exact ⟨_, _, rfl, hT, hA⟩
      have la := dp_all_len hA
      have lb := dp_all_len hB
      refine ⟨_, rfl, _, _, _, _, true, rfl, .ty "tuple", dp_ty h2, kit_tup _, _, rfl, ?_⟩
      refine ⟨_, rfl, _, _, _, _, true, rfl, .ty "tuple", dp_ty h1, kit_tup _, _, rfl, ?_⟩
      refine ⟨_, rfl, a, us, rfl, .inr hT, _, rfl, b, ws, rfl, .inr hU, rfl, _, rfl, ?_⟩
      rw [decide_eq_true (show V.int ((us.length : Nat) : Int) = V.int ((ws.length : Nat) : Int) by rw [la, lb])]
      refine ⟨_, rfl, b, ws, rfl, .inr hU, _, rfl, by omega, by omega, for_range (lo := 0) (n := ws.length) (fun i σ H' => ∃ y : Option V, σ = [some (.ref a), some (.ref b), y] ∧ H' = H) ?_ ?_ ?_⟩
      · exact ⟨none, rfl, rfl⟩
      · rintro i σ H' hi ⟨y, rfl, rfl⟩
        rw [show ((0 : Int) + (i : Int)) = (i : Int) from Int.zero_add _]
        have eu : us[i]? = some us[i] := List.getElem?_eq_getElem (by omega)
        have ew : ws[i]? = some ws[i] := List.getElem?_eq_getElem (by omega)
        obtain ⟨d1, e1, g1⟩ := dp_all_get hA eu
        obtain ⟨d2, e2, g2⟩ := dp_all_get hB ew
        rw [e1] at e2
        cases e2
        refine ⟨_, rfl, _, rfl, a, us, (i : Int), _, rfl, rfl, hT, atI_nat eu, _, rfl, _, rfl, b, ws, (i : Int), _, rfl, rfl, hU, atI_nat ew, by omega, _, _, d1, rfl, g1, g2, tx d1 (List.mem_of_getElem? e1), _, rfl, ?_⟩
        exact ⟨_, rfl, rfl⟩
      · rintro σ H' ⟨y, rfl, rfl⟩
        exact q
    | _ => exact tp.elim
theorem no_same {f : Addr} {fd : FuncData} (k : Nat) : FnOk P w K mg base CX0 k f fd ["found", "due"] (spSameB K 0) :=
  ⟨fun _ _ _ _ h => absurd h.1 (by decide), fun _ _ _ _ _ _ _ _ _ _ _ _ _ h => absurd h.1 (by decide)⟩
theorem ok_same {f : Addr} {fd : FuncData} (D : Df K mg "_law_same" s_law_same ["found", "due"] f fd) (T : Txt K w mg cs) : ∀ j : Nat, FnOk P w K mg base CX0 (j + 2) f fd ["found", "due"] (spSame K j)
  | 0 => same_step D T 0 (D.cl (no_same _))
  | j + 1 => same_step D T (j + 1) (D.cl ((ok_same D T j).imp fun _ _ _ _ h => h.2))
end

def glue : List (List Nat) → List Nat → List Nat
  | w :: ws, k :: ks => w ++ (List.replicate k 32 ++ glue ws ks)
  | _, _ => []
theorem glue_snoc (w : List Nat) (k : Nat) : ∀ (ws : List (List Nat)) (ks : List Nat), ws.length = ks.length → glue (ws ++ [w]) (ks ++ [k]) = glue ws ks ++ (w ++ List.replicate k 32)
  | [], [], _ => by
    show w ++ (List.replicate k 32 ++ []) = _
    rw [List.append_nil]
    rfl
  | x :: ws, j :: ks, h => by
    show x ++ (List.replicate j 32 ++ glue (ws ++ [w]) (ks ++ [k])) = x ++ (List.replicate j 32 ++ glue ws ks) ++ _
    rw [glue_snoc w k ws ks (Nat.succ.inj h)]
    simp only [List.append_assoc]
  | [], _ :: _, h => nomatch h
  | _ :: _, [], h => nomatch h
def Par (w : List Nat) : Prop := w = [40] ∨ w = [41]
/-- none behind a word: only beside a parenthesis or at the end -/
def SepOk (ws : List (List Nat)) (ks : List Nat) : Prop := ∀ j w, ks[j]? = some 0 → ws[j]? = some w → Par w ∨ ws[j + 1]? = none ∨ ∃ v, ws[j + 1]? = some v ∧ Par v
theorem glue_spc : ∀ (ws : List (List Nat)) (ks : List Nat), ws.length = ks.length → SepOk ws ks → Spc ws (glue ws ks)
  | [], [], _, _ => .nil
  | w :: ws, k :: ks, h, s => by
    refine .cons w ws k _ (glue_spc ws ks (Nat.succ.inj h) fun j v hk hv => s (j + 1) v hk hv) fun hk => ?_
    subst hk
    rcases s 0 w rfl rfl with (z | z) | z | ⟨v, z, p⟩
    · exact .inl z
    · exact .inr (.inl z)
    · refine .inr (.inr (.inl ?_))
      cases ws with
      | nil => rfl
      | cons _ _ => cases z
    · cases ws with
      | nil => cases z
      | cons x xs =>
        cases z
        rcases p with e | e <;> subst e
        · exact .inr (.inr (.inr ⟨xs, .inl rfl⟩))
        · exact .inr (.inr (.inr ⟨xs, .inr rfl⟩))
  | [], _ :: _, h, _ => nomatch h
  | _ :: _, [], h, _ => nomatch h
theorem rep_blank (n : Nat) : (List.replicate n [32]).flatten = List.replicate n 32 := by
  induction n with
  | zero => rfl
  | succ n ih =>
    rw [List.replicate_succ, List.flatten_cons, ih]
    rfl
theorem glue_len : ∀ (ws : List (List Nat)) (ks : List Nat), (∀ w ∈ ws, w.length ≤ 5) → (∀ k ∈ ks, k ≤ 4) → (glue ws ks).length ≤ 9 * ws.length
  | [], _, _, _ => Nat.zero_le _
  | w :: ws, [], _, _ => Nat.zero_le _
  | w :: ws, k :: ks, h, g => by
    show (w ++ (List.replicate k 32 ++ glue ws ks)).length ≤ _
    have h1 := h w List.mem_cons_self
    have h2 := g k List.mem_cons_self
    have h3 := glue_len ws ks (fun x hx => h x (List.mem_cons_of_mem _ hx)) fun x hx => g x (List.mem_cons_of_mem _ hx)
    rw [List.length_append, List.length_append, List.length_replicate, List.length_cons]
    omega
theorem par_in (w : List Nat) : inV (.str (SX.S w)) [.str "(", .str ")"] = decide (w = [40] ∨ w = [41]) := by
  have e1 : V.str (SX.S w) = .str "(" ↔ w = [40] := by rw [show ("(" : Str) = SX.S [40] by decide +kernel, S_eq]
  have e2 : V.str (SX.S w) = .str ")" ↔ w = [41] := by rw [show (")" : Str) = SX.S [41] by decide +kernel, S_eq]
  have q : ∀ (x : Str), eqV (.str x) (.str (SX.S w)) = decide (V.str (SX.S w) = .str x) := fun x => by
    show (x == SX.S w) = _
    by_cases h : x = SX.S w
    · rw [h, decide_eq_true rfl]
      exact beq_self_eq_true _
    · rw [decide_eq_false fun z => h (V.str.inj z).symm]
      exact beq_eq_false_iff_ne.mpr h
  show ([V.str "(", V.str ")"].any fun y => eqV y (.str (SX.S w))) = _
  rw [List.any_cons, List.any_cons, List.any_nil, q, q, Bool.or_false, Bool.eq_iff_iff]
  simp only [Bool.or_eq_true, decide_eq_true_eq, e1, e2]
def spSpaced (K : PySem.W.Frag) : Sp := fun vs H Q _ => ∃ (a d L : Addr) (ws : List (List Nat)), vs = [.ref a, .ref L] ∧ Hnd H a d ∧ H L = some (.lst (wordV ws)) ∧ L ≠ a ∧ ws.length ≤ 90000 ∧ (∀ w ∈ ws, w.length ≤ 5) ∧
  ∀ k t H', Spc ws t → (List.replicate k 32 ++ t).length ≤ 9 * ws.length + 4 → Hnd H' a d → Keep a H H' → Q (.str (SX.S (List.replicate k 32 ++ t))) H'
section
variable {P : Program} {w : World} {K : PySem.W.Frag} {mg : Str → Option Value} {base : Heap} {cs : Cs}
theorem ok_spaced {f : Addr} {fd : FuncData} (D : Df K mg "_law_spaced" s_law_spaced ["hand", "words"] f fd) (T : Txt K w mg cs) (c_law_take : Cl P w K mg base CX0 1 "_law_take" spTake) : FnOk P w K mg base CX0 2 f fd ["hand", "words"] (spSpaced K) := by
  refine D.fn.ok sc_law_spaced (fun vs H Q E h => ?_) (fun cdv A outer s H vs Q E hr h => ?_)
  · obtain ⟨a, d, L, ws, rfl, _⟩ := h
    rfl
  · obtain ⟨a, d, L, ws, rfl, hh, hL, nL, hl, hw, q⟩ := h
    refine ⟨_, (pss_cons (ps_set (i := 2) sc_law_spaced.nd rfl (.inl rfl) (pe_op op_repS pe_str (pe_op op_fdiv (pe_cl c_law_take hr (by first | decide | omega) (by rfl) (pa_cons (pv 0) (pa_cons pe_int pa_nil))) pe_int))) (pss_cons (ps_for PassesOwn.never rfl (pi_range1 (by rfl) T.n_range (pa_cons (pe_callB (lenS K) (by rfl) T.n_len (by decide +kernel) (pa_cons (pv 1) pa_nil)) pa_nil)) (pg_name (i := 3) sc_law_spaced.nd rfl (.inl rfl)) (pss_cons (ps_set (i := 4) sc_law_spaced.nd rfl (.inl rfl) (pe_ix (ixL K) (pe_lst (pa_cons pe_int (pa_cons pe_int (pa_cons pe_int (pa_cons (pe_cl c_law_take hr (by first | decide | omega) (by rfl) (pa_cons (pv 0) (pa_cons pe_int pa_nil))) pa_nil))))) (pe_cl c_law_take hr (by first | decide | omega) (by rfl) (pa_cons (pv 0) (pa_cons pe_int pa_nil))) (fun _ _ => rfl))) (C8.pss_cut (ps_if (PW.pt (pw_and (pt_cmpR op_eq (pv 4) pe_int (nomark _)) (pw_and (pt_cmpR op_lt (pe_op op_add (pv 3) pe_int) (pe_callB (lenS K) (by rfl) T.n_len (by decide +kernel) (pa_cons (pv 1) pa_nil)) (nomark _)) (pw_and (pt_cmpR op_notIn_seq (pe_ix (ixL K) (pv 1) (pv 3) (fun _ _ => rfl)) (pe_lst (pa_cons pe_str (pa_cons pe_str pa_nil))) (by rfl)) (pw_and1 (pt_cmpR op_notIn_seq (pe_ix (ixL K) (pv 1) (pe_op op_add (pv 3) pe_int) (fun _ _ => rfl)) (pe_lst (pa_cons pe_str (pa_cons pe_str pa_nil))) (by rfl))))))) (pss_one (ps_set (i := 4) sc_law_spaced.nd rfl (.inl rfl) pe_int)) pss_nil) (pss_one (ps_set (i := 2) sc_law_spaced.nd rfl (.inl rfl) (pe_op op_add_str (pe_op op_add_str (pv 2) (pe_ix (ixL K) (pv 1) (pv 3) (fun _ _ => rfl))) (pe_op op_repS pe_str (pv 4)))))))) (pss_one (ps_ret (pv 2))))), ?_⟩
    have hlw : (wordV ws).length = ws.length := wordV_len ws
    refine ⟨_, rfl, a, d, 8, rfl, by decide, hh, fun r H1 l1 u1 n1 k1 => ⟨_, _, rfl, rfl, ⟨by decide, by decide⟩, [32], r / 2, ?_, rfl, ⟨by omega, ?_, by omega⟩, ?_⟩⟩
    · rw [bl_S]
    · show 1 * (r / 2).toNat ≤ _
      omega
    rw [rep_blank]
    obtain ⟨k0, ek0, hk0⟩ : ∃ k0 : Nat, (r / 2).toNat = k0 ∧ k0 ≤ 4 := ⟨_, rfl, by omega⟩
    rw [ek0]
    have hL1 := k1 _ _ hL nL
    refine ⟨_, rfl, L, _, rfl, .inl (.inl (.inl hL1)), _, rfl, by omega, by omega, for_range (lo := 0) (n := (wordV ws).length) (fun i σ H' => ∃ (ks : List Nat) (y3 y4 : Option V), σ = [some (.ref a), some (.ref L), some (.str (SX.S (List.replicate k0 32 ++ glue (ws.take i) ks))), y3, y4] ∧ ks.length = i ∧ i ≤ ws.length ∧ (∀ k ∈ ks, k ≤ 4) ∧ SepOk ws ks ∧ H' L = some (.lst (wordV ws)) ∧ Hnd H' a d ∧ Keep a H H') ?_ ?_ ?_⟩
    · refine ⟨[], none, none, ?_, rfl, Nat.zero_le _, (fun _ h => nomatch h), (fun j v hj => nomatch hj), hL1, n1, k1⟩
      show [_, _, some (V.str (SX.S (List.replicate k0 32))), _, _] = _
      rw [List.take_zero, show glue [] [] = [] from rfl, List.append_nil]
    · rintro i σ H' hi ⟨ks, y3, y4, rfl, hkl, hiw, hk4, sep, hL', hn, hkp⟩
      rw [hlw] at hi
      rw [show ((0 : Int) + (i : Int)) = (i : Int) from Int.zero_add _]
      have ew := List.getElem?_eq_getElem hi
      generalize ws[i] = wd at ew
      have w5 := hw wd (List.mem_of_getElem? ew)
      have wat : ∀ {j : Nat} {x : List Nat}, ws[j]? = some x → atI (wordV ws) (j : Int) = some (V.str (SX.S x)) := fun {j x} h => atI_nat (by
        unfold wordV
        rw [List.getElem?_map, h]
        rfl)
      refine ⟨_, rfl, a, d, 5, rfl, by decide, hn, fun r5 H5 l5 u5 n5 k5 => ⟨(by show 4 ≤ sizeLine; decide), fun N nN => ⟨_, rfl, a, d, 4, rfl, by decide, n5.new nN, fun r4 H6 l4 u4 n6 k6 => ?_⟩⟩⟩
      have hN6 := k6 _ _ (upd_same : upd H5 N (.lst [.int 0, .int 0, .int 1, .int r5]) N = _) (n5.ne nN).1
      obtain ⟨x, hat, hmem⟩ := atI_mem (xs := [V.int 0, .int 0, .int 1, .int r5]) l4 (show r4 < 4 from u4)
      obtain ⟨m, rfl, m4⟩ : ∃ m : Nat, x = .int (m : Int) ∧ m ≤ 4 := by
        rcases List.mem_cons.mp hmem with e | h
        · exact ⟨0, e, by decide⟩
        rcases List.mem_cons.mp h with e | h
        · exact ⟨0, e, by decide⟩
        rcases List.mem_cons.mp h with e | h
        · exact ⟨1, e, by decide⟩
        · exact ⟨r5.toNat, by rw [List.mem_singleton.mp h, show ((r5.toNat : Nat) : Int) = r5 by omega], by omega⟩
      have kp6 := ((hkp.trans k5).trans (Keep.new (o := .lst [.int 0, .int 0, .int 1, .int r5]) nN)).trans k6
      have hL6 := kp6 _ _ hL nL
      refine ⟨N, _, r4, _, rfl, rfl, .inl (.inl hN6), hat, ?_⟩
      refine ⟨fun σ2 H2 => ∃ m : Nat, σ2 = [some (.ref a), some (.ref L), some (.str (SX.S (List.replicate k0 32 ++ glue (ws.take i) ks))), some (.int (i : Int)), some (.int (m : Int))] ∧ m ≤ 4 ∧ (m = 0 → Par wd ∨ ws[i + 1]? = none ∨ ∃ v, ws[i + 1]? = some v ∧ Par v) ∧ Hnd H2 a d ∧ Keep a H H2, ?_, ?_⟩
      · refine ⟨_, rfl, rfl, _, rfl, ?_⟩
        by_cases m0 : m = 0
        · rw [decide_eq_true (show V.int (m : Int) = V.int 0 by rw [m0]; rfl)]
          refine ⟨_, rfl, _, _, rfl, rfl, _, rfl, L, _, rfl, .inl (.inl (.inl hL6)), _, _, rfl, rfl, _, rfl, ?_⟩
          rw [hlw]
          by_cases lt : i + 1 < ws.length
          · rw [decide_eq_true (show (i : Int) + 1 < ((ws.length : Nat) : Int) by omega)]
            refine ⟨_, rfl, _, rfl, L, _, _, _, rfl, rfl, .inl (.inl hL6), wat ew, (by show 2 ≤ sizeLine; decide), fun O nO => ⟨O, _, rfl, .inl (.inl (.inl upd_same)), rfl, rfl, _, rfl, ?_⟩⟩
            have kp7 := kp6.trans (Keep.new (o := .lst [.str "(", .str ")"]) nO)
            have n7 := n6.new (o := .lst [.str "(", .str ")"]) nO
            rw [par_in]
            by_cases p1 : wd = [40] ∨ wd = [41]
            · rw [decide_eq_true p1]
              exact ⟨m, rfl, m4, fun _ => .inl p1, n7, kp7⟩
            · rw [decide_eq_false p1]
              have ev := List.getElem?_eq_getElem lt
              generalize ws[i + 1] = v at ev
              refine ⟨_, rfl, _, rfl, _, _, rfl, rfl, L, _, _, _, rfl, rfl, .inl (.inl (kp7 _ _ hL nL)), (show atI (wordV ws) ((i : Int) + 1) = _ from wat (j := i + 1) ev), (by show 2 ≤ sizeLine; decide), fun O2 nO2 => ⟨O2, _, rfl, .inl (.inl (.inl upd_same)), rfl, rfl, _, rfl, ?_⟩⟩
              have kp8 := kp7.trans (Keep.new (o := .lst [.str "(", .str ")"]) nO2)
              have n8 := n7.new (o := .lst [.str "(", .str ")"]) nO2
              rw [par_in]
              by_cases p2 : v = [40] ∨ v = [41]
              · rw [decide_eq_true p2]
                exact ⟨m, rfl, m4, fun _ => .inr (.inr ⟨v, ev, p2⟩), n8, kp8⟩
              · rw [decide_eq_false p2]
                exact ⟨1, rfl, by decide, fun h => absurd h (by decide), n8, kp8⟩
          · rw [decide_eq_false (show ¬ (i : Int) + 1 < ((ws.length : Nat) : Int) by omega)]
            exact ⟨m, rfl, m4, fun _ => .inr (.inl (List.getElem?_eq_none (by omega))), n6, kp6⟩
        · rw [decide_eq_false (show ¬ V.int (m : Int) = V.int 0 from fun z => m0 (by have := V.int.inj z; omega))]
          exact ⟨m, rfl, m4, fun h => absurd h m0, n6, kp6⟩
      · rintro σ2 H2 ⟨m, rfl, m4, hm, n2, kp2⟩
        have hL2 := kp2 _ _ hL nL
        have gl := glue_len (ws.take i) ks (fun x hx => hw x (List.mem_of_mem_take hx)) hk4
        rw [List.length_take] at gl
        refine ⟨_, rfl, _, rfl, _, rfl, L, _, _, _, rfl, rfl, .inl (.inl hL2), wat ew, _, _, rfl, rfl, ?_, _, rfl, [32], (m : Int), by rw [bl_S], rfl, ⟨by omega, ?_, by omega⟩, _, _, rfl, rfl, ?_, ?_⟩
        · rw [SX.S_len (List.replicate k0 32 ++ glue (ws.take i) ks), SX.S_len wd, List.length_append, List.length_replicate, sizeLine_eq]
          omega
        · show 1 * (m : Int).toNat ≤ _
          omega
        · rw [SX.S_cat, rep_blank, SX.S_len, SX.S_len, Int.toNat_natCast, List.length_append, List.length_append, List.length_replicate, List.length_replicate, sizeLine_eq]
          omega
        · refine ⟨ks ++ [m], some (.int (i : Int)), some (.int (m : Int)), ?_, by rw [List.length_append, hkl]; rfl, hi, ?_, ?_, hL2, n2, kp2⟩
          · rw [SX.S_cat, rep_blank, SX.S_cat, Int.toNat_natCast]
            show [_, _, some (V.str (SX.S (List.replicate k0 32 ++ glue (ws.take i) ks ++ wd ++ List.replicate m 32))), _, _] = _
            rw [List.take_add_one, ew]
            show _ = [_, _, some (V.str (SX.S (List.replicate k0 32 ++ glue (ws.take i ++ [wd]) (ks ++ [m])))), _, _]
            rw [glue_snoc wd m (ws.take i) ks (by rw [List.length_take, hkl]; omega)]
            simp only [List.append_assoc]
          · intro k hk
            rcases List.mem_append.mp hk with z | z
            · exact hk4 k z
            · rw [List.mem_singleton.mp z]
              exact m4
          · intro j v hj hv
            by_cases lt : j < ks.length
            · rw [List.getElem?_append_left lt] at hj
              exact sep j v hj hv
            · rw [List.getElem?_append_right (by omega)] at hj
              have ej : j = i := by
                have := (List.getElem?_eq_some_iff.mp hj).1
                simp at this
                omega
              subst ej
              rw [hkl, Nat.sub_self] at hj
              have em : m = 0 := Option.some.inj hj
              rw [ew] at hv
              cases hv
              exact hm em
    · rintro σ H' ⟨ks, y3, y4, rfl, hkl, hiw, hk4, sep, hL', hn, hkp⟩
      rw [hlw] at hkl hiw
      rw [hlw, List.take_length]
      refine ⟨_, rfl, q k0 _ H' (glue_spc ws ks hkl.symm sep) ?_ hn hkp⟩
      have := glue_len ws ks hw hk4
      rw [List.length_append, List.length_replicate]
      omega
end

theorem lawTxt_spc : ∀ ws : List (List Nat), Spc ws (lawTxt ws)
  | [] => .nil
  | [w] => Spc.cons w [] 0 [] .nil fun _ => .inr (.inr (.inl rfl))
  | w :: x :: xs => by
    have h := lawTxt_spc (x :: xs)
    show Spc (w :: x :: xs) (w ++ ((if x ≠ [41] ∧ w ≠ [40] then [32] else []) ++ lawTxt (x :: xs)))
    by_cases c : x ≠ [41] ∧ w ≠ [40]
    · rw [if_pos c]
      exact Spc.cons w (x :: xs) 1 _ h fun z => absurd z (by decide)
    · rw [if_neg c]
      refine Spc.cons w (x :: xs) 0 _ h fun _ => ?_
      by_cases c1 : w = [40]
      · exact .inl c1
      · refine .inr (.inr (.inr ⟨xs, .inr ?_⟩))
        by_cases c2 : x = [41]
        · rw [c2]
        · exact absurd ⟨c2, c1⟩ c
/-- parts on the heap without the hand -/
def PsOn (K : PySem.W.Frag) (a : Addr) (H : Hp) (v : V) (ps : List Pa) : Prop := Dp K (off a H) v (psD ps) ∧ (∀ p ∈ ps, paOk p)
def rfP : Pa → Prop
  | .bit _ => False
  | .ref _ => True
def spFarParts (K : PySem.W.Frag) : Sp := fun vs H Q _ => ∃ (a d : Addr) (v : V) (ps : List Pa), vs = [.ref a, v] ∧ Hnd H a d ∧ PsOn K a H v ps ∧ ps.length ≤ 1000 ∧ ∀ r ps' H', ps'.length = ps.length → ((∀ p ∈ ps, rfP p) → ∀ p ∈ ps', rfP p) → PsOn K a H' (.ref r) ps' → Hnd H' a d → Keep a H H' → Q (.ref r) H'
theorem pa_none {K : PySem.W.Frag} {H : Hp} {x : V} {p : Pa} (h : Dp K H x (paD p)) : ∀ {H' : Hp}, Dp K H' x (paD p) := fun {H'} => by
  cases p with
  | bit b => cases h; exact .str _
  | ref i => cases h; exact .int _
section
variable {P : Program} {w : World} {K : PySem.W.Frag} {mg : Str → Option Value} {base : Heap} {cs : Cs}
theorem ok_farparts {f : Addr} {fd : FuncData} (D : Df K mg "_law_far_parts" s_law_far_parts ["hand", "parts"] f fd) (T : Txt K w mg cs) (c_law_take : Cl P w K mg base CX0 1 "_law_take" spTake) : FnOk P w K mg base CX0 2 f fd ["hand", "parts"] (spFarParts K) := by
  refine D.fn.ok sc_law_far_parts (fun vs H Q E h => ?_) (fun cdv A outer s H vs Q E hr h => ?_)
  · obtain ⟨a, d, v, ps, rfl, _⟩ := h
    rfl
  · obtain ⟨a, d, v, ps, rfl, hh, ⟨hd, hp⟩, hl, q⟩ := h
    refine ⟨_, (pss_cons (ps_set (i := 2) sc_law_far_parts.nd rfl (.inl rfl) (pe_lst pa_nil)) (pss_cons (ps_for PassesOwn.never rfl (pi_tup (pv 1)) (pg_name (i := 3) sc_law_far_parts.nd rfl (.inl rfl)) (C8.pss_cut (ps_if (PW.pt (pw_and (pt_val (pe_callB (isiK K) (by rfl) T.n_isinstance (by decide +kernel) (pa_cons (pv 3) (pa_cons (pe_ty "int" (by rfl) T.n_int (by decide +kernel)) pa_nil)))) (pw_and1 (pt_cmpR op_eq (pe_cl c_law_take hr (by first | decide | omega) (by rfl) (pa_cons (pv 0) (pa_cons pe_int pa_nil))) pe_int (nomark _))))) (pss_one (ps_set (i := 3) sc_law_far_parts.nd rfl (.inl rfl) (pe_ix (ixL K) (pe_lst (pa_cons pe_int (pa_cons pe_int (pa_cons pe_int (pa_cons (pe_cl c_law_take hr (by first | decide | omega) (by rfl) (pa_cons (pv 0) (pa_cons pe_int pa_nil))) pa_nil))))) (pe_cl c_law_take hr (by first | decide | omega) (by rfl) (pa_cons (pv 0) (pa_cons pe_int pa_nil))) (fun _ _ => rfl)))) pss_nil) (pss_one (ps_expr (pe_bm PySem.F.plainAttrs_list PySem.F.slot_list_append PySem.F.type_list_append mt_append (pv 2) (pa_cons (pv 3) pa_nil)))))) (pss_one (ps_ret (pe_callTy (tupOf K) (by rfl) T.n_tuple (by decide +kernel) (pa_cons (pv 2) pa_nil)))))), ?_⟩
    obtain ⟨t, us, rfl, hT, hA⟩ : ∃ t us, v = .ref t ∧ SqT K (off a H) t us ∧ DpAll K (off a H) us (ps.map paD) := by
      cases hd with
      | tup hT hA => exact ⟨_, _, rfl, hT, hA⟩
    have la := dp_all_len hA
    rw [List.length_map] at la
    refine ⟨(by show 0 ≤ sizeLine; decide), fun L nL => ?_⟩
    have neL := hh.ne nL
    have keepT : ∀ {H' : Hp}, Keep a H H' → SqT K H' t us := fun k => sqt_on (same_sqt k.off hT)
    refine ⟨_, rfl, t, rfl, ⟨_, keepT (Keep.new nL)⟩, for_tup (xs := us) (fun i σ H' => ∃ (ws : List V) (qs : List Pa) (y3 : Option V), σ = [some (.ref a), some (.ref t), some (.ref L), y3] ∧ qs.length = i ∧ (∀ G, DpAll K G ws (qs.map paD)) ∧ (∀ p ∈ qs, paOk p) ∧ ((∀ p ∈ ps, rfP p) → ∀ p ∈ qs, rfP p) ∧ H' L = some (.lst ws) ∧ Hnd H' a d ∧ Keep a H H') ?_ ?_ ?_ ?_⟩
    · exact ⟨[], [], none, rfl, rfl, fun G => .nil, (fun _ h => nomatch h), (fun _ _ h => nomatch h), upd_same, hh.new nL, Keep.new nL⟩
    · rintro i σ H' _ ⟨ws, qs, y3, rfl, hq, hw, ok, rk, eL, hn, kp⟩
      exact keepT kp
    · rintro i x σ H' hx ⟨ws, qs, y3, rfl, hq, hw, ok, rk, eL, hn, kp⟩
      obtain ⟨p, hpi, hdp⟩ := psD_at hA hx
      have okp := hp p (List.mem_of_getElem? hpi)
      refine ⟨fun σ2 H2 => ∃ (v : V) (p2 : Pa), σ2 = [some (.ref a), some (.ref t), some (.ref L), some v] ∧ paOk p2 ∧ (rfP p → rfP p2) ∧ (∀ G, Dp K G v (paD p2)) ∧ H2 L = some (.lst ws) ∧ Hnd H2 a d ∧ Keep a H H2, ?_, ?_⟩
      · cases p with
        | bit b =>
          cases hdp
          refine ⟨_, rfl, _, _, _, _, false, rfl, .ty "int", .base (.str _), kit_ty (by decide +kernel), _, rfl, ?_⟩
          exact ⟨_, .bit b, rfl, trivial, id, fun G => .str _, eL, hn, kp⟩
        | ref k =>
          cases hdp
          refine ⟨_, rfl, _, _, _, _, true, rfl, .ty "int", .base (.int _), kit_ty (by decide +kernel), _, rfl, ?_⟩
          refine ⟨_, rfl, a, d, 4, rfl, by decide, hn, fun r1 H1 l1 u1 n1 k1 => ⟨rfl, _, rfl, ?_⟩⟩
          have eL1 := k1 _ _ eL neL.1
          by_cases c : r1 = 0
          · rw [decide_eq_true (show V.int r1 = V.int 0 from congrArg V.int c)]
            refine ⟨_, rfl, a, d, 10000, rfl, by decide, n1, fun r2 H2 l2 u2 n2 k2 => ⟨(by show 4 ≤ sizeLine; decide), fun N nN => ⟨_, rfl, a, d, 4, rfl, by decide, n2.new nN, fun r3 H3 l3 u3 n3 k3 => ?_⟩⟩⟩
            have hN := k3 _ _ (upd_same : upd H2 N (.lst [.int 9999, .int 10, .int 100, .int r2]) N = _) (n2.ne nN).1
            obtain ⟨y, hat, hmem⟩ := atI_mem (xs := [V.int 9999, .int 10, .int 100, .int r2]) l3 (show r3 < 4 from u3)
            obtain ⟨m, rfl, m9⟩ : ∃ m : Nat, y = .int (m : Int) ∧ m ≤ 9999 := by
              rcases List.mem_cons.mp hmem with e | h
              · exact ⟨9999, e, by decide⟩
              rcases List.mem_cons.mp h with e | h
              · exact ⟨10, e, by decide⟩
              rcases List.mem_cons.mp h with e | h
              · exact ⟨100, e, by decide⟩
              · exact ⟨r2.toNat, by rw [List.mem_singleton.mp h, show ((r2.toNat : Nat) : Int) = r2 by omega], by omega⟩
            have kn := Keep.new (a := a) (o := .lst [.int 9999, .int 10, .int 100, .int r2]) nN
            have k0 := ((k1.trans k2).trans kn).trans k3
            exact ⟨N, _, r3, _, rfl, rfl, .inl (.inl hN), hat, _, .ref m, rfl, m9, id, fun G => .int _, k0 _ _ eL neL.1, n3, kp.trans k0⟩
          · rw [decide_eq_false (show ¬ V.int r1 = V.int 0 from fun z => c (V.int.inj z))]
            exact ⟨_, .ref k, rfl, okp, id, fun G => .int _, eL1, n1, kp.trans k1⟩
      · rintro σ2 H2 ⟨v, p2, rfl, ok2, rf2, dp2, eL2, n2, kp2⟩
        have hw2 := dp_all_len (hw H)
        rw [List.length_map] at hw2
        have hi := (List.getElem?_eq_some_iff.mp hx).1
        refine ⟨_, rfl, .inl ⟨rfl, _, .inl (.inl eL2)⟩, _, rfl, L, _, _, rfl, rfl, eL2, by rw [sizeLine_eq]; omega, ?_⟩
        refine ⟨ws ++ [v], qs ++ [p2], some v, rfl, by rw [List.length_append, hq]; rfl, fun G => ?_, fun p hp' => ?_, fun ha p' hp' => ?_, upd_same, n2.set neL.1 neL.2, kp2.set nL⟩
        · rw [List.map_append]
          exact dpAll_snoc (hw G) (dp2 G)
        · rcases List.mem_append.mp hp' with z | z
          · exact ok p z
          · rw [List.mem_singleton.mp z]
            exact ok2
        · rcases List.mem_append.mp hp' with z | z
          · exact rk ha p' z
          · rw [List.mem_singleton.mp z]
            exact rf2 (ha p (List.mem_of_getElem? hpi))
    · rintro σ H' ⟨ws, qs, y3, rfl, hq, hw, ok, rk, eL, hn, kp⟩
      refine ⟨_, rfl, L, _, rfl, .inl ⟨.inl (.inl eL), fun r nr => q r qs _ (by rw [hq, la]) rk ⟨?_, ok⟩ (hn.new nr) (kp.trans (Keep.new nr))⟩⟩
      refine .tup (.inl (.inl ?_)) (hw _)
      rw [off_ne (hn.ne nr).1, upd_same]
end

/-! ### how long a text is: the breakers within, and their parts -/
mutual
def nB : Br → Nat
  | .say _ => 1
  | .toss bs => 1 + nBs bs
  | .look _ a b => 1 + (nB a + nB b)
  | .ask _ a => 1 + nB a
def nBs : List Br → Nat
  | [] => 0
  | b :: bs => nB b + nBs bs
end
mutual
def pB : Br → Nat
  | .say ps => ps.length
  | .toss bs => pBs bs
  | .look _ a b => pB a + pB b
  | .ask ps a => ps.length + pB a
def pBs : List Br → Nat
  | [] => 0
  | b :: bs => pB b + pBs bs
end
theorem parts_sum {ps : List Pa} (h : ∀ p ∈ ps, paOk p) : ((ps.map paC).map List.length).sum ≤ 5 * ps.length := by
  induction ps with
  | nil => exact Nat.le_refl 0
  | cons p ps ih =>
    rw [List.map_cons, List.map_cons, List.sum_cons, List.length_cons]
    have h1 := paC_small (h p List.mem_cons_self)
    have h2 := ih fun q hq => h q (List.mem_cons_of_mem _ hq)
    omega
mutual
theorem txt_len : ∀ (b : Br) {n : Nat}, okB n b → (txtC b).length + 1 ≤ 14 * nB b + 6 * pB b
  | .say ps, 0, h => h.elim
  | .say ps, n + 1, h => by
    have s := parts_sum h
    show (TL.joinL [32] (sayC :: ps.map paC) ++ [41]).length + 1 + 1 ≤ 14 * 1 + 6 * ps.length
    rw [List.length_append, join_sum, List.length_map]
    show 3 + _ + _ + 1 + 1 + 1 ≤ _
    omega
  | .toss bs, 0, h => h.elim
  | .toss bs, n + 1, h => by
    have s := txts_len bs h.2
    show (TL.joinL [32] (tossC :: txtsC bs) ++ [41]).length + 1 + 1 ≤ 14 * (1 + nBs bs) + 6 * pBs bs
    rw [List.length_append, join_sum]
    show 4 + _ + _ + 1 + 1 + 1 ≤ _
    omega
  | .look i a b, 0, h => h.elim
  | .look i a b, n + 1, h => by
    obtain ⟨h1, h2, h3⟩ := h
    have s1 := txt_len a h2
    have s2 := txt_len b h3
    have s3 := numL_small h1
    show (TL.joinL [32] [lookC, TL.numL i, txtC a, txtC b] ++ [41]).length + 1 + 1 ≤ 14 * (1 + (nB a + nB b)) + 6 * (pB a + pB b)
    rw [List.length_append, join_sum]
    show 4 + ((TL.numL i).length + ((txtC a).length + ((txtC b).length + 0))) + 3 + 1 + 1 + 1 ≤ _
    omega
  | .ask ps a, 0, h => h.elim
  | .ask ps a, n + 1, h => by
    obtain ⟨h1, h2⟩ := h
    have s := parts_sum h1
    have s1 := txt_len a h2
    have j := joinL_len (ps.map paC)
    rw [List.length_map] at j
    show (TL.joinL [32] [askC, 40 :: (TL.joinL [32] (ps.map paC) ++ [41]), txtC a] ++ [41]).length + 1 + 1 ≤ 14 * (1 + nB a) + 6 * (ps.length + pB a)
    rw [List.length_append, join_sum]
    show 3 + ((TL.joinL [32] (ps.map paC) ++ [41]).length + 1 + ((txtC a).length + 0)) + 2 + 1 + 1 + 1 ≤ _
    rw [List.length_append]
    show 3 + ((TL.joinL [32] (ps.map paC)).length + 1 + 1 + ((txtC a).length + 0)) + 2 + 1 + 1 + 1 ≤ _
    omega
theorem txts_len : ∀ (bs : List Br) {n : Nat}, (∀ b ∈ bs, okB n b) → ((txtsC bs).map List.length).sum + (txtsC bs).length ≤ 14 * nBs bs + 6 * pBs bs
  | [], n, _ => Nat.zero_le _
  | b :: bs, n, h => by
    have s1 := txt_len b (h b List.mem_cons_self)
    have s2 := txts_len bs fun x hx => h x (List.mem_cons_of_mem _ hx)
    show ((txtC b :: txtsC bs).map List.length).sum + (txtC b :: txtsC bs).length ≤ 14 * (nB b + nBs bs) + 6 * (pB b + pBs bs)
    rw [List.map_cons, List.sum_cons, List.length_cons]
    omega
end

def spParts6 (K : PySem.W.Frag) : Sp := fun vs H Q _ => ∃ (a d : Addr) (len : Nat), vs = [.ref a, .int (len : Int)] ∧ len ≤ 100 ∧ Hnd H a d ∧ ∀ (p : Addr) (ds : List V × List PyData) (H' : Hp), DpAll K (fun _ => none) ds.1 ds.2 → H' p = some (.tup ds.1) → p ≠ a → (∀ x ∈ ds.2, partOk x = true ∧ Pz 0 x) → ds.2.length = len → Hnd H' a d → Keep a H H' → Q (.ref p) H'
theorem parts86 {K : PySem.W.Frag} {vs : List V} {H : Hp} {Q : VK} {E : XK} (h : spParts8 K vs H Q E) : spParts6 K vs H Q E := by
  obtain ⟨a, d, len, e, hl, hh, q⟩ := h
  exact ⟨a, d, len, e, hl, hh, fun p ds H' hA ep pa hx hn => q p ds H' hA ep pa hx (by rw [hn]; exact hl)⟩
/-- at most so many parts, at most 64 kids, so deep -/
def okW (m : Nat) : Nat → Br → Prop
  | 0, _ => False
  | _ + 1, .say ps => ps.length ≤ m
  | n + 1, .toss bs => bs.length ≤ 64 ∧ ∀ b ∈ bs, okW m n b
  | n + 1, .look _ a b => okW m n a ∧ okW m n b
  | n + 1, .ask ps a => ps.length ≤ m ∧ okW m n a
theorem okW_le {m k : Nat} (hm : m ≤ k) : ∀ {n : Nat} {b : Br}, okW m n b → okW k n b
  | 0, _, h => h.elim
  | n + 1, .say ps, h => Nat.le_trans h hm
  | n + 1, .toss bs, h => ⟨h.1, fun b hb => okW_le hm (h.2 b hb)⟩
  | n + 1, .look _ a b, h => ⟨okW_le hm h.1, okW_le hm h.2⟩
  | n + 1, .ask ps a, h => ⟨Nat.le_trans h.1 hm, okW_le hm h.2⟩
/-- a breaker on the heap without the hand -/
def BrOn (K : PySem.W.Frag) (a : Addr) (H : Hp) (m j : Nat) (v : V) (b : Br) : Prop := Dp K (off a H) v (brD b) ∧ okB j b ∧ okW m j b
def spFar (K : PySem.W.Frag) (j : Nat) : Sp := fun vs H Q _ => ∃ (a d : Addr) (v : V) (b : Br), vs = [.ref a, v] ∧ Hnd H a d ∧ BrOn K a H 100 j v b ∧ ∀ r b' H', nB b' = nB b → BrOn K a H' 104 j r b' → Hnd H' a d → Keep a H H' → Q r H'
def spFarB (K : PySem.W.Frag) (j : Nat) : Sp := fun vs H Q E => 1 ≤ j ∧ spFar K (j - 1) vs H Q E
theorem nBs_snoc (b : Br) : ∀ bs : List Br, nBs (bs ++ [b]) = nBs bs + nB b
  | [] => Nat.add_comm _ _
  | x :: bs => by
    show nB x + nBs (bs ++ [b]) = nB x + nBs bs + nB b
    rw [nBs_snoc b bs]
    omega
theorem brsD_snoc (b : Br) : ∀ bs : List Br, brsD (bs ++ [b]) = brsD bs ++ [brD b]
  | [] => rfl
  | x :: bs => congrArg (brD x :: ·) (brsD_snoc b bs)
theorem brD_ref {K : PySem.W.Frag} {H : Hp} {v : V} {b : Br} (h : Dp K H v (brD b)) : ∃ a us xs, v = .ref a ∧ brD b = .tuple xs ∧ SqT K H a us ∧ DpAll K H us xs := by
  cases b <;> (unfold brD at h; cases h with | tup hT hA => exact ⟨_, _, _, rfl, rfl, hT, hA⟩)
theorem parts8 {K : PySem.W.Frag} {ds : List V × List PyData} (hA : DpAll K (fun _ => none) ds.1 ds.2) (h : ∀ x ∈ ds.2, partOk x = true ∧ Pz 0 x) : ∃ ps : List Pa, ps.length = ds.2.length ∧ (∀ p ∈ ps, paOk p) ∧ (∀ H, DpAll K H ds.1 (ps.map paD)) := by
  have ho : partsOk (.tuple ds.2) = true := by
    show ds.2.all partOk = true
    exact List.all_eq_true.mpr fun x hx => (h x hx).1
  obtain ⟨ps, e, hp⟩ := parts_inv ho
  injection e with e
  refine ⟨ps, by rw [e, List.length_map], hp, fun H => ?_⟩
  rw [← e]
  exact dps_same (fun _ _ e => by cases e) ds.2 hA
theorem brsD_map : ∀ bs : List Br, brsD bs = bs.map brD
  | [] => rfl
  | b :: bs => congrArg (brD b :: ·) (brsD_map bs)
theorem pl_txt {x : Str} (h : PySem.PyData.strOk x = true := by decide +kernel) (h2 : x.length ≤ 5000 := by decide +kernel) {n : Nat} : Pl n (.str x) := pl_str.mpr ⟨h, h2⟩
theorem pl_paD (p : Pa) {n : Nat} : Pl n (paD p) := by
  cases p with
  | bit b => exact pl_str.mpr ⟨by cases b <;> decide +kernel, by cases b <;> decide +kernel⟩
  | ref i => exact pl_int
theorem pl_psD {ps : List Pa} (hl : ps.length ≤ 104) {n : Nat} : Pl (n + 1) (psD ps) := by
  refine ⟨by rw [List.length_map]; omega, fun x hx => ?_⟩
  obtain ⟨p, _, rfl⟩ := List.mem_map.mp hx
  exact pl_paD p
theorem pl_brD : ∀ {n : Nat} {b : Br}, okB n b → okW 104 n b → Pl (2 * n + 1) (brD b)
  | 0, _, h, _ => h.elim
  | n + 1, .say ps, h, g => by
    refine ⟨(by show 2 ≤ 5000; decide), fun x hx => ?_⟩
    rcases List.mem_cons.mp hx with e | hx
    · exact e ▸ pl_txt
    · rw [List.mem_singleton.mp hx]
      exact pl_psD g
  | n + 1, .toss bs, h, g => by
    refine ⟨(by show 2 ≤ 5000; decide), fun x hx => ?_⟩
    rcases List.mem_cons.mp hx with e | hx
    · exact e ▸ pl_txt
    · rw [List.mem_singleton.mp hx, brsD_map]
      refine ⟨by rw [List.length_map]; exact Nat.le_trans g.1 (by decide), fun y hy => ?_⟩
      obtain ⟨b, hb, rfl⟩ := List.mem_map.mp hy
      exact pl_brD (h.2 b hb) (g.2 b hb)
  | n + 1, .look i a b, h, g => by
    refine ⟨(by show 4 ≤ 5000; decide), fun x hx => ?_⟩
    rcases List.mem_cons.mp hx with e | hx
    · exact e ▸ pl_txt
    rcases List.mem_cons.mp hx with e | hx
    · rw [e]
      exact pl_paD (.ref i)
    rcases List.mem_cons.mp hx with e | hx
    · rw [e]
      exact pl_le (pl_brD h.2.1 g.1) (by omega)
    · rw [List.mem_singleton.mp hx]
      exact pl_le (pl_brD h.2.2 g.2) (by omega)
  | n + 1, .ask ps a, h, g => by
    refine ⟨(by show 3 ≤ 5000; decide), fun x hx => ?_⟩
    rcases List.mem_cons.mp hx with e | hx
    · exact e ▸ pl_txt
    rcases List.mem_cons.mp hx with e | hx
    · rw [e]
      exact pl_psD g.1
    · rw [List.mem_singleton.mp hx]
      exact pl_le (pl_brD h.2 g.2) (by omega)
/-- the breakers within, done so far, while their list grows -/
theorem br_offL {K : PySem.W.Frag} {a L : Addr} {H : Hp} {ys : List V} {m j : Nat} {v : V} {b : Br} (h : BrOn K a H m j v b) (hm : m ≤ 104) (pa : L ≠ a) (e : H L = some (.lst ys)) : Dp K (off L (off a H)) v (brD b) :=
  dp_offL (by rw [off_ne pa]; exact e) _ (pl_brD h.2.1 (okW_le hm h.2.2)) h.1

section
variable {P : Program} {w : World} {K : PySem.W.Frag} {mg : Str → Option Value} {base : Heap} {cs : Cs}
theorem ok_lawparts6 {f : Addr} {fd : FuncData} (D : Df K mg "_law_parts" s_law_parts ["hand", "length"] f fd) (T : Txt K w mg cs) (c_law_take : Cl P w K mg base CX0 1 "_law_take" spTake) : FnOk P w K mg base CX0 2 f fd ["hand", "length"] (spParts6 K) := by
  refine D.fn.ok sc_law_parts (fun vs H Q E h => ?_) (fun cdv A outer s H vs Q E hr h => ?_)
  · obtain ⟨a, d, len, rfl, _⟩ := h
    rfl
  · obtain ⟨a, d, len, rfl, hlen, hh, q⟩ := h
    refine ⟨_, (pss_cons (ps_set (i := 2) sc_law_parts.nd rfl (.inl rfl) (pe_lst pa_nil)) (pss_cons (ps_for PassesOwn.never rfl (pi_range1 (by rfl) T.n_range (pa_cons (pv 1) pa_nil)) (pg_name (i := 3) sc_law_parts.nd rfl (.inl rfl)) (pss_cons (ps_set (i := 4) sc_law_parts.nd rfl (.inl rfl) (pe_cl c_law_take hr (by first | decide | omega) (by rfl) (pa_cons (pv 0) (pa_cons pe_int pa_nil)))) (pss_one (ps_if (pt_cmpR op_lt (pv 4) pe_int (nomark _)) (pss_one (ps_expr (pe_bm PySem.F.plainAttrs_list PySem.F.slot_list_append PySem.F.type_list_append mt_append (pv 2) (pa_cons (pe_ix (ixL K) (pe_lst (pa_cons pe_str (pa_cons pe_str pa_nil))) (pv 4) (fun _ _ => rfl)) pa_nil)))) (pss_one (ps_expr (pe_bm PySem.F.plainAttrs_list PySem.F.slot_list_append PySem.F.type_list_append mt_append (pv 2) (pa_cons (pe_cl c_law_take hr (by first | decide | omega) (by rfl) (pa_cons (pv 0) (pa_cons pe_int pa_nil))) pa_nil)))))))) (pss_one (ps_ret (pe_callTy (tupOf K) (by rfl) T.n_tuple (by decide +kernel) (pa_cons (pv 2) pa_nil)))))), ?_⟩
    refine ⟨Nat.zero_le _, fun L nL => ?_⟩
    have hL := hh.ne nL
    refine ⟨_, rfl, _, rfl, by omega, by omega, for_range (lo := 0) (n := len) (fun i σ H' => ∃ (ws : List V) (ds : List PyData) (y3 y4 : Option V), σ = [some (.ref a), some (.int (len : Int)), some (.ref L), y3, y4] ∧ ws.length = i ∧ DpAll K (fun _ => none) ws ds ∧
      (∀ x ∈ ds, partOk x = true ∧ Pz 0 x) ∧ H' L = some (.lst ws) ∧ Hnd H' a d ∧ Keep a H H') ?_ ?_ ?_⟩
    · exact ⟨[], [], none, none, rfl, rfl, .nil, fun x hx => (nomatch hx), upd_same, hh.new nL, Keep.new nL⟩
    · rintro i σ H' hi ⟨ws, ds, y3, y4, rfl, hl, hA, hx, eL, h1, k1⟩
      refine ⟨_, rfl, a, d, 5, rfl, by decide, h1, fun r H1 l1 u1 n1 kk1 => ?_⟩
      have eL1 := kk1 _ _ eL hL.1
      have hsz : ws.length < sizeLine := Nat.lt_of_lt_of_le (show ws.length < 10000 by omega) (by decide)
      refine ⟨_, rfl, _, _, rfl, rfl, _, rfl, ite2 (fun c => ?_) (fun c => ?_)⟩
      · have hr2 : r < 2 := of_decide_eq_true c
        refine ⟨_, rfl, .inl ⟨rfl, _, .inl (.inl eL1)⟩, ?_⟩
        refine ⟨by decide, fun p np => ?_⟩
        have npL : p ≠ L := (ne_of_none eL1 np).symm
        obtain ⟨z, hz, hzp⟩ : ∃ z : Str, atI [V.str "0", V.str "1"] r = some (V.str z) ∧ (z = "0" ∨ z = "1") := by
          have er : r = 0 ∨ r = 1 := by omega
          rcases er with e | e <;> subst e
          · exact ⟨"0", rfl, .inl rfl⟩
          · exact ⟨"1", rfl, .inr rfl⟩
        refine ⟨_, rfl, p, _, r, .str z, rfl, rfl, .inl (.inl upd_same), hz, L, _, _, rfl, rfl, by rw [upd_ne npL.symm]; exact eL1, hsz, ?_⟩
        refine ⟨ws ++ [.str z], ds ++ [.str z], _, _, rfl, by rw [List.length_append, hl]; rfl, dpAll_snoc hA (.str z), ?_, upd_same, (n1.new np).set hL.1 hL.2, ((k1.trans kk1).trans (Keep.new np)).set nL⟩
        intro x hx'
        rcases List.mem_append.mp hx' with h | h
        · exact hx x h
        · rw [List.mem_singleton.mp h]
          rcases hzp with rfl | rfl <;> exact ⟨by decide, pz_str (n := 0) |>.mpr ⟨by decide +kernel, by decide +kernel⟩⟩
      · refine ⟨_, rfl, .inl ⟨rfl, _, .inl (.inl eL1)⟩, _, rfl, a, d, 9, rfl, by decide, n1, fun r2 H2 l2 u2 n2 kk2 => ⟨L, _, _, rfl, rfl, kk2 _ _ eL1 hL.1, hsz, ?_⟩⟩
        refine ⟨ws ++ [.int r2], ds ++ [.int r2], _, _, rfl, by rw [List.length_append, hl]; rfl, dpAll_snoc hA (.int r2), ?_, upd_same, n2.set hL.1 hL.2, ((k1.trans kk1).trans kk2).set nL⟩
        intro x hx'
        rcases List.mem_append.mp hx' with h | h
        · exact hx x h
        · rw [List.mem_singleton.mp h]
          refine ⟨?_, pz_int (n := 0) (by omega)⟩
          show (decide (0 ≤ r2) && decide (r2 ≤ 9999)) = true
          rw [decide_eq_true l2, decide_eq_true (by omega)]
          rfl
    · rintro σ H' ⟨ws, ds, y3, y4, rfl, hl, hA, hx, eL, h1, k1⟩
      refine ⟨_, rfl, L, _, rfl, .inl ⟨.inl (.inl eL), fun p np => ?_⟩⟩
      have hpa := (h1.ne np).1
      have hdl := dp_all_len hA
      exact q p (ws, ds) _ hA upd_same hpa hx (by show ds.length = len; omega) (h1.new np) (k1.trans (Keep.new np))

theorem far_step {f : Addr} {fd : FuncData} (D : Df K mg "_law_far" s_law_far ["hand", "breaker"] f fd) (T : Txt K w mg cs) (j : Nat) (c_law_take : Cl P w K mg base CX0 1 "_law_take" spTake) (c_law_parts : Cl P w K mg base CX0 2 "_law_parts" (spParts6 K)) (c_law_far_parts : Cl P w K mg base CX0 2 "_law_far_parts" (spFarParts K))
    (c_law_far : Cl P w K mg base CX0 (j + 2) "_law_far" (spFarB K j)) : FnOk P w K mg base CX0 (j + 3) f fd ["hand", "breaker"] (spFar K j) := by
  refine D.fn.ok sc_law_far (fun vs H Q E h => ?_) (fun cdv A outer s H vs Q E hr h => ?_)
  · obtain ⟨a, d, v, b, rfl, _⟩ := h
    rfl
  · obtain ⟨a, d, v, b, rfl, hh, ⟨hd, ok, okw⟩, q⟩ := h
    refine ⟨_, (pss_cons (ps_if (pt_cmpR op_eq (pe_ix (ixT K) (pv 1) pe_int (fun _ _ => rfl)) pe_str (nomark _)) (pss_one (ps_ret (pe_tup (pa_cons pe_str (pa_cons (pe_cl c_law_far_parts hr (by first | decide | omega) (by rfl) (pa_cons (pv 0) (pa_cons (pe_op (opCatA K) (pe_ix (ixT K) (pv 1) pe_int (fun _ _ => rfl)) (pe_cl c_law_parts hr (by first | decide | omega) (by rfl) (pa_cons (pv 0) (pa_cons (pe_cl c_law_take hr (by first | decide | omega) (by rfl) (pa_cons (pv 0) (pa_cons pe_int pa_nil))) pa_nil)))) pa_nil))) pa_nil))))) pss_nil) (pss_cons (ps_if (pt_cmpR op_eq (pe_ix (ixT K) (pv 1) pe_int (fun _ _ => rfl)) pe_str (nomark _)) (pss_one (ps_ret (pe_tup (pa_cons pe_str (pa_cons (pe_callTy (tupOf K) (by rfl) T.n_tuple (by decide +kernel) (pa_cons (pe_lc (own := [("one", 3)]) (g := gName 3) (tt := tYes) rfl sc_law_far.nd (pi_tup (pe_ix (ixT K) (pv 1) pe_int (fun _ _ => rfl))) (blkOk_by (own := [("one", 3)]) (N := ["hand", "breaker", "number", "one"]) (sc := defScope s_law_far) (by decide +kernel)) (fun _ _ _ _ _ => (pg_name (i := 3) sc_law_far.nd rfl (.inl rfl))) (fun _ _ _ _ _ => pts_nil) (fun _ _ _ _ _ => (pe_cl c_law_far hr (by first | decide | omega) (by rfl) (pa_cons (pv 0) (pa_cons (pv 3) pa_nil))))) pa_nil)) pa_nil))))) pss_nil) (pss_cons (ps_if (pt_cmpR op_eq (pe_ix (ixT K) (pv 1) pe_int (fun _ _ => rfl)) pe_str (nomark _)) (pss_cons (ps_set (i := 2) sc_law_far.nd rfl (.inl rfl) (pe_ix (ixT K) (pe_cl c_law_far_parts hr (by first | decide | omega) (by rfl) (pa_cons (pv 0) (pa_cons (pe_tup (pa_cons (pe_ix (ixT K) (pv 1) pe_int (fun _ _ => rfl)) pa_nil)) pa_nil))) pe_int (fun _ _ => rfl))) (pss_one (ps_ret (pe_tup (pa_cons pe_str (pa_cons (pv 2) (pa_cons (pe_cl c_law_far hr (by first | decide | omega) (by rfl) (pa_cons (pv 0) (pa_cons (pe_ix (ixT K) (pv 1) pe_int (fun _ _ => rfl)) pa_nil))) (pa_cons (pe_cl c_law_far hr (by first | decide | omega) (by rfl) (pa_cons (pv 0) (pa_cons (pe_ix (ixT K) (pv 1) pe_int (fun _ _ => rfl)) pa_nil))) pa_nil)))))))) pss_nil) (pss_one (ps_ret (pe_tup (pa_cons pe_str (pa_cons (pe_cl c_law_far_parts hr (by first | decide | omega) (by rfl) (pa_cons (pv 0) (pa_cons (pe_ix (ixT K) (pv 1) pe_int (fun _ _ => rfl)) pa_nil))) (pa_cons (pe_cl c_law_far hr (by first | decide | omega) (by rfl) (pa_cons (pv 0) (pa_cons (pe_ix (ixT K) (pv 1) pe_int (fun _ _ => rfl)) pa_nil))) pa_nil))))))))), ?_⟩
    cases j with
    | zero => exact ok.elim
    | succ j =>
    cases b with
    | say ps =>
      unfold brD at hd
      obtain ⟨b, us, rfl, hT, hA⟩ : ∃ b us, v = .ref b ∧ SqT K (off a H) b us ∧ DpAll K (off a H) us [.str "say", psD ps] := by
        cases hd with
        | tup hT hA => exact ⟨_, _, rfl, hT, hA⟩
      cases hA with
      | cons h0 hA =>
        cases h0
        cases hA with
        | cons h1 hA =>
          cases hA
          have h1' := h1
          cases h1 with
          | @tup r ws _ hR hP =>
            refine ⟨_, rfl, b, _, 0, _, rfl, rfl, sqt_on hT, at0, rfl, _, rfl, ?_⟩
            refine ⟨_, rfl, _, rfl, b, _, 1, _, rfl, rfl, sqt_on hT, rfl, _, rfl, _, rfl, a, d, 5, rfl, by decide, hh, fun r1 H1 l1 u1 n1 k1 => ?_⟩
            obtain ⟨m, rfl, hm⟩ : ∃ m : Nat, r1 = (m : Int) ∧ m < 5 := ⟨r1.toNat, by omega, by omega⟩
            refine ⟨a, d, m, rfl, by omega, n1, fun p2 ds H2 hA2 ep2 pa2 hx2 hl2 n2 k2 => ?_⟩
            obtain ⟨qs, lq, oq, dq⟩ := parts8 hA2 hx2
            have k12 := k1.trans k2
            have lw := dp_all_len hP
            have lv := dp_all_len hA2
            rw [List.length_map] at lw
            have wps : ps.length ≤ 100 := okw
            refine cat_any (sqt_on (same_sqt k12.off hR)) (.inl (.inl ep2)) (by rw [lw, lv, sizeLine_eq]; omega) fun p3 H3 s3 t3 => ?_
            have n3 := n2.same s3
            have k3 := k12.trans (Keep.same s3)
            have hcat : DpAll K (off a H3) (ws ++ ds.1) ((ps ++ qs).map paD) := by
              rw [List.map_append]
              exact dps_app (dps_same k3.off _ hP) (dq _)
            have okc : ∀ p ∈ ps ++ qs, paOk p := fun p hp => (List.mem_append.mp hp).elim (ok p) (oq p)
            refine ⟨a, d, _, ps ++ qs, rfl, n3, ⟨.tup (sqt_off n3 t3) hcat, okc⟩, by rw [List.length_append, lq]; omega, fun p4 ps4 H4 l4 _ d4 n4 k4 => ⟨(by show 2 ≤ sizeLine; decide), fun p5 np5 => ?_⟩⟩
            refine q _ (.say ps4) _ rfl ⟨?_, d4.2, ?_⟩ (n4.new np5) ((k3.trans k4).trans (Keep.new np5))
            · exact dp_new (n4.ne np5).1 upd_same (.cons (.str _) (.cons (dp_same (Keep.new np5).off _ d4.1) .nil))
            · show ps4.length ≤ 104
              rw [l4, List.length_append, lq]
              omega
    | toss bs =>
      unfold brD at hd
      obtain ⟨b, us, rfl, hT, hA⟩ : ∃ b us, v = .ref b ∧ SqT K (off a H) b us ∧ DpAll K (off a H) us [.str "toss", .tuple (brsD bs)] := by
        cases hd with
        | tup hT hA => exact ⟨_, _, rfl, hT, hA⟩
      cases hA with
      | cons h0 hA =>
        cases h0
        cases hA with
        | cons h1 hA =>
          cases hA
          cases h1 with
          | @tup r ws _ hR hP =>
            have lw := dp_all_len hP
            rw [brsD_len] at lw
            refine ⟨_, rfl, b, _, 0, _, rfl, rfl, sqt_on hT, at0, rfl, _, rfl, ?_⟩
            refine ⟨_, rfl, b, _, 0, _, rfl, rfl, sqt_on hT, at0, rfl, _, rfl, ?_⟩
            refine ⟨_, rfl, b, _, 1, _, rfl, rfl, sqt_on hT, rfl, r, rfl, ⟨_, sqt_on hR⟩, fun Dl nD => ?_⟩
            obtain ⟨nDa, nDd⟩ := hh.ne nD
            refine lc_tup (xs := ws) (fun i H' => ∃ (us : List V) (cs : List Br), cs.length = i ∧ us.length = i ∧ DpAll K (off Dl (off a H')) us (brsD cs) ∧ (∀ c ∈ cs, okB j c ∧ okW 104 j c) ∧ nBs cs = nBs (bs.take i) ∧ H' Dl = some (.lst us) ∧ Hnd H' a d ∧ Keep a H H') ?_ ?_ ?_ ?_
            · exact ⟨[], [], rfl, rfl, .nil, (fun _ h => nomatch h), rfl, upd_same, hh.new nD, Keep.new nD⟩
            · rintro i H' _ ⟨us, cs, l1, l2, hc, oc, nc, eD, n1, k1⟩
              exact sqt_on (same_sqt k1.off hR)
            · rintro i x H' hx ⟨us, cs, l1, l2, hc, oc, nc, eD, n1, k1⟩
              obtain ⟨d1, hd1, hd2⟩ := dp_all_get hP hx
              obtain ⟨c, hc1, rfl⟩ := brsD_at hd1
              have hm := List.mem_of_getElem? hc1
              have hi := (List.getElem?_eq_some_iff.mp hx).1
              have w64 : bs.length ≤ 64 := okw.1
              refine ⟨rfl, _, rfl, _, rfl, by omega, a, d, x, c, rfl, n1, ⟨dp_same k1.off _ hd2, ok.2 c hm, okw.2 c hm⟩, fun r2 b2 H2 e2 o2 n2 k2 => ⟨_, k2 _ _ eD nDa, by rw [l2, sizeLine_eq]; omega, us ++ [r2], cs ++ [b2], by rw [List.length_append, l1]; rfl, by rw [List.length_append, l2]; rfl, ?_, ?_, ?_, upd_same, n2.set nDa nDd, (k1.trans k2).set nD⟩⟩
              · rw [off_upd, brsD_snoc]
                exact dpAll_snoc (dps_same (off_mono k2.off) _ hc) (br_offL o2 (by decide) nDa (k2 _ _ eD nDa))
              · intro y hy
                rcases List.mem_append.mp hy with z | z
                · exact oc y z
                · rw [List.mem_singleton.mp z]
                  exact ⟨o2.2.1, o2.2.2⟩
              · rw [nBs_snoc, nc, List.take_add_one, hc1, e2]
                exact (nBs_snoc c _).symm
            · rintro H' ⟨us, cs, l1, l2, hc, oc, nc, eD, n1, k1⟩
              have w64 : bs.length ≤ 64 := okw.1
              refine ⟨Dl, _, rfl, .inl ⟨.inl (.inl eD), fun t nt => ⟨(by show 2 ≤ sizeLine; decide), fun p np => ?_⟩⟩⟩
              have h1' := n1.new (o := .tup us) nt
              have ta := (n1.ne nt).1
              have pa := (h1'.ne np).1
              have kk : Keep a H' (upd (upd H' t (.tup us)) p (.tup [.str "toss", .ref t])) := (Keep.new nt).trans (Keep.new np)
              have et : upd (upd H' t (.tup us)) p (.tup [.str "toss", .ref t]) t = some (.tup us) := by
                rw [upd_ne (ne_of_none upd_same np)]
                exact upd_same
              refine q _ (.toss cs) _ ?_ ⟨?_, ⟨?_, fun c hc => (oc c hc).1⟩, ⟨?_, fun c hc => (oc c hc).2⟩⟩ (h1'.new np) (k1.trans kk)
              · show 1 + nBs cs = 1 + nBs bs
                rw [nc, lw, List.take_length]
              · exact dp_new pa upd_same (.cons (.str _) (.cons (dp_new ta et (dps_same (fun b o e => kk.off b o (off_same Dl _ b o e)) _ hc)) .nil))
              · intro e
                rw [e] at l1
                exact ok.1 (List.length_eq_zero_iff.mp (by rw [← lw, ← l1]; rfl))
              · omega
    | look i x y =>
      unfold brD at hd
      obtain ⟨i9, okx, oky⟩ := ok
      obtain ⟨wx, wy⟩ := okw
      obtain ⟨b, us, rfl, hT, hA⟩ : ∃ b us, v = .ref b ∧ SqT K (off a H) b us ∧ DpAll K (off a H) us [.str "look", .int (i : Int), brD x, brD y] := by
        cases hd with
        | tup hT hA => exact ⟨_, _, rfl, hT, hA⟩
      obtain ⟨v0, v1, v2, v3, d0, d1, d2, d3, rfl, e, h0, h1, h2, h3⟩ := dp4 hA (by rw [dp_all_len hA]; rfl)
      injection e with e0 e
      injection e with e1 e
      injection e with e2 e
      injection e with e3 e
      subst e0
      subst e1
      subst e2
      subst e3
      cases h0
      cases h1
      refine ⟨_, rfl, b, _, 0, _, rfl, rfl, sqt_on hT, at0, rfl, _, rfl, ?_⟩
      refine ⟨_, rfl, b, _, 0, _, rfl, rfl, sqt_on hT, at0, rfl, _, rfl, ?_⟩
      refine ⟨_, rfl, b, _, 0, _, rfl, rfl, sqt_on hT, at0, rfl, _, rfl, ?_⟩
      refine ⟨_, rfl, _, rfl, b, _, 1, _, rfl, rfl, sqt_on hT, rfl, (by show 1 ≤ sizeLine; decide), fun p1 np1 => ?_⟩
      have n1 := hh.new (o := .tup [.int (i : Int)]) np1
      have k1 := Keep.new (a := a) (o := .tup [.int (i : Int)]) np1
      refine ⟨a, d, _, [.ref i], rfl, n1, ⟨dp_new (hh.ne np1).1 upd_same (.cons (.int _) .nil), fun p hp => ?_⟩, (by show 1 ≤ 1000; decide), fun p2 ps2 H2 l2 r2 d2 n2 k2 => ?_⟩
      · rw [List.mem_singleton.mp hp]
        exact i9
      obtain ⟨m, rfl, m9⟩ : ∃ m : Nat, ps2 = [.ref m] ∧ m ≤ 9999 := by
        have r2' := r2 fun p hp => by
          rw [List.mem_singleton.mp hp]
          trivial
        cases ps2 with
        | nil => cases l2
        | cons p0 t =>
          cases t with
          | cons _ _ => cases l2
          | nil =>
            have hr := r2' p0 List.mem_cons_self
            cases p0 with
            | bit _ => exact hr.elim
            | ref m => exact ⟨m, rfl, d2.2 (.ref m) List.mem_cons_self⟩
      obtain ⟨us2, h2T, h2A⟩ : ∃ us2, SqT K (off a H2) p2 us2 ∧ DpAll K (off a H2) us2 [.int (m : Int)] := by
        cases d2.1 with
        | tup hT hA => exact ⟨_, hT, hA⟩
      have eu2 : us2 = [.int (m : Int)] := by
        cases h2A with
        | cons h hn =>
          cases h
          cases hn
          rfl
      subst eu2
      have k12 := k1.trans k2
      refine ⟨p2, _, 0, _, rfl, rfl, sqt_on h2T, at0, ?_⟩
      have T1 := same_sqt k12.off hT
      refine ⟨_, rfl, _, rfl, _, rfl, b, _, 2, _, rfl, rfl, sqt_on T1, rfl, by omega, a, d, v2, x, rfl, n2, ⟨dp_same k12.off _ h2, okx, wx⟩, fun r3 b3 H3 e3 o3 n3 k3 => ?_⟩
      have T2 := same_sqt k3.off T1
      have k13 := k12.trans k3
      refine ⟨_, rfl, _, rfl, b, _, 3, _, rfl, rfl, sqt_on T2, rfl, by omega, a, d, v3, y, rfl, n3, ⟨dp_same k13.off _ h3, oky, wy⟩, fun r4 b4 H4 e4 o4 n4 k4 => ⟨(by show 4 ≤ sizeLine; decide), fun p5 np5 => ?_⟩⟩
      have kn := Keep.new (a := a) (o := .tup [.str "look", .int (m : Int), r3, r4]) np5
      refine q _ (.look m b3 b4) _ ?_ ⟨?_, ⟨m9, o3.2.1, o4.2.1⟩, ⟨o3.2.2, o4.2.2⟩⟩ (n4.new np5) ((k13.trans k4).trans kn)
      · show 1 + (nB b3 + nB b4) = 1 + (nB x + nB y)
        rw [e3, e4]
      · exact dp_new (n4.ne np5).1 upd_same (.cons (.str _) (.cons (.int _) (.cons (dp_same (k4.trans kn).off _ o3.1) (.cons (dp_same kn.off _ o4.1) .nil))))
    | ask ps x =>
      unfold brD at hd
      obtain ⟨okp, okx⟩ := ok
      obtain ⟨wp, wx⟩ := okw
      obtain ⟨b, us, rfl, hT, hA⟩ : ∃ b us, v = .ref b ∧ SqT K (off a H) b us ∧ DpAll K (off a H) us [.str "ask", psD ps, brD x] := by
        cases hd with
        | tup hT hA => exact ⟨_, _, rfl, hT, hA⟩
      obtain ⟨v0, v1, v2, d0, d1, d2, rfl, e, h0, h1, h2⟩ := dp3 hA (by rw [dp_all_len hA]; rfl)
      injection e with e0 e
      injection e with e1 e
      injection e with e2 e
      subst e0
      subst e1
      subst e2
      cases h0
      refine ⟨_, rfl, b, _, 0, _, rfl, rfl, sqt_on hT, at0, rfl, _, rfl, ?_⟩
      refine ⟨_, rfl, b, _, 0, _, rfl, rfl, sqt_on hT, at0, rfl, _, rfl, ?_⟩
      refine ⟨_, rfl, b, _, 0, _, rfl, rfl, sqt_on hT, at0, rfl, _, rfl, ?_⟩
      refine ⟨_, rfl, _, rfl, b, _, 1, _, rfl, rfl, sqt_on hT, rfl, a, d, v1, ps, rfl, hh, ⟨h1, okp⟩, by omega, fun p2 ps2 H2 l2 _ d2 n2 k2 => ?_⟩
      have T1 := same_sqt k2.off hT
      refine ⟨_, rfl, _, rfl, b, _, 2, _, rfl, rfl, sqt_on T1, rfl, by omega, a, d, v2, x, rfl, n2, ⟨dp_same k2.off _ h2, okx, wx⟩, fun r3 b3 H3 e3 o3 n3 k3 => ⟨(by show 3 ≤ sizeLine; decide), fun p5 np5 => ?_⟩⟩
      have kn := Keep.new (a := a) (o := .tup [.str "ask", .ref p2, r3]) np5
      refine q _ (.ask ps2 b3) _ ?_ ⟨?_, ⟨d2.2, o3.2.1⟩, ⟨by omega, o3.2.2⟩⟩ (n3.new np5) ((k2.trans k3).trans kn)
      · show 1 + nB b3 = 1 + nB x
        rw [e3]
      · exact dp_new (n3.ne np5).1 upd_same (.cons (.str _) (.cons (dp_same (k3.trans kn).off _ d2.1) (.cons (dp_same kn.off _ o3.1) .nil)))
theorem no_far {f : Addr} {fd : FuncData} (k : Nat) : FnOk P w K mg base CX0 k f fd ["hand", "breaker"] (spFarB K 0) :=
  ⟨fun _ _ _ _ h => absurd h.1 (by decide), fun _ _ _ _ _ _ _ _ _ _ _ _ _ h => absurd h.1 (by decide)⟩
theorem ok_far {f : Addr} {fd : FuncData} (D : Df K mg "_law_far" s_law_far ["hand", "breaker"] f fd) (T : Txt K w mg cs) (c_law_take : Cl P w K mg base CX0 1 "_law_take" spTake) (c_law_parts : Cl P w K mg base CX0 2 "_law_parts" (spParts6 K)) (c_law_far_parts : Cl P w K mg base CX0 2 "_law_far_parts" (spFarParts K)) :
    ∀ j : Nat, FnOk P w K mg base CX0 (j + 3) f fd ["hand", "breaker"] (spFar K j)
  | 0 => far_step D T 0 c_law_take c_law_parts c_law_far_parts (D.cl (no_far _))
  | j + 1 => far_step D T (j + 1) c_law_take c_law_parts c_law_far_parts (D.cl ((ok_far D T c_law_take c_law_parts c_law_far_parts j).imp fun _ _ _ _ h => h.2))

end
/-! ### the breakers of the law, checked, written, read -/
theorem okB_up {m : Nat} : ∀ {n : Nat} {b : Br}, okB n b → okW m n b → okB (n + 1) b ∧ okW m (n + 1) b
  | 0, _, h, _ => h.elim
  | n + 1, .say ps, h, g => ⟨h, g⟩
  | n + 1, .toss bs, h, g => ⟨⟨h.1, fun b hb => (okB_up (h.2 b hb) (g.2 b hb)).1⟩, ⟨g.1, fun b hb => (okB_up (h.2 b hb) (g.2 b hb)).2⟩⟩
  | n + 1, .look i a b, h, g => ⟨⟨h.1, (okB_up h.2.1 g.1).1, (okB_up h.2.2 g.2).1⟩, ⟨(okB_up h.2.1 g.1).2, (okB_up h.2.2 g.2).2⟩⟩
  | n + 1, .ask ps a, h, g => ⟨⟨h.1, (okB_up h.2 g.2).1⟩, ⟨g.1, (okB_up h.2 g.2).2⟩⟩
theorem okB_le {m n k : Nat} {b : Br} (h : okB n b) (g : okW m n b) (l : n ≤ k) : okB k b ∧ okW m k b := by
  induction l with
  | refl => exact ⟨h, g⟩
  | step _ ih => exact okB_up ih.1 ih.2
theorem paD_ok {p : Pa} (h : paOk p) : partOk (paD p) = true := by
  cases p with
  | bit b => cases b <;> decide +kernel
  | ref i =>
    have h : i ≤ 9999 := h
    show (decide ((0 : Int) ≤ (i : Int)) && decide ((i : Int) ≤ 9999)) = true
    rw [decide_eq_true (by omega), decide_eq_true (by omega)]
    rfl
theorem psD_ok {ps : List Pa} (h : ∀ p ∈ ps, paOk p) : partsOk (psD ps) = true := by
  show (ps.map paD).all partOk = true
  rw [List.all_eq_true]
  intro x hx
  obtain ⟨p, hp, rfl⟩ := List.mem_map.mp hx
  exact paD_ok (h p hp)
theorem nBs_sum : ∀ bs : List Br, nBs bs = (bs.map nB).sum
  | [] => rfl
  | b :: bs => by
    rw [List.map_cons, List.sum_cons, ← nBs_sum bs]
    rfl
theorem br_ok {m : Nat} : ∀ {n : Nat} {b : Br}, okB n b → okW m n b → okN n (brD b) = true ∧ szN n (brD b) = nB b
  | 0, _, h, _ => h.elim
  | n + 1, .say ps, h, g => ok_say (psD_ok h)
  | n + 1, .toss bs, h, g => by
    have hl : 1 ≤ (brsD bs).length := by
      rw [brsD_len]
      cases bs with
      | nil => exact absurd rfl h.1
      | cons _ _ => exact Nat.succ_le_succ (Nat.zero_le _)
    have k := ok_toss (j := n) hl (by rw [brsD_len]; exact g.1) (fun x hx => by
      rw [brsD_map] at hx
      obtain ⟨b, hb, rfl⟩ := List.mem_map.mp hx
      exact (br_ok (h.2 b hb) (g.2 b hb)).1)
    refine ⟨k.1, k.2.trans ?_⟩
    show 1 + _ = 1 + nBs bs
    rw [nBs_sum, brsD_map, List.map_map]
    refine congrArg (fun z => 1 + List.sum z) (List.map_congr_left fun b hb => ?_)
    exact (br_ok (h.2 b hb) (g.2 b hb)).2
  | n + 1, .look i a b, h, g => by
    have h0 : i ≤ 9999 := h.1
    have h1 := br_ok h.2.1 g.1
    have h2 := br_ok h.2.2 g.2
    have k := ok_look (j := n) (i := (i : Int)) (by omega) (by omega) h1.1 h2.1
    refine ⟨k.1, k.2.trans ?_⟩
    rw [h1.2, h2.2]
    rfl
  | n + 1, .ask ps a, h, g => by
    have h1 := br_ok h.2 g.2
    have k := ok_askD (j := n) (psD_ok h.1) h1.1
    refine ⟨k.1, k.2.trans ?_⟩
    rw [h1.2]
    rfl
theorem br_made : ∀ b : Br, madeD (brD b) = false
  | .say _ => by
    show madeZ "say" = false
    decide +kernel
  | .toss _ => by
    show madeZ "toss" = false
    decide +kernel
  | .look _ _ _ => by
    show madeZ "look" = false
    decide +kernel
  | .ask _ _ => by
    show madeZ "ask" = false
    decide +kernel
theorem br_brOk {m n : Nat} {b : Br} (h : okB n b) (g : okW m n b) (hn : n ≤ 60) (hs : nB b ≤ 2001) : brOk (brD b) = true := by
  obtain ⟨h, g⟩ := okB_le h g hn
  obtain ⟨k1, k2⟩ := br_ok h g
  show chk 20 (brD b) = true
  rw [chk_plain (br_made b)]
  show (okN 60 (brD b) && decide (szN 60 (brD b) ≤ 2001)) = true
  rw [k1, k2, decide_eq_true hs]
  rfl
theorem tp_paD (p : Pa) {n : Nat} : TpN (n + 1) (paD p) := by
  cases p <;> exact trivial
theorem tp_psD {ps : List Pa} (hl : ps.length ≤ 104) {n : Nat} : TpN (n + 2) (psD ps) := by
  refine ⟨by rw [List.length_map]; omega, fun x hx => ?_⟩
  obtain ⟨p, _, rfl⟩ := List.mem_map.mp hx
  exact tp_paD p
theorem tp_up : ∀ {n : Nat} {d : PyData}, TpN n d → TpN (n + 1) d
  | 0, _, h => h.elim
  | n + 1, .str _, _ => trivial
  | n + 1, .int _, _ => trivial
  | n + 1, .tuple xs, h => ⟨h.1, fun x hx => tp_up (h.2 x hx)⟩
theorem tp_brD : ∀ {n : Nat} {b : Br}, okB n b → okW 104 n b → TpN (2 * n + 1) (brD b)
  | 0, _, h, _ => h.elim
  | n + 1, .say ps, h, g => by
    refine ⟨(by show 2 ≤ 1000000; decide), fun x hx => ?_⟩
    rcases List.mem_cons.mp hx with e | hx
    · exact e ▸ trivial
    · rw [List.mem_singleton.mp hx]
      exact tp_psD g
  | n + 1, .toss bs, h, g => by
    refine ⟨(by show 2 ≤ 1000000; decide), fun x hx => ?_⟩
    rcases List.mem_cons.mp hx with e | hx
    · exact e ▸ trivial
    · rw [List.mem_singleton.mp hx, brsD_map]
      refine ⟨by rw [List.length_map]; exact Nat.le_trans g.1 (by decide), fun y hy => ?_⟩
      obtain ⟨b, hb, rfl⟩ := List.mem_map.mp hy
      exact tp_brD (h.2 b hb) (g.2 b hb)
  | n + 1, .look i a b, h, g => by
    refine ⟨(by show 4 ≤ 1000000; decide), fun x hx => ?_⟩
    rcases List.mem_cons.mp hx with e | hx
    · exact e ▸ trivial
    rcases List.mem_cons.mp hx with e | hx
    · exact e ▸ trivial
    rcases List.mem_cons.mp hx with e | hx
    · rw [e]
      exact tp_up (tp_brD h.2.1 g.1)
    · rw [List.mem_singleton.mp hx]
      exact tp_up (tp_brD h.2.2 g.2)
  | n + 1, .ask ps a, h, g => by
    refine ⟨(by show 3 ≤ 1000000; decide), fun x hx => ?_⟩
    rcases List.mem_cons.mp hx with e | hx
    · exact e ▸ trivial
    rcases List.mem_cons.mp hx with e | hx
    · rw [e]
      exact tp_psD g.1
    · rw [List.mem_singleton.mp hx]
      exact tp_up (tp_brD h.2 g.2)
theorem pB_le {m : Nat} : ∀ {n : Nat} {b : Br}, okW m n b → pB b ≤ m * nB b
  | 0, _, h => h.elim
  | n + 1, .say ps, h => by
    show ps.length ≤ m * 1
    rw [Nat.mul_one]
    exact h
  | n + 1, .toss bs, h => by
    have : ∀ bs : List Br, (∀ b ∈ bs, okW m n b) → pBs bs ≤ m * nBs bs := by
      intro bs
      induction bs with
      | nil => exact fun _ => Nat.zero_le _
      | cons b bs ih =>
        intro h
        show pB b + pBs bs ≤ m * (nB b + nBs bs)
        rw [Nat.mul_add]
        exact Nat.add_le_add (pB_le (h b List.mem_cons_self)) (ih fun x hx => h x (List.mem_cons_of_mem _ hx))
    show pBs bs ≤ m * (1 + nBs bs)
    exact Nat.le_trans (this bs h.2) (Nat.mul_le_mul_left _ (Nat.le_add_left _ _))
  | n + 1, .look _ a b, h => by
    show pB a + pB b ≤ m * (1 + (nB a + nB b))
    rw [Nat.mul_add, Nat.mul_add]
    have h1 := pB_le h.1
    have h2 := pB_le h.2
    omega
  | n + 1, .ask ps a, h => by
    show ps.length + pB a ≤ m * (1 + nB a)
    rw [Nat.mul_add, Nat.mul_one]
    exact Nat.add_le_add h.1 (pB_le h.2)
theorem ws_le {m : Nat} : ∀ {n : Nat} {b : Br}, okW m n b → (wordsC b).length ≤ 5 * nB b + pB b
  | 0, _, h => h.elim
  | n + 1, .say ps, h => by
    show (ps.map paC ++ [[41]]).length + 1 + 1 ≤ 5 * 1 + ps.length
    rw [List.length_append, List.length_map]
    show _ + 1 + 1 + 1 ≤ _
    omega
  | n + 1, .toss bs, h => by
    have : ∀ bs : List Br, (∀ b ∈ bs, okW m n b) → (wordssC bs).length ≤ 5 * nBs bs + pBs bs := by
      intro bs
      induction bs with
      | nil => exact fun _ => Nat.zero_le _
      | cons b bs ih =>
        intro h
        have h1 := ws_le (h b List.mem_cons_self)
        have h2 := ih fun x hx => h x (List.mem_cons_of_mem _ hx)
        show (wordsC b ++ wordssC bs).length ≤ 5 * (nB b + nBs bs) + (pB b + pBs bs)
        rw [List.length_append]
        omega
    have h1 := this bs h.2
    show (wordssC bs ++ [[41]]).length + 1 + 1 ≤ 5 * (1 + nBs bs) + pBs bs
    rw [List.length_append]
    show _ + 1 + 1 + 1 ≤ _
    omega
  | n + 1, .look _ a b, h => by
    have h1 := ws_le h.1
    have h2 := ws_le h.2
    show (wordsC a ++ (wordsC b ++ [[41]])).length + 1 + 1 + 1 ≤ 5 * (1 + (nB a + nB b)) + (pB a + pB b)
    rw [List.length_append, List.length_append]
    show _ + (_ + 1) + 1 + 1 + 1 ≤ _
    omega
  | n + 1, .ask ps a, h => by
    have h2 := ws_le h.2
    show (ps.map paC ++ [41] :: (wordsC a ++ [[41]])).length + 1 + 1 + 1 ≤ 5 * (1 + nB a) + (ps.length + pB a)
    rw [List.length_append, List.length_cons, List.length_append, List.length_map]
    show _ + (_ + 1 + 1) + 1 + 1 + 1 ≤ _
    omega
/-- every word has at most five signs -/
theorem ws_small : ∀ {n : Nat} {b : Br}, okB n b → ∀ w ∈ wordsC b, w.length ≤ 5
  | 0, _, h => h.elim
  | n + 1, .say ps, h => by
    intro w hw
    rcases List.mem_cons.mp hw with e | hw
    · subst e; decide
    rcases List.mem_cons.mp hw with e | hw
    · subst e; decide
    rcases List.mem_append.mp hw with hw | hw
    · obtain ⟨p, hp, rfl⟩ := List.mem_map.mp hw
      exact paC_small (h p hp)
    · rw [List.mem_singleton.mp hw]; decide
  | n + 1, .toss bs, h => by
    have : ∀ bs : List Br, (∀ b ∈ bs, okB n b) → ∀ w ∈ wordssC bs, w.length ≤ 5 := by
      intro bs
      induction bs with
      | nil => exact fun _ w hw => nomatch hw
      | cons b bs ih =>
        intro h w hw
        rcases List.mem_append.mp (show w ∈ wordsC b ++ wordssC bs from hw) with hw | hw
        · exact ws_small (h b List.mem_cons_self) w hw
        · exact ih (fun x hx => h x (List.mem_cons_of_mem _ hx)) w hw
    intro w hw
    rcases List.mem_cons.mp hw with e | hw
    · subst e; decide
    rcases List.mem_cons.mp hw with e | hw
    · subst e; decide
    rcases List.mem_append.mp hw with hw | hw
    · exact this bs h.2 w hw
    · rw [List.mem_singleton.mp hw]; decide
  | n + 1, .look i a b, h => by
    intro w hw
    rcases List.mem_cons.mp hw with e | hw
    · subst e; decide
    rcases List.mem_cons.mp hw with e | hw
    · subst e; decide
    rcases List.mem_cons.mp hw with e | hw
    · subst e
      exact Nat.le_trans (numL_small h.1) (by decide)
    rcases List.mem_append.mp hw with hw | hw
    · exact ws_small h.2.1 w hw
    rcases List.mem_append.mp hw with hw | hw
    · exact ws_small h.2.2 w hw
    · rw [List.mem_singleton.mp hw]; decide
  | n + 1, .ask ps a, h => by
    intro w hw
    rcases List.mem_cons.mp hw with e | hw
    · subst e; decide
    rcases List.mem_cons.mp hw with e | hw
    · subst e; decide
    rcases List.mem_cons.mp hw with e | hw
    · subst e; decide
    rcases List.mem_append.mp hw with hw | hw
    · obtain ⟨p, hp, rfl⟩ := List.mem_map.mp hw
      exact paC_small (h.1 p hp)
    rcases List.mem_cons.mp hw with e | hw
    · subst e; decide
    rcases List.mem_append.mp hw with hw | hw
    · exact ws_small h.2 w hw
    · rw [List.mem_singleton.mp hw]; decide
/-- all that is asked of a breaker's size -/
structure Fit (b : Br) : Prop where
  ok : okB 60 b
  wd : okW 104 60 b
  br : brOk (brD b) = true
  gd : ∃ n, Gd n (brD b)
  tp : TpN 121 (brD b)
  tx : (txtC b).length ≤ 400000
  ws : (wordsC b).length ≤ 90000
  sm : ∀ w ∈ wordsC b, w.length ≤ 5
theorem fit_of {n : Nat} {b : Br} (h : okB n b) (g : okW 104 n b) (hn : n ≤ 60) (hs : nB b ≤ 400) : Fit b := by
  obtain ⟨h', g'⟩ := okB_le h g hn
  have hp := pB_le g
  have ht := txt_len b h
  have hw := ws_le g
  have h104 : 104 * nB b ≤ 104 * 400 := Nat.mul_le_mul_left _ hs
  exact ⟨h', g', br_brOk h g hn (by omega), ⟨_, pl_gd (pl_brD h g)⟩, tp_brD h' g', by omega, by omega, ws_small h⟩
def spWrite (K : PySem.W.Frag) : Sp := fun vs H Q _ => ∃ (v : V) (b : Br), vs = [v] ∧ Dp K H v (brD b) ∧ Fit b ∧ ∀ H', Same H H' → Q (.str (SX.S (txtC b))) H'
def spRight6 (K : PySem.W.Frag) : Sp := fun vs H Q _ => ∃ (a d : Addr) (v : V) (b : Br), vs = [.ref a, v] ∧ Hnd H a d ∧ Dp K (off a H) v (brD b) ∧ Fit b ∧ ∀ H', Hnd H' a d → Keep a H H' → Q (.bl true) H'

theorem BrOn.keep {K : PySem.W.Frag} {a : Addr} {H H' : Hp} {m j : Nat} {v : V} {b : Br} (h : BrOn K a H m j v b) (k : Keep a H H') : BrOn K a H' m j v b := ⟨dp_same k.off _ h.1, h.2⟩
theorem BrOn.le {K : PySem.W.Frag} {a : Addr} {H : Hp} {m k j : Nat} {v : V} {b : Br} (h : BrOn K a H m j v b) (hm : m ≤ k) : BrOn K a H k j v b := ⟨h.1, h.2.1, okW_le hm h.2.2⟩
theorem pz_tup {n : Nat} {xs : List PyData} (h : Pz n (.tuple xs)) : xs.length ≤ 100 ∧ ∃ m, n = m + 1 ∧ ∀ x ∈ xs, Pz m x := by
  cases n with
  | zero => exact h.elim
  | succ m => exact ⟨h.1, m, rfl, h.2⟩
theorem okW_of : ∀ {n k : Nat} {b : Br}, okB n b → okN n (brD b) = true → Pz k (brD b) → okW 100 n b
  | 0, _, _, h, _, _ => h.elim
  | n + 1, k, .say ps, h, g, z => by
    obtain ⟨_, k1, rfl, z1⟩ := pz_tup z
    obtain ⟨l, _⟩ := pz_tup (z1 (psD ps) (by simp))
    rw [List.length_map] at l
    exact l
  | n + 1, k, .toss bs, h, g, z => by
    obtain ⟨g1, g2⟩ := Bool.and_eq_true_iff.mp (show (looksOk (.tuple [.str "toss", .tuple (brsD bs)]) && (kidsD (.tuple [.str "toss", .tuple (brsD bs)])).all (okN n)) = true from g)
    rw [looks_toss] at g1
    rw [kids_toss (by rw [named_str]; decide), List.all_eq_true] at g2
    obtain ⟨_, g3⟩ := Bool.and_eq_true_iff.mp (show (decide ((1 : Int) ≤ ((brsD bs).length : Int)) && decide (((brsD bs).length : Int) ≤ 64)) = true from g1)
    have g3 := of_decide_eq_true g3
    rw [brsD_len] at g3
    obtain ⟨_, k1, rfl, z1⟩ := pz_tup z
    obtain ⟨_, k2, rfl, z2⟩ := pz_tup (z1 (.tuple (brsD bs)) (by simp))
    refine ⟨by omega, fun b hb => ?_⟩
    have hm : brD b ∈ brsD bs := by
      rw [brsD_map]
      exact List.mem_map.mpr ⟨b, hb, rfl⟩
    exact okW_of (h.2 b hb) (g2 _ hm) (z2 _ hm)
  | n + 1, k, .look i a b, h, g, z => by
    obtain ⟨_, g2⟩ := Bool.and_eq_true_iff.mp (show (looksOk (.tuple [.str "look", .int (i : Int), brD a, brD b]) && (kidsD (.tuple [.str "look", .int (i : Int), brD a, brD b])).all (okN n)) = true from g)
    rw [kids_look] at g2
    have g2 : (okN n (brD a) && (okN n (brD b) && true)) = true := g2
    rw [Bool.and_true, Bool.and_eq_true] at g2
    obtain ⟨_, k1, rfl, z1⟩ := pz_tup z
    exact ⟨okW_of h.2.1 g2.1 (z1 _ (by simp)), okW_of h.2.2 g2.2 (z1 _ (by simp))⟩
  | n + 1, k, .ask ps a, h, g, z => by
    obtain ⟨_, g2⟩ := Bool.and_eq_true_iff.mp (show (looksOk (.tuple [.str "ask", psD ps, brD a]) && (kidsD (.tuple [.str "ask", psD ps, brD a])).all (okN n)) = true from g)
    rw [kids_ask] at g2
    have g2 : (okN n (brD a) && true) = true := g2
    rw [Bool.and_true] at g2
    obtain ⟨_, k1, rfl, z1⟩ := pz_tup z
    obtain ⟨l, _⟩ := pz_tup (z1 (psD ps) (by simp))
    rw [List.length_map] at l
    exact ⟨l, okW_of h.2 g2 (z1 _ (by simp))⟩
theorem bsz_le {n : Nat} (h : n ≤ 6) : bsz n ≤ 364 := by
  have : n = 0 ∨ n = 1 ∨ n = 2 ∨ n = 3 ∨ n = 4 ∨ n = 5 ∨ n = 6 := by omega
  rcases this with e | e | e | e | e | e | e <;> subst e <;> decide
/-- a drawn breaker, as a tree -/
theorem drawn_br {K : PySem.W.Frag} {a : Addr} {H : Hp} {j : Nat} {v : V} (h : PB K a H j v) (hj : j ≤ 6) : ∃ b, BrOn K a H 100 6 v b ∧ nB b ≤ 364 := by
  obtain ⟨D, h1, h2, h3, h4⟩ := h
  obtain ⟨b, rfl, ok⟩ := br_view j D h3
  have wd := okW_of ok h3 h2
  obtain ⟨ok6, wd6⟩ := okB_le ok wd hj
  refine ⟨b, ⟨h1, ok6, wd6⟩, ?_⟩
  rw [← (br_ok ok wd).2]
  exact Nat.le_trans h4 (bsz_le hj)

/-! ### how deep and how long what is read can be -/
theorem bstep_ok {L n c : Nat} {r : Rs} {g : Bool} {s : LS} (h : okRs L n r) (e : bstep r c g = some s) : okRs (L + 1) (n + if c = 40 then 1 else 0) (lsR s) := by
  have up : okRs (L + 1) (n + if c = 40 then 1 else 0) r := okRs_up (Nat.le_succ L) (Nat.le_add_right _ _) h
  unfold bstep at e
  split at e
  · cases e
    exact up
  · split at e
    · rename_i h40
      obtain ⟨r', e1, rfl⟩ := Option.map_eq_some_iff.mp e
      rw [if_pos h40]
      exact opn_ok h e1
    · rename_i h40
      rw [if_neg h40] at up ⊢
      split at e
      · obtain ⟨r', e1, rfl⟩ := Option.map_eq_some_iff.mp e
        exact cls_ok h e1
      · split at e
        · cases e
        · split at e
          · split at e
            · cases e
              exact up
            · cases e
          · cases e
theorem lstep_ok {L n c : Nat} {s s' : LS} (h : okRs L n (lsR s)) (e : lstep s c = some s') : okRs (L + 2) (n + if c = 40 then 1 else 0) (lsR s') := by
  cases s with
  | bd r => exact okRs_up (Nat.le_succ _) (Nat.le_refl _) (bstep_ok h e)
  | inw r w =>
    have e : (match kdR r with
      | some k => if extK k (w ++ [c]) = true then some (LS.inw r (w ++ [c])) else if wholeK k w = true then bstep (flR r w) c true else none
      | none => none) = some s' := e
    split at e
    · split at e
      · cases e
        exact okRs_up (Nat.le_add_right _ _) (Nat.le_add_right _ _) (show okRs L n r from h)
      · split at e
        · exact bstep_ok (fl_ok h) e
        · cases e
    · cases e
theorem run_ok : ∀ (t : List Nat) (s : LS) (m L n : Nat) (b : Br), okRs L n (lsR s) → lrun s t m = .good b → okBr (L + 2 * t.length) (n + t.count 40) b
  | [], s, m, L, n, b, h, e => by
    have e : endR s m = .good b := e
    cases s with
    | inw r w => cases e
    | bd r =>
      cases r with
      | whole b2 =>
        cases e
        exact h
      | start => cases e
      | op t us => cases e
  | c :: t, s, m, L, n, b, h, e => by
    have e : (match lstep s c with
      | some s' => lrun s' t (m + 1)
      | none => .bad m) = .good b := e
    cases es : lstep s c with
    | none =>
      rw [es] at e
      cases e
    | some s' =>
      rw [es] at e
      have := run_ok t s' (m + 1) _ _ b (lstep_ok h es) e
      rw [List.length_cons, List.count_cons]
      refine okBr_up (by omega) ?_ this
      by_cases h40 : c = 40
      · rw [if_pos h40, if_pos (by rw [h40]; rfl)]
        omega
      · rw [if_neg h40]
        omega
theorem read_ok {t : List Nat} {b : Br} (e : lrun (.bd .start) t 0 = .good b) : okBr (2 * t.length) (t.count 40) b := by
  have := run_ok t (.bd .start) 0 0 0 b trivial e
  rw [Nat.zero_add, Nat.zero_add] at this
  exact this
theorem tp_le {n m : Nat} {d : PyData} (h : TpN n d) (l : n ≤ m) : TpN m d := by
  induction l with
  | refl => exact h
  | step _ ih => exact tp_up ih
theorem tp_ps {L : Nat} {ps : List Pa} (h : ps.length ≤ L) (hL : L ≤ 1000000) {n : Nat} : TpN (n + 2) (psD ps) := by
  refine ⟨by rw [List.length_map]; omega, fun x hx => ?_⟩
  obtain ⟨p, _, rfl⟩ := List.mem_map.mp hx
  exact tp_paD p
theorem tp_okBr {L : Nat} (hL : L ≤ 1000000) : ∀ {n : Nat} {b : Br}, okBr L n b → TpN (2 * n + 1) (brD b)
  | 0, _, h => h.elim
  | n + 1, .say ps, h => by
    refine ⟨(by show 2 ≤ 1000000; decide), fun x hx => ?_⟩
    rcases List.mem_cons.mp hx with e | hx
    · rw [e]
      trivial
    · rw [List.mem_singleton.mp hx]
      exact tp_le (tp_ps (n := 0) h hL) (by omega)
  | n + 1, .toss bs, h => by
    refine ⟨(by show 2 ≤ 1000000; decide), fun x hx => ?_⟩
    rcases List.mem_cons.mp hx with e | hx
    · rw [e]
      trivial
    · rw [List.mem_singleton.mp hx]
      refine ⟨by rw [brsD_len]; exact Nat.le_trans h.1 hL, fun y hy => ?_⟩
      obtain ⟨i, hi⟩ := List.getElem?_of_mem hy
      obtain ⟨c, hc, rfl⟩ := brsD_at hi
      exact tp_okBr hL (h.2 c (List.mem_of_getElem? hc))
  | n + 1, .look i a b, h => by
    refine ⟨(by show 4 ≤ 1000000; decide), fun x hx => ?_⟩
    simp only [List.mem_cons, List.not_mem_nil, or_false] at hx
    rcases hx with e | e | e | e <;> rw [e]
    · trivial
    · trivial
    · exact tp_le (tp_okBr hL h.1) (by omega)
    · exact tp_le (tp_okBr hL h.2) (by omega)
  | n + 1, .ask ps a, h => by
    refine ⟨(by show 3 ≤ 1000000; decide), fun x hx => ?_⟩
    simp only [List.mem_cons, List.not_mem_nil, or_false] at hx
    rcases hx with e | e | e <;> rw [e]
    · trivial
    · exact tp_le (tp_ps (n := 0) h.1 hL) (by omega)
    · exact tp_le (tp_okBr hL h.2) (by omega)
/-! ### the longest run of figures -/
def lngF : List Nat → Nat → Nat → Nat
  | [], _, most => most
  | c :: t, many, most => lngF t (if c ∈ figL then many + 1 else 0) (max most (if c ∈ figL then many + 1 else 0))
theorem lng_most : ∀ (t : List Nat) (many most : Nat), most ≤ lngF t many most
  | [], _, _ => Nat.le_refl _
  | c :: t, many, most => Nat.le_trans (Nat.le_max_left _ _) (lng_most t _ _)
theorem lng_figs {b : List Nat} : ∀ (w : List Nat) (many most : Nat), many ≤ most → (∀ c ∈ w, c ∈ figL) → many + w.length ≤ lngF (w ++ b) many most
  | [], many, most, h, _ => Nat.le_trans h (lng_most b many most)
  | c :: w, many, most, h, d => by
    show _ ≤ lngF (w ++ b) (if c ∈ figL then many + 1 else 0) (max most (if c ∈ figL then many + 1 else 0))
    rw [if_pos (d c List.mem_cons_self), List.length_cons]
    have := lng_figs (b := b) w (many + 1) (max most (many + 1)) (Nat.le_max_right _ _) fun x hx => d x (List.mem_cons_of_mem _ hx)
    omega
theorem lng_skip {r : List Nat} : ∀ (a : List Nat) (many most : Nat), many ≤ most → ∃ many' most', many' ≤ most' ∧ lngF (a ++ r) many most = lngF r many' most'
  | [], many, most, h => ⟨many, most, h, rfl⟩
  | c :: a, many, most, h => lng_skip a _ _ (Nat.le_max_right _ _)
theorem few_lng {t : List Nat} (h : lngF t 0 0 ≤ 9) : Few t := fun a w b e d => by
  obtain ⟨m, M, hm, e2⟩ := lng_skip (r := w ++ b) a 0 0 (Nat.le_refl 0)
  have := lng_figs (b := b) w m M hm d
  rw [e, e2] at h
  omega
def spLongest7 : Sp := fun vs H Q _ => ∃ t : List Nat, vs = [.str (SX.S t)] ∧ t.length ≤ 100000 ∧ ∀ H', Same H H' → Q (.int ((lngF t 0 0 : Nat) : Int)) H'
def spIsRight7 : Sp := fun vs H Q _ => ∃ t : List Nat, vs = [.str (SX.S t)] ∧ t.length ≤ 60000 ∧ t.count 40 ≤ 90 ∧ ∀ H', Same H H' → Q (.bl true) H'

section
variable {P : Program} {w : World} {K : PySem.W.Frag} {mg : Str → Option Value} {base : Heap} {cs : Cs}
theorem ok_longest7 {f : Addr} {fd : FuncData} (D : Df K mg "_law_longest" s_law_longest ["text"] f fd) (T : Txt K w mg cs) : FnOk P w K mg base CX0 1 f fd ["text"] spLongest7 := by
  refine D.fn.ok sc_law_longest (fun vs H Q E h => ?_) (fun cdv A outer s H vs Q E hr h => ?_)
  · obtain ⟨t, rfl, _⟩ := h
    rfl
  · obtain ⟨t, rfl, hl, q⟩ := h
    refine ⟨_, (pss_cons (ps_set (i := 1) sc_law_longest.nd rfl (.inl rfl) pe_int) (pss_cons (ps_set (i := 2) sc_law_longest.nd rfl (.inl rfl) pe_int) (pss_cons (ps_for PassesOwn.never rfl (pi_str (pv 0)) (pg_name (i := 3) sc_law_longest.nd rfl (.inl rfl)) (pss_cons (ps_set (i := 1) sc_law_longest.nd rfl (.inl rfl) (pe_ix (ixL K) (pe_lst (pa_cons pe_int (pa_cons (pe_op op_add (pv 1) pe_int) pa_nil))) (pe_callTy call_int1 (by rfl) T.n_int (by decide +kernel) (pa_cons (pe_cmpR op_in_sign (pv 3) pe_str (by rfl)) pa_nil)) (fun _ _ => rfl))) (pss_one (ps_set (i := 2) sc_law_longest.nd rfl (.inl rfl) (pe_callB (call_max2 rfl) (by rfl) T.n_max (by decide +kernel) (pa_cons (pe_callTy call_int1 (by rfl) T.n_int (by decide +kernel) (pa_cons (pv 2) pa_nil)) (pa_cons (pe_callTy call_int1 (by rfl) T.n_int (by decide +kernel) (pa_cons (pv 1) pa_nil)) pa_nil))))))) (pss_one (ps_ret (pv 2)))))), ?_⟩
    refine ⟨_, rfl, _, rfl, for_text (x := SX.S t) (fun i σ H' => ∃ (many most : Nat) (y3 : Option V), σ = [some (.str (SX.S t)), some (.int (many : Int)), some (.int (most : Int)), y3] ∧ Same H H' ∧ many ≤ i ∧ most ≤ i ∧ lngF (t.drop i) many most = lngF t 0 0) ?_ ?_ ?_⟩
    · exact ⟨0, 0, none, rfl, Same.refl H, Nat.le_refl 0, Nat.le_refl 0, rfl⟩
    · rintro i ch σ H' hx ⟨many, most, y3, rfl, s1, l1, l2, e⟩
      have hx : t[i]? = some ch := by
        have : (SX.S t).cps[i]? = t[i]? := by
          show (t.toArray)[i]? = _
          rw [List.getElem?_toArray]
        rw [← this]
        exact hx
      have hd : t.drop i = ch :: t.drop (i + 1) := by
        obtain ⟨h, e⟩ := List.getElem?_eq_some_iff.mp hx
        rw [← e]
        exact List.drop_eq_getElem_cons h
      have hi : i < t.length := (List.getElem?_eq_some_iff.mp hx).1
      rw [hd] at e
      have e : lngF (t.drop (i + 1)) (if ch ∈ figL then many + 1 else 0) (max most (if ch ∈ figL then many + 1 else 0)) = lngF t 0 0 := e
      obtain ⟨m2, em⟩ : ∃ m2, (if ch ∈ figL then many + 1 else 0) = m2 := ⟨_, rfl⟩
      have lm : m2 ≤ i + 1 := by
        rw [← em]
        split <;> omega
      refine ⟨_, rfl, _, _, rfl, rfl, (by show 2 ≤ sizeLine; decide), fun L1 m1 => ⟨_, rfl, ch, _, rfl, rfl, .inr ⟨_, rfl, L1, _, _, .int (m2 : Int), rfl, rfl, .inl (.inl upd_same), ?_, _, rfl, .inl ⟨_, rfl, _, rfl, .inl ⟨_, rfl, _, _, rfl, ?_⟩⟩⟩⟩⟩
      · rw [fig_signs, ← em]
        by_cases h : ch ∈ figL
        · rw [if_pos h, decide_eq_true (show ch ∈ [48, 49, 50, 51, 52, 53, 54, 55, 56, 57] from h)]
          rfl
        · rw [if_neg h, decide_eq_false (show ¬ ch ∈ [48, 49, 50, 51, 52, 53, 54, 55, 56, 57] from h)]
          rfl
      · rw [em] at e
        refine ⟨m2, max most m2, some (.str ⟨#[ch]⟩), ?_, s1.trans (same_new m1), lm, by omega, e⟩
        have ev : (if (m2 : Int) > (most : Int) then (m2 : Int) else (most : Int)) = ((max most m2 : Nat) : Int) := by
          split <;> omega
        rw [← ev]
        rfl
    · rintro σ H' ⟨many, most, y3, rfl, s1, l1, l2, e⟩
      have e : lngF (t.drop t.length) many most = lngF t 0 0 := by
        have : (SX.S t).cps.size = t.length := SX.S_len t
        rw [this] at e
        exact e
      rw [List.drop_length] at e
      have e : most = lngF t 0 0 := e
      refine ⟨_, rfl, ?_⟩
      rw [e]
      exact q H' s1
theorem ok_isright7 {f : Addr} {fd : FuncData} (D : Df K mg "_law_is_right" s_law_is_right ["text"] f fd) (T : Txt K w mg cs) (c_law_longest : Cl P w K mg base CX0 1 "_law_longest" spLongest7) (c_law_read : Cl P w K mg base CX0 4 "_law_read" (spRead7 K)) (c_read_breaker : Cl P w K mg base (L2.CX P w) 5 "read_breaker" (spReader7 K cs.BadText))
    (c_law_same : Cl P w K mg base CX0 203 "_law_same" (spSame K 201)) : FnOk P w K mg base CX0 204 f fd ["text"] spIsRight7 := by
  refine D.fn.ok sc_law_is_right (fun vs H Q E h => ?_) (fun cdv A outer s H vs Q E hr h => ?_)
  · obtain ⟨t, rfl, _⟩ := h
    rfl
  · obtain ⟨t, rfl, hl, hc, q⟩ := h
    refine ⟨_, (pss_cons (ps_if (pt_cmpR op_gt (pe_cl c_law_longest hr (by first | decide | omega) (by rfl) (pa_cons (pv 0) pa_nil)) pe_int (nomark _)) (pss_one (ps_ret pe_bl)) pss_nil) (pss_cons (ps_set (i := 1) sc_law_is_right.nd rfl (.inl rfl) (pe_cl c_law_read hr (by first | decide | omega) (by rfl) (pa_cons (pv 0) pa_nil))) (pss_cons (ps_try_as (i := 3) (Wout := fun _ _ _ _ => False) rfl rfl sc_law_is_right.nd rfl rfl ⟨rfl, by decide, .inl T.gl_BadText⟩ takes0 (fun W pn xe tk _ => (pss_one (ps_set (i := 2) sc_law_is_right.nd rfl (.inl rfl) (pe_clX c_read_breaker hr (by first | decide | omega) (by rfl) tk (pa_cons (pv 0) pa_nil))))) (fun a oe cls d pn hz hf => (pss_cons (ps_if (PW.pt (pw_or (pt_not (pt_val (pe_callB (call_isXd T.e_BadText hz hf) (by rfl) T.n_isinstance (by decide +kernel) (pa_cons (pv 3) (pa_cons (pe_glob (v := .ref cs.BreakError) (by rfl) T.gl_BreakError rfl) pa_nil))))) (pw_or (pt_not (pt_val (pe_callB (call_isXd T.e_BadText hz hf) (by rfl) T.n_isinstance (by decide +kernel) (pa_cons (pv 3) (pa_cons (pe_ty "ValueError" (by rfl) T.n_ValueError (by decide +kernel)) pa_nil))))) (pw_or1 (pt_val (pe_callB (call_isXd T.e_BadText hz hf) (by rfl) T.n_isinstance (by decide +kernel) (pa_cons (pv 3) (pa_cons (pe_glob (v := .ref cs.BadBreaker) (by rfl) T.gl_BadBreaker rfl) pa_nil)))))))) (pss_one (ps_ret pe_bl)) pss_nil) (pss_one (ps_ret (pe_and (pe_cmpR op_eq (pe_ix (ixL K) (pv 1) pe_int (fun _ _ => rfl)) pe_str (nomark _)) (pe_and (pe_callB (isiK K) (by rfl) T.n_isinstance (by decide +kernel) (pa_cons (pe_xf T.f_BadText T.fn_BadText_place hz hf (pv 3)) (pa_cons (pe_ty "int" (by rfl) T.n_int (by decide +kernel)) pa_nil))) (pe_and (pe_not (pe_callB (isiK K) (by rfl) T.n_isinstance (by decide +kernel) (pa_cons (pe_xf T.f_BadText T.fn_BadText_place hz hf (pv 3)) (pa_cons (pe_ty "bool" (by rfl) T.n_bool (by decide +kernel)) pa_nil)))) (pe_one (pe_cmpR op_eq (pe_xf T.f_BadText T.fn_BadText_place hz hf (pv 3)) (pe_ix (ixL K) (pv 1) pe_int (fun _ _ => rfl)) (nomark _))))))))))) (pss_one (ps_ret (pe_and (pe_cmpR op_eq (pe_ix (ixL K) (pv 1) pe_int (fun _ _ => rfl)) pe_str (nomark _)) (pe_one (pe_cl c_law_same hr (by first | decide | omega) (by rfl) (pa_cons (pv 2) (pa_cons (pe_ix (ixL K) (pv 1) pe_int (fun _ _ => rfl)) pa_nil)))))))))), ?_⟩
    refine ⟨_, rfl, t, rfl, by omega, fun H1 s1 => ⟨_, _, rfl, rfl, _, rfl, ?_⟩⟩
    by_cases h9 : 9 < lngF t 0 0
    · rw [decide_eq_true (show (9 : Int) < ((lngF t 0 0 : Nat) : Int) by omega)]
      exact q H1 s1
    rw [decide_eq_false (show ¬ (9 : Int) < ((lngF t 0 0 : Nat) : Int) by omega)]
    have few : Few t := few_lng (by omega)
    refine ⟨_, rfl, t, rfl, by omega, few, fun p H2 s2 due => ?_⟩
    have s12 := s1.trans s2
    refine ⟨_, rfl, t, rfl, by omega, few, ?_⟩
    cases er : lrun (.bd .start) t 0 with
    | bad n =>
      rw [er] at due
      intro d H3 hd s3
      have q3 := q H3 (s12.trans s3)
      refine ⟨true, T.exm_BadText_BadText, fun _ a na => ?_, fun z => nomatch z⟩
      have due : H2 p = some (.lst [.str "bad", .int (n : Int)]) := due
      have hp3 := s3 _ _ due
      have lk : ([((Str.ofString "place" : Str), V.int (n : Int))] : List (Str × V)).lookup (Str.ofString "place") = some (V.int (n : Int)) := by rw [lookup_put, if_pos rfl]
      refine ⟨_, rfl, .ref cs.BreakError, .ref cs.BreakError, true, d, _, rfl, rfl, rfl, hd, (fun _ h => h), T.kit_BadText_BreakError, _, rfl, ?_⟩
      refine ⟨_, rfl, .ty "ValueError", .type "ValueError", true, d, _, rfl, rfl, rfl, hd, (fun _ h => h), T.kit_BadText_ValueError, _, rfl, ?_⟩
      refine ⟨_, rfl, .ref cs.BadBreaker, .ref cs.BadBreaker, false, d, _, rfl, rfl, rfl, hd, (fun _ h => h), T.kit_BadText_BadBreaker, _, rfl, ?_⟩
      refine ⟨_, rfl, p, _, 0, _, rfl, rfl, .inl (.inl hp3), at0, rfl, _, rfl, ?_⟩
      rw [decide_eq_true rfl]
      refine ⟨_, rfl, rfl, rfl, d, _, _, rfl, hd, lk, _, _, _, _, true, rfl, .ty "int", .base (.int _), kit_ty (by decide +kernel), _, rfl, ?_⟩
      refine ⟨_, rfl, rfl, rfl, d, _, _, rfl, hd, lk, _, _, _, _, false, rfl, .ty "bool", .base (.int _), kit_ty (by decide +kernel), _, rfl, _, rfl, ?_⟩
      refine ⟨_, rfl, rfl, rfl, d, _, _, rfl, hd, lk, _, rfl, p, _, 1, _, rfl, rfl, .inl (.inl hp3), rfl, rfl, ?_⟩
      rw [decide_eq_true rfl]
      exact q3
    | good b =>
      rw [er] at due
      obtain ⟨v, hp, hv⟩ := due
      intro u H3 s3 hu
      have hp3 := s3 _ _ hp
      have q3 := q H3 (s12.trans s3)
      refine ⟨_, rfl, p, _, 0, _, rfl, rfl, .inl (.inl hp3), at0, rfl, ?_⟩
      refine ⟨_, rfl, ?_⟩
      rw [decide_eq_true rfl]
      refine ⟨_, rfl, _, rfl, p, _, 1, v, rfl, rfl, .inl (.inl hp3), rfl, u, v, brD b, rfl, hu, dp_same s3 _ hv, ?_, q3⟩
      exact tp_le (tp_okBr (L := 2 * t.length) (by omega) (read_ok er)) (by omega)

end
/-! ### how many parentheses are opened -/
def opW (ws : List (List Nat)) : Nat := (ws.map (List.count 40)).sum
theorem opW_app (a b : List (List Nat)) : opW (a ++ b) = opW a + opW b := by
  unfold opW
  rw [List.map_append, List.sum_append]
theorem opW_cons (w : List Nat) (b : List (List Nat)) : opW (w :: b) = w.count 40 + opW b := by
  unfold opW
  rw [List.map_cons, List.sum_cons]
theorem opW_split (ws : List (List Nat)) (i : Nat) : opW (ws.take i) + opW (ws.drop i) = opW ws := by
  rw [← opW_app, List.take_append_drop]
theorem op_num (i : Nat) : (TL.numL i).count 40 = 0 := List.count_eq_zero.mpr (TL.numL_free (.inl (by decide)))
theorem op_pa (p : Pa) : (paC p).count 40 = 0 := by
  cases p with
  | bit b => cases b <;> rfl
  | ref i =>
    show (98 :: TL.numL i).count 40 = 0
    rw [List.count_cons, op_num]
    rfl
theorem op_pas : ∀ ps : List Pa, opW (ps.map paC) = 0
  | [] => rfl
  | p :: ps => by
    rw [List.map_cons, opW_cons, op_pa, op_pas ps]
mutual
theorem op_words : ∀ b : Br, opW (wordsC b) ≤ 2 * nB b
  | .say ps => by
    show opW ([40] :: sayC :: (ps.map paC ++ [[41]])) ≤ 2 * 1
    rw [opW_cons, opW_cons, opW_app, op_pas]
    decide
  | .toss bs => by
    have h := op_wordss bs
    show opW ([40] :: tossC :: (wordssC bs ++ [[41]])) ≤ 2 * (1 + nBs bs)
    rw [opW_cons, opW_cons, opW_app, show ([40] : List Nat).count 40 = 1 from rfl, show tossC.count 40 = 0 from rfl, show opW [[41]] = 0 from rfl]
    omega
  | .look i a b => by
    have h1 := op_words a
    have h2 := op_words b
    show opW ([40] :: lookC :: TL.numL i :: (wordsC a ++ (wordsC b ++ [[41]]))) ≤ 2 * (1 + (nB a + nB b))
    rw [opW_cons, opW_cons, opW_cons, opW_app, opW_app, op_num, show ([40] : List Nat).count 40 = 1 from rfl, show lookC.count 40 = 0 from rfl, show opW [[41]] = 0 from rfl]
    omega
  | .ask ps a => by
    have h1 := op_words a
    show opW ([40] :: askC :: [40] :: (ps.map paC ++ [41] :: (wordsC a ++ [[41]]))) ≤ 2 * (1 + nB a)
    rw [opW_cons, opW_cons, opW_cons, opW_app, opW_cons, opW_app, op_pas, show ([40] : List Nat).count 40 = 1 from rfl, show askC.count 40 = 0 from rfl, show ([41] : List Nat).count 40 = 0 from rfl, show opW [[41]] = 0 from rfl]
    omega
theorem op_wordss : ∀ bs : List Br, opW (wordssC bs) ≤ 2 * nBs bs
  | [] => Nat.le_refl 0
  | b :: bs => by
    have h1 := op_words b
    have h2 := op_wordss bs
    show opW (wordsC b ++ wordssC bs) ≤ 2 * (nB b + nBs bs)
    rw [opW_app]
    omega
end
theorem op_behind : ∀ (ws : List (List Nat)) (p : List Nat), (behind p ws).count 40 = opW ws
  | [], _ => rfl
  | w :: ws, p => by
    show ((if w ≠ [41] ∧ p ≠ [40] then [32] else []) ++ (w ++ behind w ws)).count 40 = _
    rw [List.count_append, List.count_append, op_behind ws w, opW_cons]
    have : (if w ≠ [41] ∧ p ≠ [40] then [32] else [] : List Nat).count 40 = 0 := by split <;> rfl
    omega
theorem op_text (ws : List (List Nat)) : (lawTxt ws).count 40 = opW ws := by
  cases ws with
  | nil => rfl
  | cons w ws =>
    show (w ++ behind w ws).count 40 = _
    rw [List.count_append, op_behind, opW_cons]
theorem len_behind {m : Nat} : ∀ (ws : List (List Nat)) (p : List Nat), (∀ w ∈ ws, w.length ≤ m) → (behind p ws).length ≤ (m + 1) * ws.length
  | [], _, _ => Nat.zero_le _
  | w :: ws, p, h => by
    show ((if w ≠ [41] ∧ p ≠ [40] then [32] else []) ++ (w ++ behind w ws)).length ≤ _
    have h1 := len_behind ws w fun x hx => h x (List.mem_cons_of_mem _ hx)
    have h2 := h w List.mem_cons_self
    have h3 : (if w ≠ [41] ∧ p ≠ [40] then [32] else [] : List Nat).length ≤ 1 := by split <;> decide
    rw [List.length_append, List.length_append, List.length_cons, Nat.mul_succ]
    omega
theorem len_text {m : Nat} {ws : List (List Nat)} (h : ∀ w ∈ ws, w.length ≤ m) : (lawTxt ws).length ≤ (m + 1) * ws.length := by
  cases ws with
  | nil => exact Nat.zero_le _
  | cons w ws =>
    show (w ++ behind w ws).length ≤ _
    have h1 := len_behind ws w fun x hx => h x (List.mem_cons_of_mem _ hx)
    have h2 := h w List.mem_cons_self
    rw [List.length_append, List.length_cons, Nat.mul_succ]
    omega
theorem op_spc {ws : List (List Nat)} {t : List Nat} (h : Spc ws t) : t.count 40 = opW ws := by
  induction h with
  | nil => rfl
  | cons w ws k t _ _ ih =>
    rw [List.count_append, List.count_append, ih, opW_cons, List.count_replicate]
    simp
theorem op_blank (k : Nat) (t : List Nat) : (List.replicate k 32 ++ t).count 40 = t.count 40 := by
  rw [List.count_append, List.count_replicate]
  simp
/-- words: so many, so long, so many parentheses opened -/
def WsB (ws : List (List Nat)) (n m c : Nat) : Prop := ws.length ≤ n ∧ (∀ w ∈ ws, w.length ≤ m) ∧ opW ws ≤ c
/-- a text for the reader -/
def TxB (t : List Nat) : Prop := t.length ≤ 60000 ∧ t.count 40 ≤ 90
theorem tx_of {ws : List (List Nat)} (h : WsB ws 4500 7 90) : TxB (lawTxt ws) := by
  have := len_text h.2.1
  have h1 := h.1
  exact ⟨by omega, by rw [op_text]; exact h.2.2⟩
theorem spc_of {ws : List (List Nat)} {k : Nat} {t : List Nat} {c : Nat} (h : WsB ws 4500 5 c) (hs : Spc ws t) (hl : (List.replicate k 32 ++ t).length ≤ 9 * ws.length + 4) : (List.replicate k 32 ++ t).length ≤ 40504 ∧ (List.replicate k 32 ++ t).count 40 ≤ c := by
  have h1 := h.1
  exact ⟨by omega, by rw [op_blank, op_spc hs]; exact h.2.2⟩
def PieceOk (w : List Nat) : Prop := w.length ≤ 7 ∧ w.count 40 ≤ 1
def piecesA : List (List Nat) := [[40], [41], [40], [41], [32], sayC, tossC, lookC, askC, [48], [49], [98, 48], [98, 49, 55], [53], [49, 50], [98], [40, 115, 97, 121, 41], [40, 115, 97, 121, 32, 49, 41]]
def piecesB : List (List Nat) := [[115, 97], [108, 111], [98, 48, 53], [48, 48], [48, 55], [48, 49], [120], [83], [44], [10], [45, 49], [115, 97, 121, 48], [108, 111, 111, 107, 53], [116, 111, 115, 115, 40], [40, 41, 32], [97, 115]]
theorem piecesA_S : (["(", ")", "(", ")", " ", "say", "toss", "look", "ask", "0", "1", "b0", "b17", "5", "12", "b", "(say)", "(say 1)"] : List Str) = piecesA.map SX.S := by decide +kernel
theorem piecesB_S : (["sa", "lo", "b05", "00", "07", "01", "x", "S", ",", "\n", "-1", "say0", "look5", "toss(", "() ", "as"] : List Str) = piecesB.map SX.S := by decide +kernel
theorem pieces_ok : ∀ w ∈ piecesA ++ piecesB, PieceOk w := by
  have : ∀ w ∈ piecesA ++ piecesB, w.length ≤ 7 ∧ w.count 40 ≤ 1 := by decide
  exact this
theorem cutV_take (us : List V) (i : Nat) : cutV us none (some (i : Int)) = us.take i := by
  unfold cutV
  rw [HT.sIx_nat, HT.sIx_none]
  show (us.drop 0).take (min i us.length - 0) = _
  rw [List.drop_zero, Nat.sub_zero]
  by_cases h : i ≤ us.length
  · rw [Nat.min_eq_left h]
  · rw [Nat.min_eq_right (by omega), List.take_length, List.take_of_length_le (by omega)]
theorem cutV_drop (us : List V) (i : Nat) : cutV us (some (i : Int)) none = us.drop i := by
  unfold cutV
  rw [HT.sIx_nat, HT.sIx_none]
  show (us.drop (min i us.length)).take (us.length - min i us.length) = _
  by_cases h : i ≤ us.length
  · rw [Nat.min_eq_left h, List.take_of_length_le (by rw [List.length_drop]; exact Nat.le_refl _)]
  · rw [Nat.min_eq_right (by omega), List.drop_length, List.drop_of_length_le (by omega), List.take_nil]
theorem wordV_take (ws : List (List Nat)) (i : Nat) : (wordV ws).take i = wordV (ws.take i) := by
  unfold wordV
  rw [List.map_take]
theorem wordV_drop (ws : List (List Nat)) (i : Nat) : (wordV ws).drop i = wordV (ws.drop i) := by
  unfold wordV
  rw [List.map_drop]
def spPiece7 : Sp := fun vs H Q _ => ∃ a d : Addr, vs = [.ref a] ∧ Hnd H a d ∧ ∀ w H', PieceOk w → Hnd H' a d → Keep a H H' → Q (.str (SX.S w)) H'
def spBent7 : Sp := fun vs H Q _ => ∃ (a d L : Addr) (ws : List (List Nat)), vs = [.ref a, .ref L] ∧ Hnd H a d ∧ H L = some (.lst (wordV ws)) ∧ L ≠ a ∧ WsB ws 4400 5 84 ∧ 1 ≤ ws.length ∧ ∀ t H', TxB t → Hnd H' a d → Keep a H H' → Q (.str (SX.S t)) H'
theorem sg_list : (Str.ofString "()01b 5sxa" : Str).cps.toList = [40, 41, 48, 49, 98, 32, 53, 115, 120, 97] := by decide +kernel
theorem one_op (c : Nat) : ([c] : List Nat).count 40 ≤ 1 := List.count_le_length
/-- words left out, put in, exchanged -/
theorem wsb_mid {ws mid : List (List Nat)} (h : WsB ws 4400 5 84) (i j : Nat) (hm : mid.length ≤ 1) (hp : ∀ w ∈ mid, PieceOk w) (hij : i ≤ j) : WsB (ws.take i ++ (mid ++ ws.drop j)) 4500 7 90 := by
  obtain ⟨b1, b2, b3⟩ := h
  have om : opW mid ≤ 1 := by
    cases mid with
    | nil => exact Nat.zero_le _
    | cons w mid =>
      cases mid with
      | nil =>
        rw [opW_cons]
        exact (hp w List.mem_cons_self).2
      | cons _ _ => simp at hm
  have o1 := opW_split ws i
  have o2 : opW (ws.drop j) ≤ opW (ws.drop i) := by
    obtain ⟨k, rfl⟩ : ∃ k, j = i + k := ⟨j - i, by omega⟩
    have := opW_split (ws.drop i) k
    rw [List.drop_drop] at this
    omega
  refine ⟨?_, fun w hw => ?_, ?_⟩
  · rw [List.length_append, List.length_append, List.length_take, List.length_drop]
    omega
  · rcases List.mem_append.mp hw with z | z
    · exact Nat.le_trans (b2 w (List.mem_of_mem_take z)) (by decide)
    · rcases List.mem_append.mp z with z | z
      · exact (hp w z).1
      · exact Nat.le_trans (b2 w (List.mem_of_mem_drop z)) (by decide)
  · rw [opW_app, opW_app]
    omega
theorem cnt_take (t : List Nat) (i : Nat) : (t.take i).count 40 ≤ t.count 40 := List.Sublist.count_le _ (List.take_sublist i t)
theorem cnt_drop (t : List Nat) (i : Nat) : (t.drop i).count 40 ≤ t.count 40 := List.Sublist.count_le _ (List.drop_sublist i t)
theorem cnt_both (t : List Nat) {i j : Nat} (h : i ≤ j) : (t.take i).count 40 + (t.drop j).count 40 ≤ t.count 40 := by
  have e := congrArg (List.count 40) (List.take_append_drop i t)
  rw [List.count_append] at e
  obtain ⟨k, rfl⟩ : ∃ k, j = i + k := ⟨j - i, by omega⟩
  have := cnt_drop (t.drop i) k
  rw [List.drop_drop] at this
  omega
theorem txb_mid {t mid : List Nat} (h1 : t.length ≤ 50000) (h2 : t.count 40 ≤ 84) {i j : Nat} (hm : mid.length ≤ 7) (hp : mid.count 40 ≤ 1) (h : i ≤ j) : TxB (t.take i ++ (mid ++ t.drop j)) := by
  have := cnt_both t h
  refine ⟨?_, ?_⟩
  · rw [List.length_append, List.length_append, List.length_take, List.length_drop]
    omega
  · rw [List.count_append, List.count_append]
    omega

section
variable {P : Program} {w : World} {K : PySem.W.Frag} {mg : Str → Option Value} {base : Heap} {cs : Cs}
theorem ok_piece7 {f : Addr} {fd : FuncData} (D : Df K mg "_law_piece" s_law_piece ["hand"] f fd) (T : Txt K w mg cs) (c_law_take : Cl P w K mg base CX0 1 "_law_take" spTake) : FnOk P w K mg base CX0 2 f fd ["hand"] spPiece7 := by
  refine D.fn.ok sc_law_piece (fun vs H Q E h => ?_) (fun cdv A outer s H vs Q E hr h => ?_)
  · obtain ⟨a, d, rfl, _⟩ := h
    rfl
  · obtain ⟨a, d, rfl, hh, q⟩ := h
    refine ⟨_, (pss_cons (ps_set (i := 1) sc_law_piece.nd rfl (.inl rfl) (pe_lst (pa_cons pe_str (pa_cons pe_str (pa_cons pe_str (pa_cons pe_str (pa_cons pe_str (pa_cons pe_str (pa_cons pe_str (pa_cons pe_str (pa_cons pe_str (pa_cons pe_str (pa_cons pe_str (pa_cons pe_str (pa_cons pe_str (pa_cons pe_str (pa_cons pe_str (pa_cons pe_str (pa_cons pe_str (pa_cons pe_str pa_nil)))))))))))))))))))) (pss_cons (ps_set (i := 1) sc_law_piece.nd rfl (.inl rfl) (pe_op op_cat (pv 1) (pe_lst (pa_cons pe_str (pa_cons pe_str (pa_cons pe_str (pa_cons pe_str (pa_cons pe_str (pa_cons pe_str (pa_cons pe_str (pa_cons pe_str (pa_cons pe_str (pa_cons pe_str (pa_cons pe_str (pa_cons pe_str (pa_cons pe_str (pa_cons pe_str (pa_cons pe_str (pa_cons pe_str pa_nil))))))))))))))))))) (pss_one (ps_ret (pe_ix (ixL K) (pv 1) (pe_cl c_law_take hr (by first | decide | omega) (by rfl) (pa_cons (pv 0) (pa_cons (pe_callB (lenS K) (by rfl) T.n_len (by decide +kernel) (pa_cons (pv 1) pa_nil)) pa_nil))) (fun _ _ => rfl)))))), ?_⟩
    refine ⟨(by show 18 ≤ sizeLine; decide), fun L1 m1 => ?_⟩
    have e1 : upd H L1 (.lst ((["(", ")", "(", ")", " ", "say", "toss", "look", "ask", "0", "1", "b0", "b17", "5", "12", "b", "(say)", "(say 1)"] : List Str).map V.str)) L1 = some (.lst (wordV piecesA)) := by
      rw [upd_same, piecesA_S, List.map_map]
      rfl
    have n1 := hh.new (o := .lst ((["(", ")", "(", ")", " ", "say", "toss", "look", "ask", "0", "1", "b0", "b17", "5", "12", "b", "(say)", "(say 1)"] : List Str).map V.str)) m1
    have k1 := Keep.new (a := a) (o := .lst ((["(", ")", "(", ")", " ", "say", "toss", "look", "ask", "0", "1", "b0", "b17", "5", "12", "b", "(say)", "(say 1)"] : List Str).map V.str)) m1
    show gName 1 (V.ref L1) _ (upd H L1 (.lst ((["(", ")", "(", ")", " ", "say", "toss", "look", "ask", "0", "1", "b0", "b17", "5", "12", "b", "(say)", "(say 1)"] : List Str).map V.str))) _
    generalize upd H L1 (.lst ((["(", ")", "(", ")", " ", "say", "toss", "look", "ask", "0", "1", "b0", "b17", "5", "12", "b", "(say)", "(say 1)"] : List Str).map V.str)) = H1 at e1 n1 k1
    refine ⟨_, rfl, (by show 16 ≤ sizeLine; decide), fun L2 m2 => ?_⟩
    have e2 : upd H1 L2 (.lst ((["sa", "lo", "b05", "00", "07", "01", "x", "S", ",", "\n", "-1", "say0", "look5", "toss(", "() ", "as"] : List Str).map V.str)) L2 = some (.lst (wordV piecesB)) := by
      rw [upd_same, piecesB_S, List.map_map]
      rfl
    have n2 := n1.new (o := .lst ((["sa", "lo", "b05", "00", "07", "01", "x", "S", ",", "\n", "-1", "say0", "look5", "toss(", "() ", "as"] : List Str).map V.str)) m2
    have k2 := k1.trans (Keep.new (a := a) (o := .lst ((["sa", "lo", "b05", "00", "07", "01", "x", "S", ",", "\n", "-1", "say0", "look5", "toss(", "() ", "as"] : List Str).map V.str)) m2)
    have e1' := same_new (o := .lst ((["sa", "lo", "b05", "00", "07", "01", "x", "S", ",", "\n", "-1", "say0", "look5", "toss(", "() ", "as"] : List Str).map V.str)) m2 _ _ e1
    show rCat (V.ref L1) (V.ref L2) (upd H1 L2 (.lst ((["sa", "lo", "b05", "00", "07", "01", "x", "S", ",", "\n", "-1", "say0", "look5", "toss(", "() ", "as"] : List Str).map V.str))) _
    generalize upd H1 L2 (.lst ((["sa", "lo", "b05", "00", "07", "01", "x", "S", ",", "\n", "-1", "say0", "look5", "toss(", "() ", "as"] : List Str).map V.str)) = H2 at e2 n2 k2 e1'
    refine ⟨L1, L2, _, _, rfl, rfl, e1', e2, (by show 18 + 16 ≤ sizeLine; decide), fun L3 m3 => ?_⟩
    have e3 : upd H2 L3 (.lst (wordV piecesA ++ wordV piecesB)) L3 = some (.lst (wordV (piecesA ++ piecesB))) := by
      rw [upd_same, wordV_app]
    have n3 := n2.new (o := .lst (wordV piecesA ++ wordV piecesB)) m3
    have k3 := k2.trans (Keep.new (a := a) (o := .lst (wordV piecesA ++ wordV piecesB)) m3)
    have l3 : L3 ≠ a := (n2.ne m3).1
    show gName 1 (V.ref L3) _ (upd H2 L3 (.lst (wordV piecesA ++ wordV piecesB))) _
    generalize upd H2 L3 (.lst (wordV piecesA ++ wordV piecesB)) = H3 at e3 n3 k3
    refine ⟨_, rfl, _, rfl, _, rfl, L3, _, rfl, .inl (.inl (.inl e3)), a, d, 34, rfl, by decide, n3, fun r H4 l u n4 k4 => ?_⟩
    obtain ⟨x, hat, hm⟩ := atI_mem (xs := wordV (piecesA ++ piecesB)) l (show r < 34 from u)
    obtain ⟨w, hw, rfl⟩ := List.mem_map.mp hm
    exact ⟨L3, _, r, _, rfl, rfl, .inl (.inl (k4 _ _ e3 l3)), hat, q w H4 (pieces_ok w hw) n4 (k3.trans k4)⟩

theorem ok_bent7 {f : Addr} {fd : FuncData} (D : Df K mg "_law_bent" s_law_bent ["hand", "words"] f fd) (T : Txt K w mg cs) (c_law_take : Cl P w K mg base CX0 1 "_law_take" spTake) (c_law_piece : Cl P w K mg base CX0 2 "_law_piece" spPiece7) (c_law_text : Cl P w K mg base CX0 1 "_law_text" (spLawTxt K)) (c_law_spaced : Cl P w K mg base CX0 2 "_law_spaced" (spSpaced K)) :
    FnOk P w K mg base CX0 3 f fd ["hand", "words"] spBent7 := by
  refine D.fn.ok sc_law_bent (fun vs H Q E h => ?_) (fun cdv A outer s H vs Q E hr h => ?_)
  · obtain ⟨a, d, L, ws, rfl, _⟩ := h
    rfl
  · obtain ⟨a, d, L, ws, rfl, hh, hL, nL, ⟨b1, b2, b3⟩, l1, q⟩ := h
    refine ⟨_, (pss_cons (ps_set (i := 2) sc_law_bent.nd rfl (.inl rfl) (pe_cl c_law_take hr (by first | decide | omega) (by rfl) (pa_cons (pv 0) (pa_cons (pe_callB (lenS K) (by rfl) T.n_len (by decide +kernel) (pa_cons (pv 1) pa_nil)) pa_nil)))) (pss_cons (ps_set (i := 3) sc_law_bent.nd rfl (.inl rfl) (pe_cl c_law_take hr (by first | decide | omega) (by rfl) (pa_cons (pv 0) (pa_cons pe_int pa_nil)))) (pss_cons (ps_set (i := 4) sc_law_bent.nd rfl (.inl rfl) (pe_cl c_law_take hr (by first | decide | omega) (by rfl) (pa_cons (pv 0) (pa_cons pe_int pa_nil)))) (pss_cons (ps_set (i := 5) sc_law_bent.nd rfl (.inl rfl) (pe_ix ix_str pe_str (pe_cl c_law_take hr (by first | decide | omega) (by rfl) (pa_cons (pv 0) (pa_cons pe_int pa_nil))) (fun _ _ => rfl))) (pss_cons (ps_set (i := 6) sc_law_bent.nd rfl (.inl rfl) (pe_cl c_law_piece hr (by first | decide | omega) (by rfl) (pa_cons (pv 0) pa_nil))) (pss_cons (ps_if (pt_cmpR op_eq (pv 3) pe_int (nomark _)) (pss_one (ps_ret (pe_cl c_law_text hr (by first | decide | omega) (by rfl) (pa_cons (pe_op op_cat (pe_slice (slL K) (pv 1) po_none (po_some (pv 2))) (pe_slice (slL K) (pv 1) (po_some (pe_op op_add (pv 2) pe_int)) po_none)) pa_nil)))) pss_nil) (pss_cons (ps_if (pt_cmpR op_eq (pv 3) pe_int (nomark _)) (pss_one (ps_ret (pe_cl c_law_text hr (by first | decide | omega) (by rfl) (pa_cons (pe_op op_cat (pe_op op_cat (pe_slice (slL K) (pv 1) po_none (po_some (pv 2))) (pe_lst (pa_cons (pv 6) pa_nil))) (pe_slice (slL K) (pv 1) (po_some (pv 2)) po_none)) pa_nil)))) pss_nil) (pss_cons (ps_if (pt_cmpR op_eq (pv 3) pe_int (nomark _)) (pss_one (ps_ret (pe_cl c_law_text hr (by first | decide | omega) (by rfl) (pa_cons (pe_op op_cat (pe_op op_cat (pe_slice (slL K) (pv 1) po_none (po_some (pv 2))) (pe_lst (pa_cons (pv 6) pa_nil))) (pe_slice (slL K) (pv 1) (po_some (pe_op op_add (pv 2) pe_int)) po_none)) pa_nil)))) pss_nil) (pss_cons (ps_set (i := 7) sc_law_bent.nd rfl (.inl rfl) (pe_cl c_law_spaced hr (by first | decide | omega) (by rfl) (pa_cons (pv 0) (pa_cons (pv 1) pa_nil)))) (pss_cons (ps_set (i := 8) sc_law_bent.nd rfl (.inl rfl) (pe_op op_mod (pe_callTy call_int1 (by rfl) T.n_int (by decide +kernel) (pa_cons (pv 4) pa_nil)) (pe_op op_add (pe_callB call_len_str (by rfl) T.n_len (by decide +kernel) (pa_cons (pv 7) pa_nil)) pe_int))) (pss_cons (ps_if (pt_cmpR op_eq (pv 3) pe_int (nomark _)) (pss_one (ps_ret (pe_slice sl_str (pv 7) po_none (po_some (pv 8))))) pss_nil) (pss_cons (ps_if (pt_cmpR op_eq (pv 3) pe_int (nomark _)) (pss_one (ps_ret (pe_op op_add_str (pe_slice sl_str (pv 7) po_none (po_some (pv 8))) (pe_slice sl_str (pv 7) (po_some (pe_op op_add (pv 8) pe_int)) po_none)))) pss_nil) (pss_cons (ps_if (pt_cmpR op_eq (pv 3) pe_int (nomark _)) (pss_one (ps_ret (pe_op op_add_str (pe_op op_add_str (pe_slice sl_str (pv 7) po_none (po_some (pv 8))) (pv 5)) (pe_slice sl_str (pv 7) (po_some (pe_op op_add (pv 8) pe_int)) po_none)))) pss_nil) (pss_cons (ps_if (pt_cmpR op_eq (pv 3) pe_int (nomark _)) (pss_one (ps_ret (pe_op op_add_str (pv 7) (pv 6)))) pss_nil) (pss_one (ps_ret (pe_op op_add_str (pe_op op_add_str (pe_slice sl_str (pv 7) po_none (po_some (pv 8))) (pv 5)) (pe_slice sl_str (pv 7) (po_some (pv 8)) po_none)))))))))))))))))), ?_⟩
    have hlw : (wordV ws).length = ws.length := wordV_len ws
    refine ⟨_, rfl, _, rfl, L, _, rfl, .inl (.inl (.inl hL)), a, d, _, rfl, (by rw [hlw]; omega), hh, fun r1 H1 p1 u1 n1 k1 => ?_⟩
    refine ⟨_, rfl, a, d, 8, rfl, by decide, n1, fun r2 H2 p2 u2 n2 k2 => ?_⟩
    refine ⟨_, rfl, a, d, 100003, rfl, by decide, n2, fun r3 H3 p3 u3 n3 k3 => ?_⟩
    refine ⟨_, rfl, a, d, 10, rfl, by decide, n3, fun r4 H4 p4 u4 n4 k4 => ?_⟩
    obtain ⟨i1, rfl, hi1⟩ : ∃ i : Nat, r1 = (i : Int) ∧ i < ws.length := ⟨r1.toNat, by omega, by rw [hlw] at u1; omega⟩
    obtain ⟨i3, rfl⟩ : ∃ i : Nat, r3 = (i : Int) := ⟨r3.toNat, by omega⟩
    obtain ⟨i4, rfl, hi4⟩ : ∃ i : Nat, r4 = (i : Int) ∧ i < 10 := ⟨r4.toNat, by omega, by omega⟩
    obtain ⟨sg, hsg⟩ : ∃ sg : Nat, atI [40, 41, 48, 49, 98, 32, 53, 115, 120, 97] (i4 : Int) = some sg := ⟨_, atI_nat (List.getElem?_eq_getElem (show i4 < [40, 41, 48, 49, 98, 32, 53, 115, 120, 97].length from hi4))⟩
    refine ⟨_, _, sg, rfl, rfl, (by decide +kernel), by rw [sg_list]; exact hsg, ?_⟩
    refine ⟨_, rfl, a, d, rfl, n4, fun pc H5 pk n5 k5 => ?_⟩
    have k05 := (((k1.trans k2).trans k3).trans k4).trans k5
    have hL5 := k05 _ _ hL nL
    have wsB : WsB ws 4400 5 84 := ⟨b1, b2, b3⟩
    clear k1 k2 k3 k4 k5 n1 n2 n3 n4 hh p4 u4 hsg p1 u1
    have sz : ∀ x : List (List Nat), x.length ≤ 4500 → (wordV x).length ≤ 4500 := fun x h => by rw [wordV_len]; exact h
    -- the text of a list of words
    have fin : ∀ (L2 : Addr) (ws2 : List (List Nat)) (G : Hp), WsB ws2 4500 7 90 → Hnd G a d → Keep a H G → G L2 = some (.lst (wordV ws2)) → spLawTxt K [.ref L2] G Q E0 := fun L2 ws2 G wb n k e => by
      have := len_text wb.2.1
      have b := wb.1
      exact ⟨L2, ws2, rfl, .inl (.inl e), by omega, by omega, fun G' s' => q _ _ (tx_of wb) (n.same s') (k.trans (Keep.same s'))⟩
    refine ⟨_, rfl, rfl, _, rfl, ?_⟩
    by_cases c0 : r2 = 0
    · rw [decide_eq_true (show V.int r2 = V.int 0 by rw [c0])]
      refine ⟨_, rfl, _, rfl, _, rfl, L, _, rfl, .inl (.inl hL5), fun p1 m1 => ?_⟩
      refine ⟨_, rfl, _, rfl, _, _, rfl, rfl, _, rfl, L, _, rfl, .inl (.inl (same_new m1 _ _ hL5)), fun p2 m2 => ?_⟩
      refine ⟨p1, p2, _, _, rfl, rfl, same_new m2 _ _ upd_same, upd_same, ?_, fun p3 m3 => ?_⟩
      · rw [cutV_take, show ((i1 : Int) + 1) = ((i1 + 1 : Nat) : Int) from rfl, cutV_drop, List.length_take, List.length_drop, hlw, sizeLine_eq]
        omega
      refine fin p3 (ws.take i1 ++ ([] ++ ws.drop (i1 + 1))) _ (wsb_mid wsB i1 (i1 + 1) (Nat.zero_le _) (fun _ h => nomatch h) (Nat.le_succ _)) (((n5.new m1).new m2).new m3) (k05.trans (((Keep.new m1).trans (Keep.new m2)).trans (Keep.new m3))) ?_
      rw [upd_same, cutV_take, show ((i1 : Int) + 1) = ((i1 + 1 : Nat) : Int) from rfl, cutV_drop, wordV_take, wordV_drop, ← wordV_app]
      rfl
    rw [decide_eq_false (show ¬ V.int r2 = V.int 0 from fun z => c0 (V.int.inj z))]
    refine ⟨_, rfl, rfl, _, rfl, ?_⟩
    by_cases c1 : r2 = 1
    · rw [decide_eq_true (show V.int r2 = V.int 1 by rw [c1])]
      refine ⟨_, rfl, _, rfl, _, rfl, L, _, rfl, .inl (.inl hL5), fun p1 m1 => ?_⟩
      refine ⟨_, rfl, (by show 1 ≤ sizeLine; decide), fun p2 m2 => ?_⟩
      refine ⟨p1, p2, _, _, rfl, rfl, same_new m2 _ _ upd_same, upd_same, ?_, fun p3 m3 => ?_⟩
      · rw [cutV_take, List.length_take, hlw, sizeLine_eq]
        show min i1 ws.length + 1 ≤ _
        omega
      refine ⟨_, rfl, _, rfl, _, rfl, L, _, rfl, .inl (.inl (((same_new m1).trans ((same_new m2).trans (same_new m3))) _ _ hL5)), fun p4 m4 => ?_⟩
      refine ⟨p3, p4, _, _, rfl, rfl, same_new m4 _ _ upd_same, upd_same, ?_, fun p5 m5 => ?_⟩
      · rw [cutV_take, cutV_drop, List.length_append, List.length_take, List.length_drop, hlw, sizeLine_eq]
        show min i1 ws.length + 1 + _ ≤ _
        omega
      refine fin p5 (ws.take i1 ++ ([pc] ++ ws.drop i1)) _ (wsb_mid wsB i1 i1 (Nat.le_refl _) (fun w hw => by rw [List.mem_singleton.mp hw]; exact pk) (Nat.le_refl _)) (((((n5.new m1).new m2).new m3).new m4).new m5) (k05.trans (((((Keep.new m1).trans (Keep.new m2)).trans (Keep.new m3)).trans (Keep.new m4)).trans (Keep.new m5))) ?_
      rw [upd_same, cutV_take, cutV_drop, wordV_take, wordV_drop, List.append_assoc, wordV_app, wordV_app]
      rfl
    rw [decide_eq_false (show ¬ V.int r2 = V.int 1 from fun z => c1 (V.int.inj z))]
    refine ⟨_, rfl, rfl, _, rfl, ?_⟩
    by_cases c2 : r2 = 2
    · rw [decide_eq_true (show V.int r2 = V.int 2 by rw [c2])]
      refine ⟨_, rfl, _, rfl, _, rfl, L, _, rfl, .inl (.inl hL5), fun p1 m1 => ?_⟩
      refine ⟨_, rfl, (by show 1 ≤ sizeLine; decide), fun p2 m2 => ?_⟩
      refine ⟨p1, p2, _, _, rfl, rfl, same_new m2 _ _ upd_same, upd_same, ?_, fun p3 m3 => ?_⟩
      · rw [cutV_take, List.length_take, hlw, sizeLine_eq]
        show min i1 ws.length + 1 ≤ _
        omega
      refine ⟨_, rfl, _, rfl, _, _, rfl, rfl, _, rfl, L, _, rfl, .inl (.inl (((same_new m1).trans ((same_new m2).trans (same_new m3))) _ _ hL5)), fun p4 m4 => ?_⟩
      refine ⟨p3, p4, _, _, rfl, rfl, same_new m4 _ _ upd_same, upd_same, ?_, fun p5 m5 => ?_⟩
      · rw [cutV_take, show ((i1 : Int) + 1) = ((i1 + 1 : Nat) : Int) from rfl, cutV_drop, List.length_append, List.length_take, List.length_drop, hlw, sizeLine_eq]
        show min i1 ws.length + 1 + _ ≤ _
        omega
      refine fin p5 (ws.take i1 ++ ([pc] ++ ws.drop (i1 + 1))) _ (wsb_mid wsB i1 (i1 + 1) (Nat.le_refl _) (fun w hw => by rw [List.mem_singleton.mp hw]; exact pk) (Nat.le_succ _)) (((((n5.new m1).new m2).new m3).new m4).new m5) (k05.trans (((((Keep.new m1).trans (Keep.new m2)).trans (Keep.new m3)).trans (Keep.new m4)).trans (Keep.new m5))) ?_
      rw [upd_same, cutV_take, show ((i1 : Int) + 1) = ((i1 + 1 : Nat) : Int) from rfl, cutV_drop, wordV_take, wordV_drop, List.append_assoc, wordV_app, wordV_app]
      rfl
    rw [decide_eq_false (show ¬ V.int r2 = V.int 2 from fun z => c2 (V.int.inj z))]
    clear fin
    refine ⟨_, rfl, _, rfl, a, d, L, ws, rfl, n5, hL5, nL, by omega, b2, fun kb tb H6 sp len n6 k6 => ?_⟩
    obtain ⟨x1, x2⟩ := spc_of (ws := ws) (c := 84) ⟨by omega, b2, b3⟩ sp len
    generalize List.replicate kb 32 ++ tb = tx at x1 x2
    have finT : ∀ t : List Nat, TxB t → Q (.str (SX.S t)) H6 := fun t h => q t H6 h n6 (k05.trans k6)
    clear q k6 n6 sp len n5 hL5 hL
    have szT := S_small (l := tx) (by omega)
    obtain ⟨pl, epl, hpl⟩ : ∃ pl : Nat, (i3 : Int) % (((SX.S tx).length : Int) + 1) = (pl : Int) ∧ pl ≤ tx.length := by
      rw [SX.S_len]
      refine ⟨i3 % (tx.length + 1), rfl, ?_⟩
      have := Nat.mod_lt i3 (show 0 < tx.length + 1 by omega)
      omega
    refine ⟨_, rfl, .inl ⟨_, rfl, _, rfl, _, rfl, szT, _, _, rfl, rfl, _, _, rfl, rfl, by omega, ?_⟩⟩
    show gName 8 (V.int ((i3 : Int) % (((SX.S tx).length : Int) + 1))) _ H6 _
    rw [epl]
    have cT : ∀ j : Nat, cutS (SX.S tx) none (some (j : Int)) = SX.S (tx.take j) := fun j => cut_SP
    have cD : ∀ j : Nat, cutS (SX.S tx) (some (j : Int)) none = SX.S (tx.drop j) := fun j => cut_SX
    have cD1 : cutS (SX.S tx) (some ((pl : Int) + 1)) none = SX.S (tx.drop (pl + 1)) := cD (pl + 1)
    have lT : ∀ j : Nat, (SX.S (tx.take j)).length ≤ tx.length := fun j => by rw [SX.S_len, List.length_take]; omega
    have lD : ∀ j : Nat, (SX.S (tx.drop j)).length ≤ tx.length := fun j => by rw [SX.S_len, List.length_drop]; omega
    have lS : (⟨#[sg]⟩ : Str).length = 1 := rfl
    refine ⟨_, rfl, rfl, _, rfl, ?_⟩
    by_cases c3 : r2 = 3
    · rw [decide_eq_true (show V.int r2 = V.int 3 by rw [c3])]
      refine ⟨_, rfl, _, rfl, _, rfl, _, rfl, szT, ?_⟩
      rw [cT]
      exact finT _ ⟨by rw [List.length_take]; omega, by have := cnt_take tx pl; omega⟩
    rw [decide_eq_false (show ¬ V.int r2 = V.int 3 from fun z => c3 (V.int.inj z))]
    refine ⟨_, rfl, rfl, _, rfl, ?_⟩
    by_cases c4 : r2 = 4
    · rw [decide_eq_true (show V.int r2 = V.int 4 by rw [c4])]
      refine ⟨_, rfl, _, rfl, _, rfl, _, rfl, szT, _, rfl, _, rfl, _, _, rfl, rfl, _, rfl, _, rfl, szT, _, _, rfl, rfl, ?_, ?_⟩
      · rw [cT, cD1, sizeLine_eq]
        have := lT pl
        have := lD (pl + 1)
        omega
      · rw [cT, cD1, SX.S_cat]
        exact finT _ (txb_mid (mid := []) (by omega) x2 (Nat.zero_le _) (Nat.zero_le _) (Nat.le_succ pl))
    rw [decide_eq_false (show ¬ V.int r2 = V.int 4 from fun z => c4 (V.int.inj z))]
    refine ⟨_, rfl, rfl, _, rfl, ?_⟩
    by_cases c5 : r2 = 5
    · rw [decide_eq_true (show V.int r2 = V.int 5 by rw [c5])]
      refine ⟨_, rfl, _, rfl, _, rfl, _, rfl, szT, _, rfl, _, _, rfl, rfl, ?_, ?_⟩
      · rw [cT, sizeLine_eq, lS]
        have := lT pl
        omega
      refine ⟨_, rfl, _, rfl, _, _, rfl, rfl, _, rfl, _, rfl, szT, _, _, rfl, rfl, ?_, ?_⟩
      · rw [cT, cD1, sizeLine_eq, show SX.S (tx.take pl) ++ (⟨#[sg]⟩ : Str) = SX.S (tx.take pl ++ [sg]) from SX.S_cat _ _, SX.S_len, List.length_append, List.length_take]
        have := lD (pl + 1)
        show _ + 1 + _ ≤ _
        omega
      · rw [cT, cD1, show SX.S (tx.take pl) ++ (⟨#[sg]⟩ : Str) = SX.S (tx.take pl ++ [sg]) from SX.S_cat _ _, SX.S_cat, List.append_assoc]
        exact finT _ (txb_mid (mid := [sg]) (by omega) x2 (by show 1 ≤ 7; decide) (one_op sg) (Nat.le_succ pl))
    rw [decide_eq_false (show ¬ V.int r2 = V.int 5 from fun z => c5 (V.int.inj z))]
    refine ⟨_, rfl, rfl, _, rfl, ?_⟩
    by_cases c6 : r2 = 6
    · rw [decide_eq_true (show V.int r2 = V.int 6 by rw [c6])]
      refine ⟨_, rfl, _, rfl, _, _, rfl, rfl, ?_, ?_⟩
      · have := pk.1
        rw [SX.S_len, SX.S_len, sizeLine_eq]
        omega
      · rw [SX.S_cat]
        have := pk.1
        have := pk.2
        exact finT _ ⟨by rw [List.length_append]; omega, by rw [List.count_append]; omega⟩
    rw [decide_eq_false (show ¬ V.int r2 = V.int 6 from fun z => c6 (V.int.inj z))]
    refine ⟨_, rfl, _, rfl, _, rfl, _, rfl, szT, _, rfl, _, _, rfl, rfl, ?_, ?_⟩
    · rw [cT, sizeLine_eq, lS]
      have := lT pl
      omega
    refine ⟨_, rfl, _, rfl, _, rfl, _, rfl, szT, _, _, rfl, rfl, ?_, ?_⟩
    · rw [cT, cD, sizeLine_eq, show SX.S (tx.take pl) ++ (⟨#[sg]⟩ : Str) = SX.S (tx.take pl ++ [sg]) from SX.S_cat _ _, SX.S_len, List.length_append, List.length_take]
      have := lD pl
      show _ + 1 + _ ≤ _
      omega
    · rw [cT, cD, show SX.S (tx.take pl) ++ (⟨#[sg]⟩ : Str) = SX.S (tx.take pl ++ [sg]) from SX.S_cat _ _, SX.S_cat, List.append_assoc]
      exact finT _ (txb_mid (mid := [sg]) (by omega) x2 (by show 1 ≤ 7; decide) (one_op sg) (Nat.le_refl pl))

end
theorem bsz_le4 {n : Nat} (h : n ≤ 4) : bsz n ≤ 40 := by
  have : n = 0 ∨ n = 1 ∨ n = 2 ∨ n = 3 ∨ n = 4 := by omega
  rcases this with e | e | e | e | e <;> subst e <;> decide
theorem drawn_br7 {K : PySem.W.Frag} {a : Addr} {H : Hp} {j : Nat} {v : V} (h : PB K a H j v) (hj : j ≤ 4) : ∃ b, BrOn K a H 100 4 v b ∧ nB b ≤ 40 := by
  obtain ⟨D, h1, h2, h3, h4⟩ := h
  obtain ⟨b, rfl, ok⟩ := br_view j D h3
  have wd := okW_of ok h3 h2
  obtain ⟨ok6, wd6⟩ := okB_le ok wd hj
  refine ⟨b, ⟨h1, ok6, wd6⟩, ?_⟩
  rw [← (br_ok ok wd).2]
  exact Nat.le_trans h4 (bsz_le4 hj)
theorem words_ne : ∀ b : Br, 1 ≤ (wordsC b).length
  | .say _ => Nat.succ_le_succ (Nat.zero_le _)
  | .toss _ => Nat.succ_le_succ (Nat.zero_le _)
  | .look _ _ _ => Nat.succ_le_succ (Nat.zero_le _)
  | .ask _ _ => Nat.succ_le_succ (Nat.zero_le _)
theorem drawn_words {b : Br} {n : Nat} (h : okB n b) (g : okW 104 n b) (l : nB b ≤ 40) : WsB (wordsC b) 4400 5 84 ∧ (txtC b).length ≤ 400000 := by
  have p := pB_le g
  have t := txt_len b h
  have w := ws_le g
  have o := op_words b
  exact ⟨⟨by omega, ws_small h, by omega⟩, by omega⟩
theorem join0_S (ws : List (List Nat)) : Txt.join "" (ws.map SX.S) = SX.S (TL.joinL [] ws) := by
  refine TL.ext_tl ?_
  rw [TL.join_eq, TL.tl_join, SX.map_S_tl]
  rfl
theorem joinL_b {S : List Nat} (hS : S.count 40 = 0) (hl : S.length ≤ 1) : ∀ ws : List (List Nat), (∀ w ∈ ws, PieceOk w) → (TL.joinL S ws).length ≤ 8 * ws.length ∧ (TL.joinL S ws).count 40 ≤ ws.length
  | [], _ => ⟨Nat.zero_le _, Nat.zero_le _⟩
  | [w], h => by
    obtain ⟨h1, h2⟩ := h w List.mem_cons_self
    exact ⟨(by show w.length ≤ 8; omega), h2⟩
  | w :: x :: ws, h => by
    obtain ⟨h1, h2⟩ := h w List.mem_cons_self
    obtain ⟨g1, g2⟩ := joinL_b hS hl (x :: ws) fun y hy => h y (List.mem_cons_of_mem _ hy)
    show (w ++ (S ++ TL.joinL S (x :: ws))).length ≤ _ ∧ (w ++ (S ++ TL.joinL S (x :: ws))).count 40 ≤ _
    rw [List.length_append, List.length_append, List.count_append, List.count_append, List.length_cons]
    omega
theorem wordV_lens (ws : List (List Nat)) : ((ws.map SX.S).map (·.length)).sum = (ws.map List.length).sum := by rw [SX.lens]
theorem sum_pieces : ∀ ws : List (List Nat), (∀ w ∈ ws, PieceOk w) → (ws.map List.length).sum ≤ 7 * ws.length
  | [], _ => Nat.zero_le _
  | w :: ws, h => by
    rw [List.map_cons, List.sum_cons, List.length_cons]
    have h1 := (h w List.mem_cons_self).1
    have h2 := sum_pieces ws fun y hy => h y (List.mem_cons_of_mem _ hy)
    omega
def sayW : List Nat := [32, 40, 115, 97, 121, 41]
theorem rep_say (k : Nat) : ((List.replicate k sayW).flatten).length = 6 * k ∧ ((List.replicate k sayW).flatten).count 40 = k := by
  induction k with
  | zero => exact ⟨rfl, rfl⟩
  | succ k ih =>
    rw [List.replicate_succ, List.flatten_cons, List.length_append, List.count_append, ih.1, ih.2]
    exact ⟨by show 6 + 6 * k = _; omega, by show 1 + k = _; omega⟩
theorem say_S6 : (Str.ofString " (say)" : Str) = SX.S sayW := by decide +kernel
theorem toss_S5 : (Str.ofString "(toss" : Str) = SX.S [40, 116, 111, 115, 115] := by decide +kernel
theorem x_S : (Str.ofString " x" : Str) = SX.S [32, 120] := by decide +kernel
def tails : List (List Nat) := [[41], [], [32, 40, 115, 97, 121], [41, 41]]
theorem tails_S : ([")", "", " (say", "))"] : List Str) = tails.map SX.S := by decide +kernel
theorem tails_ok : ∀ w ∈ tails, w.length ≤ 6 ∧ w.count 40 ≤ 1 := by decide

section
variable {P : Program} {w : World} {K : PySem.W.Frag} {mg : Str → Option Value} {base : Heap} {cs : Cs}
theorem ok_law07 {f : Addr} {fd : FuncData} (F : Fun K "law" "law" s_law f fd) (T : Txt K w mg cs) (o_BadText : Oin P w K mg base "BadText" cs.BadText) (c_law_draws : Cl P w K mg base CX0 1 "_law_draws" (spDraws K)) (c_law_take : Cl P w K mg base CX0 1 "_law_take" spTake) (c_law_breaker : Cl P w K mg base CX0 6 "_law_breaker" (spBr K 3))
    (c_law_far : Cl P w K mg base CX0 7 "_law_far" (spFar K 4)) (c_law_words : Cl P w K mg base CX0 6 "_law_words" (spWords K 4)) (c_law_text : Cl P w K mg base CX0 1 "_law_text" (spLawTxt K)) (c_law_spaced : Cl P w K mg base CX0 2 "_law_spaced" (spSpaced K))
    (c_law_piece : Cl P w K mg base CX0 2 "_law_piece" spPiece7) (c_law_bent : Cl P w K mg base CX0 3 "_law_bent" spBent7) (c_law_is_right : Cl P w K mg base CX0 204 "_law_is_right" spIsRight7) : FnOk P w K mg base CX0 205 f fd ["script"] (spLaw K) := by
  refine F.ok sc_law (fun vs H Q E h => ?_) (fun cdv A outer s H vs Q E hr h => ?_)
  · obtain ⟨a, ns, rfl, _⟩ := h
    rfl
  · obtain ⟨a, ns, rfl, hS, hlen, q⟩ := h
    refine ⟨_, (pss_cons (ps_set (i := 1) sc_law.nd rfl (.inr rfl) (pe_lst (pa_cons (pe_cl c_law_draws hr (by first | decide | omega) (by rfl) (pa_cons (pv 0) (pa_cons pe_int pa_nil))) (pa_cons pe_int pa_nil)))) (pss_cons (ps_set (i := 2) sc_law.nd rfl (.inl rfl) (pe_cl c_law_words hr (by first | decide | omega) (by rfl) (pa_cons (pe_cl c_law_far hr (by first | decide | omega) (by rfl) (pa_cons (pv 1) (pa_cons (pe_cl c_law_breaker hr (by first | decide | omega) (by rfl) (pa_cons (pv 1) (pa_cons (pe_op op_add pe_int (pe_cl c_law_take hr (by first | decide | omega) (by rfl) (pa_cons (pv 1) (pa_cons pe_int pa_nil)))) (pa_cons pe_int (pa_cons (pe_cl c_law_take hr (by first | decide | omega) (by rfl) (pa_cons (pv 1) (pa_cons pe_int pa_nil))) (pa_cons (pe_cl c_law_take hr (by first | decide | omega) (by rfl) (pa_cons (pv 1) (pa_cons pe_int pa_nil))) pa_nil)))))) pa_nil))) pa_nil))) (pss_cons (ps_for PassesOwn.never rfl (pi_range1 (by rfl) T.n_range (pa_cons pe_int pa_nil)) (pg_name (i := 3) sc_law.nd rfl (.inl rfl)) (pss_one (ps_if (pt_not (pt_val (pe_cl c_law_is_right hr (by first | decide | omega) (by rfl) (pa_cons (pe_cl c_law_bent hr (by first | decide | omega) (by rfl) (pa_cons (pv 1) (pa_cons (pv 2) pa_nil))) pa_nil)))) (pss_one (ps_ret pe_bl)) pss_nil))) (pss_cons (ps_setLc (i := 4) (own := [("k", 9)]) (g := gName 9) (tt := tYes) rfl sc_law.nd rfl rfl (sw_true rfl rfl rfl (by decide +kernel)) (pi_range1 (by rfl) T.n_range (pa_cons (pe_cl c_law_take hr (by first | decide | omega) (by rfl) (pa_cons (pv 1) (pa_cons pe_int pa_nil))) pa_nil)) (blkOk_by (own := [("k", 9)]) (N := ["script", "hand", "words", "step", "pieces", "text", "wide", "place", "made", "k"]) (sc := defScope s_law) (by decide +kernel)) (fun _ _ _ _ _ => (pg_name (i := 9) sc_law.nd rfl (.inl rfl))) (fun _ _ _ _ _ => pts_nil) (fun _ _ _ _ _ => (pe_cl c_law_piece hr (by first | decide | omega) (by rfl) (pa_cons (pv 1) pa_nil)))) (pss_cons (ps_for PassesOwn.never rfl (pi_list (pe_lst (pa_cons (pe_m1 PySem.F.slot_str_join PySem.F.type_str_join (mtJoin K) pe_str (pv 4)) (pa_cons (pe_m1 PySem.F.slot_str_join PySem.F.type_str_join (mtJoin K) pe_str (pv 4)) (pa_cons pe_str (pa_cons pe_str (pa_cons (pe_cl c_law_text hr (by first | decide | omega) (by rfl) (pa_cons (pv 2) pa_nil)) (pa_cons (pe_cl c_law_spaced hr (by first | decide | omega) (by rfl) (pa_cons (pv 1) (pa_cons (pv 2) pa_nil))) (pa_cons (pe_op op_add_str (pe_cl c_law_text hr (by first | decide | omega) (by rfl) (pa_cons (pv 2) pa_nil)) pe_str) pa_nil))))))))) (pg_name (i := 5) sc_law.nd rfl (.inl rfl)) (pss_one (ps_if (pt_not (pt_val (pe_cl c_law_is_right hr (by first | decide | omega) (by rfl) (pa_cons (pv 5) pa_nil)))) (pss_one (ps_ret pe_bl)) pss_nil))) (pss_cons (ps_set (i := 6) sc_law.nd rfl (.inl rfl) (pe_op op_add_str (pe_op op_add_str pe_str (pe_op op_repS pe_str (pe_op op_add pe_int (pe_cl c_law_take hr (by first | decide | omega) (by rfl) (pa_cons (pv 1) (pa_cons pe_int pa_nil)))))) (pe_ix (ixL K) (pe_lst (pa_cons pe_str (pa_cons pe_str (pa_cons pe_str (pa_cons pe_str pa_nil))))) (pe_cl c_law_take hr (by first | decide | omega) (by rfl) (pa_cons (pv 1) (pa_cons pe_int pa_nil))) (fun _ _ => rfl)))) (pss_cons (ps_if (pt_not (pt_val (pe_cl c_law_is_right hr (by first | decide | omega) (by rfl) (pa_cons (pv 6) pa_nil)))) (pss_one (ps_ret pe_bl)) pss_nil) (pss_cons (ps_set (i := 7) sc_law.nd rfl (.inl rfl) (pe_cl c_law_take hr (by first | decide | omega) (by rfl) (pa_cons (pv 1) (pa_cons pe_int pa_nil)))) (pss_cons (ps_set (i := 8) sc_law.nd rfl (.inl rfl) (pe_mkP o_BadText hr (by first | decide | omega) (by rfl) (pa_cons (pv 7) pa_nil))) (pss_one (ps_ret (pe_and (pe_callB (call_isXo T.e_BadText) (by rfl) T.n_isinstance (by decide +kernel) (pa_cons (pv 8) (pa_cons (pe_glob (v := .ref cs.BreakError) (by rfl) T.gl_BreakError rfl) pa_nil))) (pe_one (pe_cmpR op_eq (pe_xoF T.f_BadText T.fn_BadText_place (pv 8)) (pv 7) (nomark _))))))))))))))), ?_⟩
    refine ⟨_, rfl, a, ns, 1500, rfl, hS, hlen, by omega, fun d ds H1 nd s1 ed hd0 => ⟨(by show 2 ≤ sizeLine; decide), fun b nb => ?_⟩⟩
    have hn1 : Hnd (upd H1 b (.lst [.ref d, .int 0])) b d := ⟨ds, 0, upd_same, by rw [upd_ne (ne_of_none ed nb)]; exact ed, hd0, ne_of_none ed nb⟩
    generalize upd H1 b (.lst [.ref d, .int 0]) = H2 at hn1
    clear nb ed nd s1 hd0
    have qT : ∀ H', Q (.bl true) H' := q
    clear q
    refine ⟨_, rfl, _, rfl, _, rfl, b, d, 3, rfl, by decide, hn1, fun r1 H3 l1 u1 n3 k3 => ⟨_, _, rfl, rfl, _, rfl, b, d, 3, rfl, by decide, n3, fun r2 H4 l2 u2 n4 k4 => ⟨_, rfl, b, d, 3, rfl, by decide, n4, fun r3 H5 l3 u3 n5 k5 => ?_⟩⟩⟩
    obtain ⟨dep, edep, hdep⟩ : ∃ n : Nat, (1 : Int) + r1 = (n : Int) ∧ n ≤ 3 := ⟨(1 + r1).toNat, by omega, by omega⟩
    obtain ⟨len, elen, hlen⟩ : ∃ n : Nat, r2 = (n : Int) ∧ n ≤ 3 := ⟨r2.toNat, by omega, by omega⟩
    obtain ⟨said, esaid, hsaid⟩ : ∃ n : Nat, r3 = (n : Int) ∧ n ≤ 3 := ⟨r3.toNat, by omega, by omega⟩
    refine ⟨b, d, dep, 2, len, said, ?_, hdep, by omega, by omega, n5, fun v0 H6 pb n6 k6 => ?_⟩
    · show [V.ref b, V.int (1 + r1), V.int 2, V.int r2, V.int r3] = _
      rw [edep, elen, esaid]
      rfl
    clear hn1 n3 n4 n5 k3 k4 k5 k6 l1 u1 l2 u2 l3 u3
    obtain ⟨b0, o0, z0⟩ := drawn_br7 pb (by omega)
    refine ⟨b, d, v0, b0, rfl, n6, o0, fun v1 b1 H7 e1 o1 n7 k7 => ?_⟩
    obtain ⟨wb, tl⟩ := drawn_words o1.2.1 o1.2.2 (by omega)
    have w1 := words_ne b1
    refine ⟨v1, b1, rfl, dp_same (off_same b H7) _ o1.1, o1.2.1, tl, fun L H8 s8 eL => ?_⟩
    have n8 := n7.same s8
    have nL : L ≠ b := fun z => by
      obtain ⟨ds', at', e, _⟩ := n8
      rw [z, e] at eL
      have h := congrArg List.head? (HO.lst.inj (Option.some.inj eL))
      cases b1 <;> cases h
    clear pb o0 z0 o1 e1 k7 n6 n7 s8 tl
    generalize wordsC b1 = ws at eL wb w1
    -- six bent texts
    refine ⟨_, rfl, by decide, by decide, for_range (lo := 0) (n := 6) (fun i σ H' => ∃ y3 : Option V, σ = [some (.ref a), some (.ref b), some (.ref L), y3, none, none, none, none, none, none] ∧ Hnd H' b d ∧ H' L = some (.lst (wordV ws))) ?_ ?_ ?_⟩
    · exact ⟨none, rfl, n8, eL⟩
    · rintro i σ H9 hi ⟨y3, rfl, n9, e9⟩
      refine ⟨_, rfl, _, rfl, b, d, L, ws, rfl, n9, e9, nL, wb, w1, fun t H10 tx n10 k10 => ⟨t, rfl, tx.1, tx.2, fun H11 s11 => ⟨_, rfl, ?_⟩⟩⟩
      exact ⟨_, rfl, n10.same s11, s11 _ _ (k10 _ _ e9 nL)⟩
    clear n8 eL
    rintro σ H9 ⟨y3, rfl, n9, e9⟩
    -- the pieces
    refine ⟨_, rfl, b, d, 13, rfl, by decide, n9, fun r H10 l10 u10 n10 k10 => ?_⟩
    obtain ⟨m, rfl, hm⟩ : ∃ m : Nat, r = (m : Int) ∧ m < 13 := ⟨r.toNat, by omega, by omega⟩
    refine ⟨_, rfl, by omega, by omega, fun Dl hD => ?_⟩
    have e10 := k10 _ _ e9 nL
    obtain ⟨nDb, nDd⟩ := n10.ne hD
    have nDL : Dl ≠ L := (ne_of_none e10 hD).symm
    refine lc_range (lo := 0) (n := m) (fun i H' => ∃ pcs : List (List Nat), pcs.length = i ∧ (∀ w ∈ pcs, PieceOk w) ∧ Hnd H' b d ∧ H' L = some (.lst (wordV ws)) ∧ H' Dl = some (.lst (wordV pcs))) ?_ ?_ ?_
    · exact ⟨[], rfl, fun w h => (nomatch h), n10.new hD, by rw [upd_ne nDL.symm]; exact e10, upd_same⟩
    · rintro i H11 hi ⟨pcs, hl, hp, g1, g2, g3⟩
      refine ⟨rfl, ?_⟩
      refine ⟨_, rfl, b, d, rfl, g1, fun pc H12 pk n12 k12 => ⟨_, k12 _ _ g3 nDb, ?_, pcs ++ [pc], by rw [List.length_append, hl]; rfl, fun w hw => ?_, n12.set nDb nDd, by rw [upd_ne nDL.symm]; exact k12 _ _ g2 nL, ?_⟩⟩
      · rw [wordV_len, sizeLine_eq]
        omega
      · rcases List.mem_append.mp hw with z | z
        · exact hp w z
        · rw [List.mem_singleton.mp z]
          exact pk
      · rw [upd_same, wordV_app]
        rfl
    clear n9 e9 n10 k10 e10 l10 u10
    rintro H11 ⟨pcs, hl, hp, g1, g2, g3⟩
    have sp7 := sum_pieces pcs hp
    have b1 := wb.1
    have lt := len_text wb.2.1
    have jn := joinL_b (S := []) rfl (Nat.zero_le _) pcs hp
    have jb := joinL_b (S := [32]) rfl (Nat.le_refl _) pcs hp
    have szw : (lawTxt ws).length ≤ 30000 := by omega
    have t5 : TxB (lawTxt ws) := ⟨by omega, by rw [op_text]; have := wb.2.2; omega⟩
    refine ⟨⟨_, rfl⟩, _, rfl, "", Dl, pcs.map SX.S, rfl, rfl, .inl (by rw [List.map_map]; exact .inl (.inl g3)), ?_, ⟨_, rfl⟩, _, rfl, " ", Dl, pcs.map SX.S, rfl, rfl, .inl (by rw [List.map_map]; exact .inl (.inl g3)), ?_, _, rfl, L, ws, rfl, .inl (.inl g2), by omega, by omega, fun H12 s12 => ?_⟩
    · rw [wordV_lens, List.length_map]
      show _ + pcs.length * 0 ≤ _
      omega
    · rw [wordV_lens, List.length_map]
      show _ + pcs.length * 1 ≤ _
      omega
    refine ⟨_, rfl, _, rfl, b, d, L, ws, rfl, g1.same s12, s12 _ _ g2, nL, by omega, wb.2.1, fun kb tb H13 sp len n13 k13 => ?_⟩
    obtain ⟨x1, x2⟩ := spc_of (ws := ws) (c := 84) ⟨by omega, wb.2.1, wb.2.2⟩ sp len
    generalize List.replicate kb 32 ++ tb = tx at x1 x2
    have t6 : TxB tx := ⟨by omega, by omega⟩
    refine ⟨_, rfl, L, ws, rfl, .inl (.inl (k13 _ _ (s12 _ _ g2) nL)), by omega, by omega, fun H14 s14 => ⟨_, _, rfl, rfl, ?_, (by show 7 ≤ sizeLine; decide), fun p np => ?_⟩⟩
    · rw [SX.S_len, sizeLine_eq]
      show _ + 2 ≤ _
      omega
    have n14 := n13.same s14
    obtain ⟨tl, etl⟩ : ∃ tl : List (List Nat), tl = [TL.joinL [] pcs, TL.joinL [32] pcs, [], [32], lawTxt ws, tx, lawTxt ws ++ [32, 120]] := ⟨_, rfl⟩
    have htl : ∀ t ∈ tl, TxB t := by
      rw [etl]
      intro t ht
      simp only [List.mem_cons, List.not_mem_nil, or_false] at ht
      rcases ht with e | e | e | e | e | e | e <;> rw [e]
      · exact ⟨by omega, by omega⟩
      · exact ⟨by omega, by omega⟩
      · exact ⟨Nat.zero_le _, Nat.zero_le _⟩
      · exact ⟨by decide, by decide⟩
      · exact t5
      · exact t6
      · refine ⟨?_, ?_⟩
        · rw [List.length_append]
          show _ + 2 ≤ _
          omega
        · have := t5.2
          have o := op_text ws
          have := wb.2.2
          rw [List.count_append]
          show _ + 0 ≤ _
          omega
    have ep : upd H14 p (.lst [V.str (Txt.join "" (pcs.map SX.S)), V.str (Txt.join " " (pcs.map SX.S)), .str (Str.ofString ""), .str (Str.ofString " "), .str (SX.S (lawTxt ws)), .str (SX.S tx), .str (SX.S (lawTxt ws) ++ Str.ofString " x")]) p = some (.lst (wordV tl)) := by
      rw [upd_same, join0_S, join_S, emp_S, bl_S, x_S, SX.S_cat, etl]
      rfl
    have n15 := n14.new (o := .lst [V.str (Txt.join "" (pcs.map SX.S)), V.str (Txt.join " " (pcs.map SX.S)), .str (Str.ofString ""), .str (Str.ofString " "), .str (SX.S (lawTxt ws)), .str (SX.S tx), .str (SX.S (lawTxt ws) ++ Str.ofString " x")]) np
    refine ⟨p, rfl, ⟨_, .inl (.inl upd_same)⟩, for_list (xs := wordV tl) (fun i σ H' => ∃ y5 : Option V, σ = [some (.ref a), some (.ref b), some (.ref L), y3, some (.ref Dl), y5, none, none, none, none] ∧ Hnd H' b d ∧ H' p = some (.lst (wordV tl))) ?_ ?_ ?_ ?_⟩
    · exact ⟨none, rfl, n15, ep⟩
    · rintro i σ H' _ ⟨y5, rfl, _, e⟩
      exact .inl (.inl e)
    · rintro i x σ H' hx ⟨y5, rfl, n, e⟩
      obtain ⟨t, ht, rfl⟩ := List.mem_map.mp (List.mem_of_getElem? hx)
      have tb := htl t ht
      exact ⟨_, rfl, t, rfl, tb.1, tb.2, fun H'' s'' => ⟨_, rfl, _, rfl, n.same s'', s'' _ _ e⟩⟩
    clear n15 ep htl etl n14 t5 t6 x1 x2 s12 g1 g2 g3 np s14 sp len n13 k13
    rintro σ H15 ⟨y5, rfl, n15, _⟩
    refine ⟨_, rfl, b, d, 2, rfl, by decide, n15, fun r H16 l16 u16 n16 k16 => ?_⟩
    obtain ⟨k, ek, hk⟩ : ∃ k : Nat, (64 : Int) + r = (k : Int) ∧ k ≤ 65 := ⟨(64 + r).toNat, by omega, by omega⟩
    obtain ⟨f1, f2⟩ := rep_say k
    refine ⟨_, _, rfl, rfl, sayW, (k : Int), by rw [say_S6], congrArg V.int ek, ⟨by omega, ?_, by omega⟩, _, _, rfl, rfl, ?_, (by show 4 ≤ sizeLine; decide), fun N nN => ?_⟩
    · show 6 * k ≤ _
      omega
    · rw [toss_S5, SX.S_len, SX.S_len, sizeLine_eq, Int.toNat_natCast, f1]
      show 5 + 6 * k ≤ _
      omega
    rw [toss_S5, SX.S_cat, Int.toNat_natCast]
    have eN : upd H16 N (.lst (([")", "", " (say", "))"] : List Str).map V.str)) N = some (.lst (wordV tails)) := by
      rw [upd_same, tails_S, List.map_map]
      rfl
    have n17 := n16.new (o := .lst (([")", "", " (say", "))"] : List Str).map V.str)) nN
    have lN := (n16.ne nN).1
    refine ⟨_, rfl, b, d, 4, rfl, by decide, n17, fun r2 H18 l18 u18 n18 k18 => ?_⟩
    obtain ⟨x, hat, hm⟩ := atI_mem (xs := wordV tails) l18 (show r2 < 4 from u18)
    obtain ⟨zc, hz, rfl⟩ := List.mem_map.mp hm
    obtain ⟨z1, z2⟩ := tails_ok zc hz
    refine ⟨N, _, r2, _, rfl, rfl, .inl (.inl (k18 _ _ eN lN)), hat, _, _, rfl, rfl, ?_, ?_⟩
    · rw [SX.S_len, SX.S_len, List.length_append, f1, sizeLine_eq]
      show 5 + 6 * k + _ ≤ _
      omega
    rw [SX.S_cat]
    refine ⟨_, rfl, _, rfl, ?_, ?_, fun H19 s19 => ⟨_, rfl, ?_⟩⟩
    · rw [List.length_append, List.length_append, f1]
      show 5 + 6 * k + _ ≤ _
      omega
    · rw [List.count_append, List.count_append, f2]
      show 1 + k + _ ≤ _
      omega
    refine ⟨_, rfl, b, d, 999, rfl, by decide, n18.same s19, fun r3 H20 _ _ n20 k20 => ?_⟩
    refine ⟨_, rfl, _, rfl, fun m1 d1 H21 _ em ed1 _ => ?_⟩
    have lk : ([((Str.ofString "place" : Str), V.int r3)] : List (Str × V)).lookup (Str.ofString "place") = some (V.int r3) := by rw [lookup_put, if_pos rfl]
    refine ⟨_, rfl, m1, d1, _, .ref cs.BreakError, .ref cs.BreakError, true, rfl, em, ed1, (fun _ h => h), T.kit_BadText_BreakError, _, rfl, ?_⟩
    refine ⟨_, rfl, m1, d1, _, _, rfl, em, ed1, lk, _, rfl, rfl, ?_⟩
    rw [decide_eq_true rfl]
    exact qT _

theorem ok_init {f : Addr} {fd : FuncData} (F : Fun K "__init__" "BadText.__init__" s_init_BadText f fd) (T : Txt K w mg cs) : FnOk P w K mg base CX0 1 f fd ["self", "place"] (spInit K cs.BadText) := by
  refine F.ok sc_init_BadText (fun vs H Q E h => ?_) (fun cdv A outer s H vs Q E hr h => ?_)
  · obtain ⟨a, y, rfl, _⟩ := h
    rfl
  · obtain ⟨a, y, rfl, ha, q⟩ := h
    refine ⟨_, (pss_one (ps_ost (pv 0) (pv 1))), ?_⟩
    exact ⟨_, rfl, _, rfl, a, cs.BadText, rfl, T.o_BadText, T.fn_BadText_place, .inl ⟨ha, q⟩⟩
theorem oin_of {f : Addr} {fd : FuncData} (F : Fun K "__init__" "BadText.__init__" s_init_BadText f fd) (T : Txt K w mg cs) (iC : PySem.W.findIn K (.ref cs.BadText) "__init__" = some (some (.ref f))) (tI : PySem.W.typeIn K (.ref f) = some (.type "function")) (hb : Binds K fd ["self", "place"] []) : Oin P w K mg base "BadText" cs.BadText :=
  ⟨⟨f, fd, iC, tI, ok_init F T, hb⟩, T.o_BadText, T.gl_BadText⟩

theorem mk_law {f1 f2 f3 f4 f5 f6 f7 f8 f9 f10 f11 f12 f13 f14 f15 f16 f17 f18 f19 f20 f21 f22 f23 f24 f25 f26 f27 f28 f29 f30 f31 f32 f33 f34 f35 f36 f37 f : Addr} {d1 d2 d3 d4 d5 d6 d7 d8 d9 d10 d11 d12 d13 d14 d15 d16 d17 d18 d19 d20 d21 d22 d23 d24 d25 d26 d27 d28 d29 d30 d31 d32 d33 d34 d35 d36 d37 fd : FuncData} (T : Txt K w mg cs)
    (D_init_BadText : Fun K "__init__" "BadText.__init__" s_init_BadText f1 d1) (iC_BadText : PySem.W.findIn K (.ref cs.BadText) "__init__" = some (some (.ref f1))) (tI_BadText : PySem.W.typeIn K (.ref f1) = some (.type "function")) (bI_BadText : Binds K d1 ["self", "place"] [])
    (D_awaited : Df K mg "awaited" s_awaited ["read"] f2 d2)
    (D_told : Df K mg "told" s_told ["read"] f3 d3)
    (D_shared : Df K mg "shared" s_shared ["first", "second"] f4 d4)
    (D_begun_number : Df K mg "begun_number" s_begun_number ["word"] f5 d5)
    (D_begun : Df K mg "begun" s_begun ["word", "kind"] f6 d6)
    (D_is_whole_word : Df K mg "is_whole_word" s_is_whole_word ["word", "kind"] f7 d7)
    (D_meaning : Df K mg "meaning" s_meaning ["word", "kind"] f8 d8)
    (D_word_at : Df K mg "word_at" s_word_at ["text", "at"] f9 d9)
    (D_take_word : Df K mg "take_word" s_take_word ["unclosed", "word", "at"] f10 d10)
    (D_take_left : Df K mg "take_left" s_take_left ["unclosed", "at"] f11 d11)
    (D_take_right : Df K mg "take_right" s_take_right ["unclosed", "at"] f12 d12)
    (D_breaker_of : Df K mg "breaker_of" s_breaker_of ["text"] f13 d13)
    (D_read_breaker : Df K mg "read_breaker" s_read_breaker ["text"] f14 d14)
    (D__law_draws : Df K mg "_law_draws" s_law_draws ["script", "many"] f15 d15)
    (D__law_take : Df K mg "_law_take" s_law_take ["hand", "many"] f16 d16)
    (D__law_parts : Df K mg "_law_parts" s_law_parts ["hand", "length"] f17 d17)
    (D__law_breaker : Df K mg "_law_breaker" s_law_breaker ["hand", "depth", "asks", "length", "said"] f18 d18)
    (D__law_far_parts : Df K mg "_law_far_parts" s_law_far_parts ["hand", "parts"] f19 d19)
    (D__law_far : Df K mg "_law_far" s_law_far ["hand", "breaker"] f20 d20)
    (D__law_parts_words : Df K mg "_law_parts_words" s_law_parts_words ["parts"] f21 d21)
    (D__law_words : Df K mg "_law_words" s_law_words ["breaker"] f22 d22)
    (D__law_text : Df K mg "_law_text" s_law_text ["words"] f23 d23)
    (D__law_spaced : Df K mg "_law_spaced" s_law_spaced ["hand", "words"] f24 d24)
    (D__law_same : Df K mg "_law_same" s_law_same ["found", "due"] f25 d25)
    (D__law_after_name : Df K mg "_law_after_name" s_law_after_name ["stack", "word"] f26 d26)
    (D__law_is_begun : Df K mg "_law_is_begun" s_law_is_begun ["word", "sign"] f27 d27)
    (D__law_closed : Df K mg "_law_closed" s_law_closed ["stack"] f28 d28)
    (D__law_wants : Df K mg "_law_wants" s_law_wants ["stack"] f29 d29)
    (D__law_word_step : Df K mg "_law_word_step" s_law_word_step ["state", "stack", "word", "sign"] f30 d30)
    (D__law_begin : Df K mg "_law_begin" s_law_begin ["stack", "state", "sign", "glued"] f31 d31)
    (D__law_step : Df K mg "_law_step" s_law_step ["state", "stack", "sign", "glued"] f32 d32)
    (D__law_read : Df K mg "_law_read" s_law_read ["text"] f33 d33)
    (D__law_piece : Df K mg "_law_piece" s_law_piece ["hand"] f34 d34)
    (D__law_bent : Df K mg "_law_bent" s_law_bent ["hand", "words"] f35 d35)
    (D__law_longest : Df K mg "_law_longest" s_law_longest ["text"] f36 d36)
    (D__law_is_right : Df K mg "_law_is_right" s_law_is_right ["text"] f37 d37)
    (F : Fun K "law" "law" s_law f fd) : FnOk P w K mg base CX0 top_level f fd ["script"] (spLaw K) := by
  have oin : Oin P w K mg base "BadText" cs.BadText := oin_of D_init_BadText T iC_BadText tI_BadText bI_BadText
  have c_awaited : Cl P w K mg base CX0 1 "awaited" (spAwaited K) := D_awaited.cl (ok_awaited D_awaited T)
  have c_told : Cl P w K mg base CX0 1 "told" (spTold K) := D_told.cl (ok_told D_told T)
  have c_begun : Cl P w K mg base CX0 2 "begun" spBegun7 := D_begun.cl (ok_begun7 D_begun T (D_shared.cl (ok_shared7 D_shared T)) (D_begun_number.cl (ok_begunnum7 D_begun_number T)))
  have c_word : Cl P w K mg base (L2.CX P w) 3 "take_word" (spTakeWord7 K cs.BadText) := D_take_word.cl (ok_takeword7 D_take_word T oin c_awaited c_begun (D_is_whole_word.cl (ok_wholew7 D_is_whole_word T)) (D_meaning.cl (ok_mean7 D_meaning T)))
  have c_of : Cl P w K mg base (L2.CX P w) 4 "breaker_of" (spReader7 K cs.BadText) := D_breaker_of.cl (ok_breakerof7 D_breaker_of T oin (D_take_left.cl (ok_takeleft7 D_take_left T oin c_awaited)) (D_take_right.cl (ok_takeright7 D_take_right T oin c_awaited c_told)) c_word (D_word_at.cl (ok_wordat D_word_at T)))
  have c_read : Cl P w K mg base (L2.CX P w) 5 "read_breaker" (spReader7 K cs.BadText) := D_read_breaker.cl (ok_read7 D_read_breaker T c_of)
  have c_take : Cl P w K mg base CX0 1 "_law_take" spTake := D__law_take.cl (ok_take D__law_take T)
  have c_parts8 : Cl P w K mg base CX0 2 "_law_parts" (spParts8 K) := D__law_parts.cl (ok_lawparts D__law_parts T c_take)
  have c_parts6 : Cl P w K mg base CX0 2 "_law_parts" (spParts6 K) := D__law_parts.cl (ok_lawparts6 D__law_parts T c_take)
  have c_lawbr : Cl P w K mg base CX0 6 "_law_breaker" (spBr K 3) := D__law_breaker.cl (ok_br D__law_breaker T c_take c_parts8 3)
  have c_far : Cl P w K mg base CX0 7 "_law_far" (spFar K 4) := D__law_far.cl (ok_far D__law_far T c_take c_parts6 (D__law_far_parts.cl (ok_farparts D__law_far_parts T c_take)) 4)
  have c_words : Cl P w K mg base CX0 6 "_law_words" (spWords K 4) := D__law_words.cl (ok_words D__law_words T (D__law_parts_words.cl (ok_pw D__law_parts_words T)) 4)
  have c_ltext : Cl P w K mg base CX0 1 "_law_text" (spLawTxt K) := D__law_text.cl (ok_lawtxt D__law_text T)
  have c_same : Cl P w K mg base CX0 203 "_law_same" (spSame K 201) := D__law_same.cl (ok_same D__law_same T 201)
  have c_spaced : Cl P w K mg base CX0 2 "_law_spaced" (spSpaced K) := D__law_spaced.cl (ok_spaced D__law_spaced T c_take)
  have c_isb : Cl P w K mg base CX0 1 "_law_is_begun" spIsBegun7 := D__law_is_begun.cl (ok_isbegun7 D__law_is_begun T)
  have c_step : Cl P w K mg base CX0 2 "_law_step" (spStep7 K) := D__law_step.cl (ok_step7 D__law_step T (D__law_begin.cl (ok_begin7 D__law_begin T)) (D__law_closed.cl (ok_closed7 D__law_closed T)) (D__law_wants.cl (ok_wants7 D__law_wants T)))
  have c_ws : Cl P w K mg base CX0 3 "_law_word_step" (spWStep7 K) := D__law_word_step.cl (ok_wstep7 D__law_word_step T c_isb (D__law_after_name.cl (ok_after7 D__law_after_name T)) c_step)
  have c_lread : Cl P w K mg base CX0 4 "_law_read" (spRead7 K) := D__law_read.cl (ok_lread7 D__law_read T c_ws c_isb c_step)
  have c_piece : Cl P w K mg base CX0 2 "_law_piece" spPiece7 := D__law_piece.cl (ok_piece7 D__law_piece T c_take)
  have c_bent : Cl P w K mg base CX0 3 "_law_bent" spBent7 := D__law_bent.cl (ok_bent7 D__law_bent T c_take c_piece c_ltext c_spaced)
  have c_right : Cl P w K mg base CX0 204 "_law_is_right" spIsRight7 := D__law_is_right.cl (ok_isright7 D__law_is_right T (D__law_longest.cl (ok_longest7 D__law_longest T)) c_lread c_read c_same)
  exact ok_law07 F T oin (D__law_draws.cl (ok_draws D__law_draws T)) c_take c_lawbr c_far c_words c_ltext c_spaced c_piece c_bent c_right
end
theorem all_mk {l : PySem.W.OpenLaw} {w : World} {K : PySem.W.Frag} {h : Heap} {mg : Str → Option Value} {fa f1 f2 f3 f4 f5 f6 f7 f8 f9 f10 f11 f12 f13 f14 f15 f16 f17 f18 f19 f20 f21 f22 f23 f24 f25 f26 f27 f28 f29 f30 f31 f32 f33 f34 f35 f36 f37 f38 : Addr} (X : K.In h) (G : h.Ns mainGlobals mg) (hfa : mg "law" = some (.ref fa))
    {od1 an1 od2 an2 od3 an3 od4 an4 od5 an5 od6 an6 od7 an7 od8 an8 od9 an9 od10 an10 od11 an11 od12 an12 od13 an13 od14 an14 od15 an15 od16 an16 od17 an17 od18 an18 od19 an19 od20 an20 od21 an21 od22 an22 od23 an23 od24 an24 od25 an25 od26 an26 od27 an27 od28 an28 od29 an29 od30 an30 od31 an31 od32 an32 od33 an33 od34 an34 od35 an35 od36 an36 od37 an37 od38 an38 : Option Addr} {sl1 sl2 sl3 sl4 sl5 sl6 sl7 sl8 sl9 sl10 sl11 sl12 sl13 sl14 sl15 sl16 sl17 sl18 sl19 sl20 sl21 sl22 sl23 sl24 sl25 sl26 sl27 sl28 sl29 sl30 sl31 sl32 sl33 sl34 sl35 sl36 sl37 sl38 : Array (Option Value)} {oc1 kV1 dc1 pm1 cd1 ct1 oc2 kV2 dc2 pm2 cd2 ct2 oc3 kV3 dc3 pm3 cd3 ct3 oc4 kV4 dc4 pm4 cd4 ct4 oc5 kV5 dc5 pm5 cd5 ct5 oc6 kV6 dc6 pm6 cd6 ct6 oc7 kV7 dc7 pm7 cd7 ct7 oc8 kV8 dc8 pm8 cd8 ct8 oc9 kV9 dc9 pm9 cd9 ct9 oc10 kV10 dc10 pm10 cd10 ct10 oc11 kV11 dc11 pm11 cd11 ct11 oc12 kV12 dc12 pm12 cd12 ct12 oc13 kV13 dc13 pm13 cd13 ct13 oc14 kV14 dc14 pm14 cd14 ct14 oc15 kV15 dc15 pm15 cd15 ct15 oc16 kV16 dc16 pm16 cd16 ct16 oc17 kV17 dc17 pm17 cd17 ct17 oc18 kV18 dc18 pm18 cd18 ct18 oc19 kV19 dc19 pm19 cd19 ct19 oc20 kV20 dc20 pm20 cd20 ct20 oc21 kV21 dc21 pm21 cd21 ct21 oc22 kV22 dc22 pm22 cd22 ct22 oc23 kV23 dc23 pm23 cd23 ct23 oc24 kV24 dc24 pm24 cd24 ct24 oc25 kV25 dc25 pm25 cd25 ct25 oc26 kV26 dc26 pm26 cd26 ct26 oc27 kV27 dc27 pm27 cd27 ct27 oc28 kV28 dc28 pm28 cd28 ct28 oc29 kV29 dc29 pm29 cd29 ct29 oc30 kV30 dc30 pm30 cd30 ct30 oc31 kV31 dc31 pm31 cd31 ct31 oc32 kV32 dc32 pm32 cd32 ct32 oc33 kV33 dc33 pm33 cd33 ct33 oc34 kV34 dc34 pm34 cd34 ct34 oc35 kV35 dc35 pm35 cd35 ct35 oc36 kV36 dc36 pm36 cd36 ct36 oc37 kV37 dc37 pm37 cd37 ct37 oc38 kV38 dc38 pm38 cd38 ct38 : Value}
    (l1 : K.lookup f1 = some ⟨oc1, od1, .func (PySem.W.fnOf "__init__" "BadText.__init__" (defArgs s_init_BadText) (defBody s_init_BadText) (defScope s_init_BadText) .none kV1 dc1 pm1 an1 cd1 ct1), sl1⟩) (c1 : PySem.W.codeIn K cd1 "BadText.__init__" = true) (k1 : PySem.W.keepIn K (.ref f1) = true)
    (a2 : PySem.W.nsIn K mainGlobals "awaited" = some (some (.ref f2))) (l2 : K.lookup f2 = some ⟨oc2, od2, .func (PySem.W.fnOf "awaited" "awaited" (defArgs s_awaited) (defBody s_awaited) (defScope s_awaited) .none kV2 dc2 pm2 an2 cd2 ct2), sl2⟩) (c2 : PySem.W.codeIn K cd2 "awaited" = true) (k2 : PySem.W.keepIn K (.ref f2) = true)
    (a3 : PySem.W.nsIn K mainGlobals "told" = some (some (.ref f3))) (l3 : K.lookup f3 = some ⟨oc3, od3, .func (PySem.W.fnOf "told" "told" (defArgs s_told) (defBody s_told) (defScope s_told) .none kV3 dc3 pm3 an3 cd3 ct3), sl3⟩) (c3 : PySem.W.codeIn K cd3 "told" = true) (k3 : PySem.W.keepIn K (.ref f3) = true)
    (a4 : PySem.W.nsIn K mainGlobals "shared" = some (some (.ref f4))) (l4 : K.lookup f4 = some ⟨oc4, od4, .func (PySem.W.fnOf "shared" "shared" (defArgs s_shared) (defBody s_shared) (defScope s_shared) .none kV4 dc4 pm4 an4 cd4 ct4), sl4⟩) (c4 : PySem.W.codeIn K cd4 "shared" = true) (k4 : PySem.W.keepIn K (.ref f4) = true)
    (a5 : PySem.W.nsIn K mainGlobals "begun_number" = some (some (.ref f5))) (l5 : K.lookup f5 = some ⟨oc5, od5, .func (PySem.W.fnOf "begun_number" "begun_number" (defArgs s_begun_number) (defBody s_begun_number) (defScope s_begun_number) .none kV5 dc5 pm5 an5 cd5 ct5), sl5⟩) (c5 : PySem.W.codeIn K cd5 "begun_number" = true) (k5 : PySem.W.keepIn K (.ref f5) = true)
    (a6 : PySem.W.nsIn K mainGlobals "begun" = some (some (.ref f6))) (l6 : K.lookup f6 = some ⟨oc6, od6, .func (PySem.W.fnOf "begun" "begun" (defArgs s_begun) (defBody s_begun) (defScope s_begun) .none kV6 dc6 pm6 an6 cd6 ct6), sl6⟩) (c6 : PySem.W.codeIn K cd6 "begun" = true) (k6 : PySem.W.keepIn K (.ref f6) = true)
    (a7 : PySem.W.nsIn K mainGlobals "is_whole_word" = some (some (.ref f7))) (l7 : K.lookup f7 = some ⟨oc7, od7, .func (PySem.W.fnOf "is_whole_word" "is_whole_word" (defArgs s_is_whole_word) (defBody s_is_whole_word) (defScope s_is_whole_word) .none kV7 dc7 pm7 an7 cd7 ct7), sl7⟩) (c7 : PySem.W.codeIn K cd7 "is_whole_word" = true) (k7 : PySem.W.keepIn K (.ref f7) = true)
    (a8 : PySem.W.nsIn K mainGlobals "meaning" = some (some (.ref f8))) (l8 : K.lookup f8 = some ⟨oc8, od8, .func (PySem.W.fnOf "meaning" "meaning" (defArgs s_meaning) (defBody s_meaning) (defScope s_meaning) .none kV8 dc8 pm8 an8 cd8 ct8), sl8⟩) (c8 : PySem.W.codeIn K cd8 "meaning" = true) (k8 : PySem.W.keepIn K (.ref f8) = true)
    (a9 : PySem.W.nsIn K mainGlobals "word_at" = some (some (.ref f9))) (l9 : K.lookup f9 = some ⟨oc9, od9, .func (PySem.W.fnOf "word_at" "word_at" (defArgs s_word_at) (defBody s_word_at) (defScope s_word_at) .none kV9 dc9 pm9 an9 cd9 ct9), sl9⟩) (c9 : PySem.W.codeIn K cd9 "word_at" = true) (k9 : PySem.W.keepIn K (.ref f9) = true)
    (a10 : PySem.W.nsIn K mainGlobals "take_word" = some (some (.ref f10))) (l10 : K.lookup f10 = some ⟨oc10, od10, .func (PySem.W.fnOf "take_word" "take_word" (defArgs s_take_word) (defBody s_take_word) (defScope s_take_word) .none kV10 dc10 pm10 an10 cd10 ct10), sl10⟩) (c10 : PySem.W.codeIn K cd10 "take_word" = true) (k10 : PySem.W.keepIn K (.ref f10) = true)
    (a11 : PySem.W.nsIn K mainGlobals "take_left" = some (some (.ref f11))) (l11 : K.lookup f11 = some ⟨oc11, od11, .func (PySem.W.fnOf "take_left" "take_left" (defArgs s_take_left) (defBody s_take_left) (defScope s_take_left) .none kV11 dc11 pm11 an11 cd11 ct11), sl11⟩) (c11 : PySem.W.codeIn K cd11 "take_left" = true) (k11 : PySem.W.keepIn K (.ref f11) = true)
    (a12 : PySem.W.nsIn K mainGlobals "take_right" = some (some (.ref f12))) (l12 : K.lookup f12 = some ⟨oc12, od12, .func (PySem.W.fnOf "take_right" "take_right" (defArgs s_take_right) (defBody s_take_right) (defScope s_take_right) .none kV12 dc12 pm12 an12 cd12 ct12), sl12⟩) (c12 : PySem.W.codeIn K cd12 "take_right" = true) (k12 : PySem.W.keepIn K (.ref f12) = true)
    (a13 : PySem.W.nsIn K mainGlobals "breaker_of" = some (some (.ref f13))) (l13 : K.lookup f13 = some ⟨oc13, od13, .func (PySem.W.fnOf "breaker_of" "breaker_of" (defArgs s_breaker_of) (defBody s_breaker_of) (defScope s_breaker_of) .none kV13 dc13 pm13 an13 cd13 ct13), sl13⟩) (c13 : PySem.W.codeIn K cd13 "breaker_of" = true) (k13 : PySem.W.keepIn K (.ref f13) = true)
    (a14 : PySem.W.nsIn K mainGlobals "read_breaker" = some (some (.ref f14))) (l14 : K.lookup f14 = some ⟨oc14, od14, .func (PySem.W.fnOf "read_breaker" "read_breaker" (defArgs s_read_breaker) (defBody s_read_breaker) (defScope s_read_breaker) .none kV14 dc14 pm14 an14 cd14 ct14), sl14⟩) (c14 : PySem.W.codeIn K cd14 "read_breaker" = true) (k14 : PySem.W.keepIn K (.ref f14) = true)
    (a15 : PySem.W.nsIn K mainGlobals "_law_draws" = some (some (.ref f15))) (l15 : K.lookup f15 = some ⟨oc15, od15, .func (PySem.W.fnOf "_law_draws" "_law_draws" (defArgs s_law_draws) (defBody s_law_draws) (defScope s_law_draws) .none kV15 dc15 pm15 an15 cd15 ct15), sl15⟩) (c15 : PySem.W.codeIn K cd15 "_law_draws" = true) (k15 : PySem.W.keepIn K (.ref f15) = true)
    (a16 : PySem.W.nsIn K mainGlobals "_law_take" = some (some (.ref f16))) (l16 : K.lookup f16 = some ⟨oc16, od16, .func (PySem.W.fnOf "_law_take" "_law_take" (defArgs s_law_take) (defBody s_law_take) (defScope s_law_take) .none kV16 dc16 pm16 an16 cd16 ct16), sl16⟩) (c16 : PySem.W.codeIn K cd16 "_law_take" = true) (k16 : PySem.W.keepIn K (.ref f16) = true)
    (a17 : PySem.W.nsIn K mainGlobals "_law_parts" = some (some (.ref f17))) (l17 : K.lookup f17 = some ⟨oc17, od17, .func (PySem.W.fnOf "_law_parts" "_law_parts" (defArgs s_law_parts) (defBody s_law_parts) (defScope s_law_parts) .none kV17 dc17 pm17 an17 cd17 ct17), sl17⟩) (c17 : PySem.W.codeIn K cd17 "_law_parts" = true) (k17 : PySem.W.keepIn K (.ref f17) = true)
    (a18 : PySem.W.nsIn K mainGlobals "_law_breaker" = some (some (.ref f18))) (l18 : K.lookup f18 = some ⟨oc18, od18, .func (PySem.W.fnOf "_law_breaker" "_law_breaker" (defArgs s_law_breaker) (defBody s_law_breaker) (defScope s_law_breaker) .none kV18 dc18 pm18 an18 cd18 ct18), sl18⟩) (c18 : PySem.W.codeIn K cd18 "_law_breaker" = true) (k18 : PySem.W.keepIn K (.ref f18) = true)
    (a19 : PySem.W.nsIn K mainGlobals "_law_far_parts" = some (some (.ref f19))) (l19 : K.lookup f19 = some ⟨oc19, od19, .func (PySem.W.fnOf "_law_far_parts" "_law_far_parts" (defArgs s_law_far_parts) (defBody s_law_far_parts) (defScope s_law_far_parts) .none kV19 dc19 pm19 an19 cd19 ct19), sl19⟩) (c19 : PySem.W.codeIn K cd19 "_law_far_parts" = true) (k19 : PySem.W.keepIn K (.ref f19) = true)
    (a20 : PySem.W.nsIn K mainGlobals "_law_far" = some (some (.ref f20))) (l20 : K.lookup f20 = some ⟨oc20, od20, .func (PySem.W.fnOf "_law_far" "_law_far" (defArgs s_law_far) (defBody s_law_far) (defScope s_law_far) .none kV20 dc20 pm20 an20 cd20 ct20), sl20⟩) (c20 : PySem.W.codeIn K cd20 "_law_far" = true) (k20 : PySem.W.keepIn K (.ref f20) = true)
    (a21 : PySem.W.nsIn K mainGlobals "_law_parts_words" = some (some (.ref f21))) (l21 : K.lookup f21 = some ⟨oc21, od21, .func (PySem.W.fnOf "_law_parts_words" "_law_parts_words" (defArgs s_law_parts_words) (defBody s_law_parts_words) (defScope s_law_parts_words) .none kV21 dc21 pm21 an21 cd21 ct21), sl21⟩) (c21 : PySem.W.codeIn K cd21 "_law_parts_words" = true) (k21 : PySem.W.keepIn K (.ref f21) = true)
    (a22 : PySem.W.nsIn K mainGlobals "_law_words" = some (some (.ref f22))) (l22 : K.lookup f22 = some ⟨oc22, od22, .func (PySem.W.fnOf "_law_words" "_law_words" (defArgs s_law_words) (defBody s_law_words) (defScope s_law_words) .none kV22 dc22 pm22 an22 cd22 ct22), sl22⟩) (c22 : PySem.W.codeIn K cd22 "_law_words" = true) (k22 : PySem.W.keepIn K (.ref f22) = true)
    (a23 : PySem.W.nsIn K mainGlobals "_law_text" = some (some (.ref f23))) (l23 : K.lookup f23 = some ⟨oc23, od23, .func (PySem.W.fnOf "_law_text" "_law_text" (defArgs s_law_text) (defBody s_law_text) (defScope s_law_text) .none kV23 dc23 pm23 an23 cd23 ct23), sl23⟩) (c23 : PySem.W.codeIn K cd23 "_law_text" = true) (k23 : PySem.W.keepIn K (.ref f23) = true)
    (a24 : PySem.W.nsIn K mainGlobals "_law_spaced" = some (some (.ref f24))) (l24 : K.lookup f24 = some ⟨oc24, od24, .func (PySem.W.fnOf "_law_spaced" "_law_spaced" (defArgs s_law_spaced) (defBody s_law_spaced) (defScope s_law_spaced) .none kV24 dc24 pm24 an24 cd24 ct24), sl24⟩) (c24 : PySem.W.codeIn K cd24 "_law_spaced" = true) (k24 : PySem.W.keepIn K (.ref f24) = true)
    (a25 : PySem.W.nsIn K mainGlobals "_law_same" = some (some (.ref f25))) (l25 : K.lookup f25 = some ⟨oc25, od25, .func (PySem.W.fnOf "_law_same" "_law_same" (defArgs s_law_same) (defBody s_law_same) (defScope s_law_same) .none kV25 dc25 pm25 an25 cd25 ct25), sl25⟩) (c25 : PySem.W.codeIn K cd25 "_law_same" = true) (k25 : PySem.W.keepIn K (.ref f25) = true)
    (a26 : PySem.W.nsIn K mainGlobals "_law_after_name" = some (some (.ref f26))) (l26 : K.lookup f26 = some ⟨oc26, od26, .func (PySem.W.fnOf "_law_after_name" "_law_after_name" (defArgs s_law_after_name) (defBody s_law_after_name) (defScope s_law_after_name) .none kV26 dc26 pm26 an26 cd26 ct26), sl26⟩) (c26 : PySem.W.codeIn K cd26 "_law_after_name" = true) (k26 : PySem.W.keepIn K (.ref f26) = true)
    (a27 : PySem.W.nsIn K mainGlobals "_law_is_begun" = some (some (.ref f27))) (l27 : K.lookup f27 = some ⟨oc27, od27, .func (PySem.W.fnOf "_law_is_begun" "_law_is_begun" (defArgs s_law_is_begun) (defBody s_law_is_begun) (defScope s_law_is_begun) .none kV27 dc27 pm27 an27 cd27 ct27), sl27⟩) (c27 : PySem.W.codeIn K cd27 "_law_is_begun" = true) (k27 : PySem.W.keepIn K (.ref f27) = true)
    (a28 : PySem.W.nsIn K mainGlobals "_law_closed" = some (some (.ref f28))) (l28 : K.lookup f28 = some ⟨oc28, od28, .func (PySem.W.fnOf "_law_closed" "_law_closed" (defArgs s_law_closed) (defBody s_law_closed) (defScope s_law_closed) .none kV28 dc28 pm28 an28 cd28 ct28), sl28⟩) (c28 : PySem.W.codeIn K cd28 "_law_closed" = true) (k28 : PySem.W.keepIn K (.ref f28) = true)
    (a29 : PySem.W.nsIn K mainGlobals "_law_wants" = some (some (.ref f29))) (l29 : K.lookup f29 = some ⟨oc29, od29, .func (PySem.W.fnOf "_law_wants" "_law_wants" (defArgs s_law_wants) (defBody s_law_wants) (defScope s_law_wants) .none kV29 dc29 pm29 an29 cd29 ct29), sl29⟩) (c29 : PySem.W.codeIn K cd29 "_law_wants" = true) (k29 : PySem.W.keepIn K (.ref f29) = true)
    (a30 : PySem.W.nsIn K mainGlobals "_law_word_step" = some (some (.ref f30))) (l30 : K.lookup f30 = some ⟨oc30, od30, .func (PySem.W.fnOf "_law_word_step" "_law_word_step" (defArgs s_law_word_step) (defBody s_law_word_step) (defScope s_law_word_step) .none kV30 dc30 pm30 an30 cd30 ct30), sl30⟩) (c30 : PySem.W.codeIn K cd30 "_law_word_step" = true) (k30 : PySem.W.keepIn K (.ref f30) = true)
    (a31 : PySem.W.nsIn K mainGlobals "_law_begin" = some (some (.ref f31))) (l31 : K.lookup f31 = some ⟨oc31, od31, .func (PySem.W.fnOf "_law_begin" "_law_begin" (defArgs s_law_begin) (defBody s_law_begin) (defScope s_law_begin) .none kV31 dc31 pm31 an31 cd31 ct31), sl31⟩) (c31 : PySem.W.codeIn K cd31 "_law_begin" = true) (k31 : PySem.W.keepIn K (.ref f31) = true)
    (a32 : PySem.W.nsIn K mainGlobals "_law_step" = some (some (.ref f32))) (l32 : K.lookup f32 = some ⟨oc32, od32, .func (PySem.W.fnOf "_law_step" "_law_step" (defArgs s_law_step) (defBody s_law_step) (defScope s_law_step) .none kV32 dc32 pm32 an32 cd32 ct32), sl32⟩) (c32 : PySem.W.codeIn K cd32 "_law_step" = true) (k32 : PySem.W.keepIn K (.ref f32) = true)
    (a33 : PySem.W.nsIn K mainGlobals "_law_read" = some (some (.ref f33))) (l33 : K.lookup f33 = some ⟨oc33, od33, .func (PySem.W.fnOf "_law_read" "_law_read" (defArgs s_law_read) (defBody s_law_read) (defScope s_law_read) .none kV33 dc33 pm33 an33 cd33 ct33), sl33⟩) (c33 : PySem.W.codeIn K cd33 "_law_read" = true) (k33 : PySem.W.keepIn K (.ref f33) = true)
    (a34 : PySem.W.nsIn K mainGlobals "_law_piece" = some (some (.ref f34))) (l34 : K.lookup f34 = some ⟨oc34, od34, .func (PySem.W.fnOf "_law_piece" "_law_piece" (defArgs s_law_piece) (defBody s_law_piece) (defScope s_law_piece) .none kV34 dc34 pm34 an34 cd34 ct34), sl34⟩) (c34 : PySem.W.codeIn K cd34 "_law_piece" = true) (k34 : PySem.W.keepIn K (.ref f34) = true)
    (a35 : PySem.W.nsIn K mainGlobals "_law_bent" = some (some (.ref f35))) (l35 : K.lookup f35 = some ⟨oc35, od35, .func (PySem.W.fnOf "_law_bent" "_law_bent" (defArgs s_law_bent) (defBody s_law_bent) (defScope s_law_bent) .none kV35 dc35 pm35 an35 cd35 ct35), sl35⟩) (c35 : PySem.W.codeIn K cd35 "_law_bent" = true) (k35 : PySem.W.keepIn K (.ref f35) = true)
    (a36 : PySem.W.nsIn K mainGlobals "_law_longest" = some (some (.ref f36))) (l36 : K.lookup f36 = some ⟨oc36, od36, .func (PySem.W.fnOf "_law_longest" "_law_longest" (defArgs s_law_longest) (defBody s_law_longest) (defScope s_law_longest) .none kV36 dc36 pm36 an36 cd36 ct36), sl36⟩) (c36 : PySem.W.codeIn K cd36 "_law_longest" = true) (k36 : PySem.W.keepIn K (.ref f36) = true)
    (a37 : PySem.W.nsIn K mainGlobals "_law_is_right" = some (some (.ref f37))) (l37 : K.lookup f37 = some ⟨oc37, od37, .func (PySem.W.fnOf "_law_is_right" "_law_is_right" (defArgs s_law_is_right) (defBody s_law_is_right) (defScope s_law_is_right) .none kV37 dc37 pm37 an37 cd37 ct37), sl37⟩) (c37 : PySem.W.codeIn K cd37 "_law_is_right" = true) (k37 : PySem.W.keepIn K (.ref f37) = true)
    (a38 : PySem.W.nsIn K mainGlobals "law" = some (some (.ref f38))) (l38 : K.lookup f38 = some ⟨oc38, od38, .func (PySem.W.fnOf "law" "law" (defArgs s_law) (defBody s_law) (defScope s_law) .none kV38 dc38 pm38 an38 cd38 ct38), sl38⟩) (c38 : PySem.W.codeIn K cd38 "law" = true) (k38 : PySem.W.keepIn K (.ref f38) = true)
    (z1 : PySem.W.nsIn K mainGlobals "ValueError" = some none)
    (z2 : PySem.W.nsIn K mainGlobals "abs" = some none)
    (z3 : PySem.W.nsIn K mainGlobals "bool" = some none)
    (z4 : PySem.W.nsIn K mainGlobals "int" = some none)
    (z5 : PySem.W.nsIn K mainGlobals "isinstance" = some none)
    (z6 : PySem.W.nsIn K mainGlobals "len" = some none)
    (z7 : PySem.W.nsIn K mainGlobals "max" = some none)
    (z8 : PySem.W.nsIn K mainGlobals "min" = some none)
    (z9 : PySem.W.nsIn K mainGlobals "range" = some none)
    (z10 : PySem.W.nsIn K mainGlobals "str" = some none)
    (z11 : PySem.W.nsIn K mainGlobals "tuple" = some none)
    {tk1 : Tok} (y1 : PySem.W.nsIn K mainGlobals "FIGURES" = some (some (.str "0123456789" tk1)))
    {tk2 : Tok} (y2 : PySem.W.nsIn K mainGlobals "PARTS" = some (some (.str "parts" tk2)))
    {CBadBreaker CBreakError CBadText : Addr}
    {CKINDS : Addr} {odKINDS : Option Addr} {itKINDS : Array Value} {nnKINDS : Nat} {slKINDS : Array (Option Value)} {tKINDS0 tKINDS1 tKINDS2 tKINDS3 : Tok}
    (gBadBreaker : PySem.W.nsIn K mainGlobals "BadBreaker" = some (some (.ref CBadBreaker)))
    (gBreakError : PySem.W.nsIn K mainGlobals "BreakError" = some (some (.ref CBreakError)))
    (gBadText : PySem.W.nsIn K mainGlobals "BadText" = some (some (.ref CBadText)))
    (iCBadText : PySem.W.findIn K (.ref CBadText) "__init__" = some (some (.ref f1)))
    (tIBadText : PySem.W.typeIn K (.ref f1) = some (.type "function"))
    (ocBadText : heldCls K CBadText = true)
    (osBadText : PySem.W.findIn K (.ref CBadText) "__setattr__" = some (some (.builtin "object.__setattr__")))
    (fnBadTextplace : PySem.W.findIn K (.ref CBadText) "place" = some none)
    (kBadText : PySem.W.keepIn K (.ref CBadText) = true)
    (bBadText : PySem.W.subIn K (.ref CBadText) (.type "BaseException") = some true)
    (tBadText : PySem.W.typeIn K (.ref CBadText) = some (.type "type"))
    (uBadText : PySem.W.findIn K (.ref CBadText) "__getattribute__" = some (some (.builtin "BaseException.__getattribute__")))
    (vBadText : PySem.W.findIn K (.ref CBadText) "__getattr__" = some none)
    (hBadText : PySem.W.hasDictIn K CBadText = true)
    (wBadText : PySem.W.findIn K (.ref CBadText) "__class__" = some (some (.builtin "object.__class__")))
    (mBadText : PySem.W.mroIn K CBadText (.type "object") = some true)
    (eBadTextBadText : PySem.W.exmOne K (.ref CBadText) (.ref CBadText) = some true)
    (kBadTextBreakError : PySem.W.kitOne K (.ref CBadText) (.ref CBreakError) = some true)
    (kBadTextValueError : PySem.W.kitOne K (.ref CBadText) (.type "ValueError") = some true)
    (kBadTextBadBreaker : PySem.W.kitOne K (.ref CBadText) (.ref CBadBreaker) = some false)
    (sp1 : PySem.W.specialIn K (.builtin "object.__class__") "__get__" = some (some (.builtin "getset_descriptor.__get__")))
    (tk1 : PySem.W.takesIn K (.builtin "object.__class__") = some true)
    (gKINDS : PySem.W.nsIn K mainGlobals "KINDS" = some (some (.ref CKINDS)))
    (lKINDS : K.lookup CKINDS = some ⟨.type "tuple", odKINDS, .seq itKINDS nnKINDS, slKINDS⟩)
    (vKINDS : itKINDS.toList = [.str "say" tKINDS0, .str "toss" tKINDS1, .str "look" tKINDS2, .str "ask" tKINDS3]) :
    ∃ fd : FuncData, (∀ (s : Shared) (v : Value), BindsTo s fd ⟨[v], []⟩ [("script", v)]) ∧ ∀ base : Heap, K.In base → base.Ns mainGlobals mg → FnOk l.prog w K mg base CX0 top_level fa fd ["script"] (spLaw K) := by
  have e := hfa.symm.trans (PySem.W.mg_of X G a38)
  cases e
  have T : Txt K w mg ⟨CBadBreaker, CBreakError, CBadText, CKINDS⟩ := { n_ValueError := PySem.W.mg_none_of X G z1, n_abs := PySem.W.mg_none_of X G z2, n_bool := PySem.W.mg_none_of X G z3, n_int := PySem.W.mg_none_of X G z4, n_isinstance := PySem.W.mg_none_of X G z5, n_len := PySem.W.mg_none_of X G z6, n_max := PySem.W.mg_none_of X G z7, n_min := PySem.W.mg_none_of X G z8, n_range := PySem.W.mg_none_of X G z9, n_str := PySem.W.mg_none_of X G z10, n_tuple := PySem.W.mg_none_of X G z11, g_FIGURES := ⟨_, PySem.W.mg_of X G y1, ⟨_, rfl⟩⟩, g_PARTS := ⟨_, PySem.W.mg_of X G y2, ⟨_, rfl⟩⟩, gl_BadBreaker := PySem.W.mg_of X G gBadBreaker, gl_BreakError := PySem.W.mg_of X G gBreakError, gl_BadText := PySem.W.mg_of X G gBadText, gl_KINDS := PySem.W.mg_of X G gKINDS, kt_KINDS := fun H => .inr ⟨_, itKINDS, nnKINDS, lKINDS, rfl, rfl, (by rw [← Array.length_toList, vKINDS]; show 4 ≤ sizeLine; decide), (by rw [vKINDS]; exact .cons ⟨_, rfl⟩ (.cons ⟨_, rfl⟩ (.cons ⟨_, rfl⟩ (.cons ⟨_, rfl⟩ (.nil)))))⟩, o_BadText := ⟨held_cls ocBadText, osBadText, bBadText, tBadText, kBadText⟩, f_BadText := ⟨uBadText, vBadText, bBadText, hBadText⟩, fn_BadText_place := fnBadTextplace, e_BadText := ⟨uBadText, vBadText, bBadText, hBadText, wBadText, sp1, tk1, mBadText⟩, exm_BadText_BadText := eBadTextBadText, kit_BadText_BreakError := kBadTextBreakError, kit_BadText_ValueError := kBadTextValueError, kit_BadText_BadBreaker := kBadTextBadBreaker }
  have F1 := fun_mk (st := s_init_BadText) l1 c1 k1
  have b1 := F1.binds (ps := ["self", "place"]) fun _ _ _ _ _ _ us hl => match us, hl with | [_, _], _ => rfl
  have F2 := fun_mk (st := s_awaited) l2 c2 k2
  have b2 := F2.binds (ps := ["read"]) fun _ _ _ _ _ _ us hl => match us, hl with | [_], _ => rfl
  have F3 := fun_mk (st := s_told) l3 c3 k3
  have b3 := F3.binds (ps := ["read"]) fun _ _ _ _ _ _ us hl => match us, hl with | [_], _ => rfl
  have F4 := fun_mk (st := s_shared) l4 c4 k4
  have b4 := F4.binds (ps := ["first", "second"]) fun _ _ _ _ _ _ us hl => match us, hl with | [_, _], _ => rfl
  have F5 := fun_mk (st := s_begun_number) l5 c5 k5
  have b5 := F5.binds (ps := ["word"]) fun _ _ _ _ _ _ us hl => match us, hl with | [_], _ => rfl
  have F6 := fun_mk (st := s_begun) l6 c6 k6
  have b6 := F6.binds (ps := ["word", "kind"]) fun _ _ _ _ _ _ us hl => match us, hl with | [_, _], _ => rfl
  have F7 := fun_mk (st := s_is_whole_word) l7 c7 k7
  have b7 := F7.binds (ps := ["word", "kind"]) fun _ _ _ _ _ _ us hl => match us, hl with | [_, _], _ => rfl
  have F8 := fun_mk (st := s_meaning) l8 c8 k8
  have b8 := F8.binds (ps := ["word", "kind"]) fun _ _ _ _ _ _ us hl => match us, hl with | [_, _], _ => rfl
  have F9 := fun_mk (st := s_word_at) l9 c9 k9
  have b9 := F9.binds (ps := ["text", "at"]) fun _ _ _ _ _ _ us hl => match us, hl with | [_, _], _ => rfl
  have F10 := fun_mk (st := s_take_word) l10 c10 k10
  have b10 := F10.binds (ps := ["unclosed", "word", "at"]) fun _ _ _ _ _ _ us hl => match us, hl with | [_, _, _], _ => rfl
  have F11 := fun_mk (st := s_take_left) l11 c11 k11
  have b11 := F11.binds (ps := ["unclosed", "at"]) fun _ _ _ _ _ _ us hl => match us, hl with | [_, _], _ => rfl
  have F12 := fun_mk (st := s_take_right) l12 c12 k12
  have b12 := F12.binds (ps := ["unclosed", "at"]) fun _ _ _ _ _ _ us hl => match us, hl with | [_, _], _ => rfl
  have F13 := fun_mk (st := s_breaker_of) l13 c13 k13
  have b13 := F13.binds (ps := ["text"]) fun _ _ _ _ _ _ us hl => match us, hl with | [_], _ => rfl
  have F14 := fun_mk (st := s_read_breaker) l14 c14 k14
  have b14 := F14.binds (ps := ["text"]) fun _ _ _ _ _ _ us hl => match us, hl with | [_], _ => rfl
  have F15 := fun_mk (st := s_law_draws) l15 c15 k15
  have b15 := F15.binds (ps := ["script", "many"]) fun _ _ _ _ _ _ us hl => match us, hl with | [_, _], _ => rfl
  have F16 := fun_mk (st := s_law_take) l16 c16 k16
  have b16 := F16.binds (ps := ["hand", "many"]) fun _ _ _ _ _ _ us hl => match us, hl with | [_, _], _ => rfl
  have F17 := fun_mk (st := s_law_parts) l17 c17 k17
  have b17 := F17.binds (ps := ["hand", "length"]) fun _ _ _ _ _ _ us hl => match us, hl with | [_, _], _ => rfl
  have F18 := fun_mk (st := s_law_breaker) l18 c18 k18
  have b18 := F18.binds (ps := ["hand", "depth", "asks", "length", "said"]) fun _ _ _ _ _ _ us hl => match us, hl with | [_, _, _, _, _], _ => rfl
  have F19 := fun_mk (st := s_law_far_parts) l19 c19 k19
  have b19 := F19.binds (ps := ["hand", "parts"]) fun _ _ _ _ _ _ us hl => match us, hl with | [_, _], _ => rfl
  have F20 := fun_mk (st := s_law_far) l20 c20 k20
  have b20 := F20.binds (ps := ["hand", "breaker"]) fun _ _ _ _ _ _ us hl => match us, hl with | [_, _], _ => rfl
  have F21 := fun_mk (st := s_law_parts_words) l21 c21 k21
  have b21 := F21.binds (ps := ["parts"]) fun _ _ _ _ _ _ us hl => match us, hl with | [_], _ => rfl
  have F22 := fun_mk (st := s_law_words) l22 c22 k22
  have b22 := F22.binds (ps := ["breaker"]) fun _ _ _ _ _ _ us hl => match us, hl with | [_], _ => rfl
  have F23 := fun_mk (st := s_law_text) l23 c23 k23
  have b23 := F23.binds (ps := ["words"]) fun _ _ _ _ _ _ us hl => match us, hl with | [_], _ => rfl
  have F24 := fun_mk (st := s_law_spaced) l24 c24 k24
  have b24 := F24.binds (ps := ["hand", "words"]) fun _ _ _ _ _ _ us hl => match us, hl with | [_, _], _ => rfl
  have F25 := fun_mk (st := s_law_same) l25 c25 k25
  have b25 := F25.binds (ps := ["found", "due"]) fun _ _ _ _ _ _ us hl => match us, hl with | [_, _], _ => rfl
  have F26 := fun_mk (st := s_law_after_name) l26 c26 k26
  have b26 := F26.binds (ps := ["stack", "word"]) fun _ _ _ _ _ _ us hl => match us, hl with | [_, _], _ => rfl
  have F27 := fun_mk (st := s_law_is_begun) l27 c27 k27
  have b27 := F27.binds (ps := ["word", "sign"]) fun _ _ _ _ _ _ us hl => match us, hl with | [_, _], _ => rfl
  have F28 := fun_mk (st := s_law_closed) l28 c28 k28
  have b28 := F28.binds (ps := ["stack"]) fun _ _ _ _ _ _ us hl => match us, hl with | [_], _ => rfl
  have F29 := fun_mk (st := s_law_wants) l29 c29 k29
  have b29 := F29.binds (ps := ["stack"]) fun _ _ _ _ _ _ us hl => match us, hl with | [_], _ => rfl
  have F30 := fun_mk (st := s_law_word_step) l30 c30 k30
  have b30 := F30.binds (ps := ["state", "stack", "word", "sign"]) fun _ _ _ _ _ _ us hl => match us, hl with | [_, _, _, _], _ => rfl
  have F31 := fun_mk (st := s_law_begin) l31 c31 k31
  have b31 := F31.binds (ps := ["stack", "state", "sign", "glued"]) fun _ _ _ _ _ _ us hl => match us, hl with | [_, _, _, _], _ => rfl
  have F32 := fun_mk (st := s_law_step) l32 c32 k32
  have b32 := F32.binds (ps := ["state", "stack", "sign", "glued"]) fun _ _ _ _ _ _ us hl => match us, hl with | [_, _, _, _], _ => rfl
  have F33 := fun_mk (st := s_law_read) l33 c33 k33
  have b33 := F33.binds (ps := ["text"]) fun _ _ _ _ _ _ us hl => match us, hl with | [_], _ => rfl
  have F34 := fun_mk (st := s_law_piece) l34 c34 k34
  have b34 := F34.binds (ps := ["hand"]) fun _ _ _ _ _ _ us hl => match us, hl with | [_], _ => rfl
  have F35 := fun_mk (st := s_law_bent) l35 c35 k35
  have b35 := F35.binds (ps := ["hand", "words"]) fun _ _ _ _ _ _ us hl => match us, hl with | [_, _], _ => rfl
  have F36 := fun_mk (st := s_law_longest) l36 c36 k36
  have b36 := F36.binds (ps := ["text"]) fun _ _ _ _ _ _ us hl => match us, hl with | [_], _ => rfl
  have F37 := fun_mk (st := s_law_is_right) l37 c37 k37
  have b37 := F37.binds (ps := ["text"]) fun _ _ _ _ _ _ us hl => match us, hl with | [_], _ => rfl
  have F38 := fun_mk (st := s_law) l38 c38 k38
  have b38 := F38.binds (ps := ["script"]) fun _ _ _ _ _ _ us hl => match us, hl with | [_], _ => rfl
  refine ⟨PySem.W.fnOf "law" "law" (defArgs s_law) (defBody s_law) (defScope s_law) .none kV38 dc38 pm38 an38 cd38 ct38, fun s v => .of_eq rfl, fun base _ _ => ?_⟩
  exact mk_law T F1 iCBadText tIBadText b1 ⟨F2, b2, PySem.W.mg_of X G a2⟩ ⟨F3, b3, PySem.W.mg_of X G a3⟩ ⟨F4, b4, PySem.W.mg_of X G a4⟩ ⟨F5, b5, PySem.W.mg_of X G a5⟩ ⟨F6, b6, PySem.W.mg_of X G a6⟩ ⟨F7, b7, PySem.W.mg_of X G a7⟩ ⟨F8, b8, PySem.W.mg_of X G a8⟩ ⟨F9, b9, PySem.W.mg_of X G a9⟩ ⟨F10, b10, PySem.W.mg_of X G a10⟩ ⟨F11, b11, PySem.W.mg_of X G a11⟩ ⟨F12, b12, PySem.W.mg_of X G a12⟩ ⟨F13, b13, PySem.W.mg_of X G a13⟩ ⟨F14, b14, PySem.W.mg_of X G a14⟩ ⟨F15, b15, PySem.W.mg_of X G a15⟩ ⟨F16, b16, PySem.W.mg_of X G a16⟩ ⟨F17, b17, PySem.W.mg_of X G a17⟩ ⟨F18, b18, PySem.W.mg_of X G a18⟩ ⟨F19, b19, PySem.W.mg_of X G a19⟩ ⟨F20, b20, PySem.W.mg_of X G a20⟩ ⟨F21, b21, PySem.W.mg_of X G a21⟩ ⟨F22, b22, PySem.W.mg_of X G a22⟩ ⟨F23, b23, PySem.W.mg_of X G a23⟩ ⟨F24, b24, PySem.W.mg_of X G a24⟩ ⟨F25, b25, PySem.W.mg_of X G a25⟩ ⟨F26, b26, PySem.W.mg_of X G a26⟩ ⟨F27, b27, PySem.W.mg_of X G a27⟩ ⟨F28, b28, PySem.W.mg_of X G a28⟩ ⟨F29, b29, PySem.W.mg_of X G a29⟩ ⟨F30, b30, PySem.W.mg_of X G a30⟩ ⟨F31, b31, PySem.W.mg_of X G a31⟩ ⟨F32, b32, PySem.W.mg_of X G a32⟩ ⟨F33, b33, PySem.W.mg_of X G a33⟩ ⟨F34, b34, PySem.W.mg_of X G a34⟩ ⟨F35, b35, PySem.W.mg_of X G a35⟩ ⟨F36, b36, PySem.W.mg_of X G a36⟩ ⟨F37, b37, PySem.W.mg_of X G a37⟩ F38
end My
open PySem PySem.W PyProof.Rows
set_option maxRecDepth 100000 in
set_option maxHeartbeats 0 in
theorem PySem.Challenge.cw_breakback_k07_where_a_text_is_wrong_holds : PySem.Challenge.rw_breakback_k07_where_a_text_is_wrong.Holds := by
  w_on; o_law; k_head; (case hw => w_witness2)
  k_fill
  refine L2.walk_of (l := PySem.Challenge.rw_breakback_k07_where_a_text_is_wrong) (n := 63) (k := My.top_level) (x := "script") (CX := fun _ => L2.CX0) (sp := fun w => My.spLaw _) rfl (by decide) rfl ⟨rfl, by decide, by decide⟩ (fun w h Y => PySem.W.kIn_of Y) ?F (fun _ _ a ns hl _ hS => ⟨a, ns, rfl, hS, hl, fun _ => rfl⟩) (fun _ _ _ _ _ h => h)
  case F =>
    intro w mg fa h KX G hmg
    refine' My.all_mk KX G hmg ?l1 ?c1 ?k1 ?a2 ?l2 ?c2 ?k2 ?a3 ?l3 ?c3 ?k3 ?a4 ?l4 ?c4 ?k4 ?a5 ?l5 ?c5 ?k5 ?a6 ?l6 ?c6 ?k6 ?a7 ?l7 ?c7 ?k7 ?a8 ?l8 ?c8 ?k8 ?a9 ?l9 ?c9 ?k9 ?a10 ?l10 ?c10 ?k10 ?a11 ?l11 ?c11 ?k11 ?a12 ?l12 ?c12 ?k12 ?a13 ?l13 ?c13 ?k13 ?a14 ?l14 ?c14 ?k14 ?a15 ?l15 ?c15 ?k15 ?a16 ?l16 ?c16 ?k16 ?a17 ?l17 ?c17 ?k17 ?a18 ?l18 ?c18 ?k18 ?a19 ?l19 ?c19 ?k19 ?a20 ?l20 ?c20 ?k20 ?a21 ?l21 ?c21 ?k21 ?a22 ?l22 ?c22 ?k22 ?a23 ?l23 ?c23 ?k23 ?a24 ?l24 ?c24 ?k24 ?a25 ?l25 ?c25 ?k25 ?a26 ?l26 ?c26 ?k26 ?a27 ?l27 ?c27 ?k27 ?a28 ?l28 ?c28 ?k28 ?a29 ?l29 ?c29 ?k29 ?a30 ?l30 ?c30 ?k30 ?a31 ?l31 ?c31 ?k31 ?a32 ?l32 ?c32 ?k32 ?a33 ?l33 ?c33 ?k33 ?a34 ?l34 ?c34 ?k34 ?a35 ?l35 ?c35 ?k35 ?a36 ?l36 ?c36 ?k36 ?a37 ?l37 ?c37 ?k37 ?a38 ?l38 ?c38 ?k38 ?z1 ?z2 ?z3 ?z4 ?z5 ?z6 ?z7 ?z8 ?z9 ?z10 ?z11 ?y1 ?y2 ?gBadBreaker ?gBreakError ?gBadText ?iCBadText ?tIBadText ?ocBadText ?osBadText ?fnBadTextplace ?kBadText ?bBadText ?tBadText ?uBadText ?vBadText ?hBadText ?wBadText ?mBadText ?eBadTextBadText ?kBadTextBreakError ?kBadTextValueError ?kBadTextBadBreaker ?sp1 ?tk1 ?gKINDS ?lKINDS ?vKINDS
    (case a2 => k_is); (case l2 => k_is); (case c2 => k_is); (case k2 => k_is); (case a3 => k_is); (case l3 => k_is); (case c3 => k_is); (case k3 => k_is)
    (case a4 => k_is); (case l4 => k_is); (case c4 => k_is); (case k4 => k_is); (case a5 => k_is); (case l5 => k_is); (case c5 => k_is); (case k5 => k_is)
    (case a6 => k_is); (case l6 => k_is); (case c6 => k_is); (case k6 => k_is); (case a7 => k_is); (case l7 => k_is); (case c7 => k_is); (case k7 => k_is)
    (case a8 => k_is); (case l8 => k_is); (case c8 => k_is); (case k8 => k_is); (case a9 => k_is); (case l9 => k_is); (case c9 => k_is); (case k9 => k_is)
    (case a10 => k_is); (case l10 => k_is); (case c10 => k_is); (case k10 => k_is); (case a11 => k_is); (case l11 => k_is); (case c11 => k_is); (case k11 => k_is)
    (case a12 => k_is); (case l12 => k_is); (case c12 => k_is); (case k12 => k_is); (case a13 => k_is); (case l13 => k_is); (case c13 => k_is); (case k13 => k_is)
    (case a14 => k_is); (case l14 => k_is); (case c14 => k_is); (case k14 => k_is); (case a15 => k_is); (case l15 => k_is); (case c15 => k_is); (case k15 => k_is)
    (case a16 => k_is); (case l16 => k_is); (case c16 => k_is); (case k16 => k_is); (case a17 => k_is); (case l17 => k_is); (case c17 => k_is); (case k17 => k_is)
    (case a18 => k_is); (case l18 => k_is); (case c18 => k_is); (case k18 => k_is); (case a19 => k_is); (case l19 => k_is); (case c19 => k_is); (case k19 => k_is)
    (case a20 => k_is); (case l20 => k_is); (case c20 => k_is); (case k20 => k_is); (case a21 => k_is); (case l21 => k_is); (case c21 => k_is); (case k21 => k_is)
    (case a22 => k_is); (case l22 => k_is); (case c22 => k_is); (case k22 => k_is); (case a23 => k_is); (case l23 => k_is); (case c23 => k_is); (case k23 => k_is)
    (case a24 => k_is); (case l24 => k_is); (case c24 => k_is); (case k24 => k_is); (case a25 => k_is); (case l25 => k_is); (case c25 => k_is); (case k25 => k_is)
    (case a26 => k_is); (case l26 => k_is); (case c26 => k_is); (case k26 => k_is); (case a27 => k_is); (case l27 => k_is); (case c27 => k_is); (case k27 => k_is)
    (case a28 => k_is); (case l28 => k_is); (case c28 => k_is); (case k28 => k_is); (case a29 => k_is); (case l29 => k_is); (case c29 => k_is); (case k29 => k_is)
    (case a30 => k_is); (case l30 => k_is); (case c30 => k_is); (case k30 => k_is); (case a31 => k_is); (case l31 => k_is); (case c31 => k_is); (case k31 => k_is)
    (case a32 => k_is); (case l32 => k_is); (case c32 => k_is); (case k32 => k_is); (case a33 => k_is); (case l33 => k_is); (case c33 => k_is); (case k33 => k_is)
    (case a34 => k_is); (case l34 => k_is); (case c34 => k_is); (case k34 => k_is); (case a35 => k_is); (case l35 => k_is); (case c35 => k_is); (case k35 => k_is)
    (case a36 => k_is); (case l36 => k_is); (case c36 => k_is); (case k36 => k_is); (case a37 => k_is); (case l37 => k_is); (case c37 => k_is); (case k37 => k_is)
    (case a38 => k_is); (case l38 => k_is); (case c38 => k_is); (case k38 => k_is); (case z1 => k_is); (case z2 => k_is); (case z3 => k_is); (case z4 => k_is)
    (case z5 => k_is); (case z6 => k_is); (case z7 => k_is); (case z8 => k_is); (case z9 => k_is); (case z10 => k_is); (case z11 => k_is); (case y1 => k_is)
    (case y2 => k_is); (case gBadBreaker => k_is); (case gBreakError => k_is); (case gBadText => k_is); (case iCBadText => k_is); (case tIBadText => k_is); (case ocBadText => first | rfl | k_is); (case osBadText => k_is)
    (case fnBadTextplace => k_is); (case kBadText => k_is); (case bBadText => k_is); (case tBadText => k_is); (case uBadText => k_is); (case vBadText => k_is); (case hBadText => k_is); (case wBadText => k_is)
    (case mBadText => k_is); (case eBadTextBadText => first | rfl | k_is); (case kBadTextBreakError => first | rfl | k_is); (case kBadTextValueError => first | rfl | k_is); (case kBadTextBadBreaker => first | rfl | k_is); (case sp1 => first | rfl | k_is); (case tk1 => first | rfl | k_is); (case gKINDS => k_is)
    (case lKINDS => k_is); (case vKINDS => rfl); (case l1 => k_is); (case c1 => k_is); (case k1 => k_is)
#print axioms PySem.Challenge.cw_breakback_k07_where_a_text_is_wrong_holds
