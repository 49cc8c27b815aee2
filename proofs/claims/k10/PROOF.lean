import PyProof.Rows.All
import Wide.All
import OpenK.AllK
import Wide.FinOn
import HandS.ForMost
import HandS.ForExc
import HandS.Codes
import HandS.Lambda
import HandS.EndTab
import HandS.IsInst
import HandS.ExcIs
import HandS.Wide
import HandS.SetFor
import HandS.TupMul
import HandS.Conv
import HandS.Zip
import KE.SortData
import KE.KDflt
import HandS.Walk
import HandS.WideBits
import HandS.Rev
import HandS.SetBool
import HandS.Strs
import PySem.Challenge.RW_windowdog_k10_whole_safe_with_the_fewest
set_option Elab.async false
set_option linter.all false
set_option maxRecDepth 100000
set_option maxHeartbeats 4000000
/-! The readings step by step; heaps in which one list (the drawing's) changes. -/
namespace Wd
open PySem PySem.Spec PyProof.Rows L2

/-! ### rules -/
section
variable {X : Cx} {a b c d : Expr} {ta tb tc td : TE} {pos : Pos}
def tChain3 (r r' r2 : R2) (ta tb tc td : TE) : TE := fun σ H Q => ta σ H fun x H1 => tb σ H1 fun y H2 => r x y H2 fun z H3 => ∃ k, z = .bl k ∧
  (if k = true then tc σ H3 fun w' H4 => r' y w' H4 fun z2 H5 => ∃ k2, z2 = .bl k2 ∧ (if k2 = true then td σ H5 fun w2 H6 => r2 w' w2 H6 Q else Q (.bl false) H5) else Q (.bl false) H3)
theorem pe_chain3 {op op' op2 : CmpOp} {r r' r2 : R2} (ho : OpR X (compareOp op) r) (ho' : OpR X (compareOp op') r') (ho2 : OpR X (compareOp op2) r2) (ha : PE X a ta) (hb : PE X b tb) (hc : PE X c tc) (hd : PE X d td)
    (hm : lastMarks [op, op', op2] [b, c, d] = false := by with_unfolding_all rfl) : PE X (.Compare a [op, op', op2] [b, c, d] pos) (tChain3 r r' r2 ta tb tc td) := by
  refine ⟨fun pins s σ H Q I h => ?_⟩
  refine Compare_chain (thn (ha.run pins s σ H _ I h) fun v s1 ⟨x, H1, I1, r1, q1⟩ => chain_link (thn (hb.run pins s1 σ H1 _ I1 q1) fun u s2 ⟨y, H2, I2, r2, q2⟩ =>
    thn (ho pins s2 σ H2 x y v u _ I2 r1 r2 q2) fun d s3 ⟨z, H3, I3, r3, k, e, q3⟩ => ?_)) hm
  subst e
  cases r3
  refine wpAny_truthy_bool ?_
  cases k with
  | false => exact ite_ff ⟨.bl false, H3, I3, rfl, q3⟩
  | true =>
    refine ite_tt (chain_link (thn (hc.run pins s3 σ H3 _ I3 q3) fun w' s4 ⟨z', H4, I4, r4, q4⟩ => thn (ho' pins s4 σ H4 y z' u w' _ I4 r2 r4 q4) fun d5 s5 ⟨z5, H5, I5, r5, k5, e5, q5⟩ => ?_))
    subst e5
    cases r5
    refine wpAny_truthy_bool ?_
    cases k5 with
    | false => exact ite_ff ⟨.bl false, H5, I5, rfl, q5⟩
    | true => exact ite_tt (chain_last (thn (hd.run pins s5 σ H5 _ I5 q5) fun w6 s6 ⟨z6, H6, I6, r6, q6⟩ => ho2 pins s6 σ H6 z' z6 w' w6 Q I6 r4 r6 q6))
end

section
variable {X : Cx} {K : PySem.W.Frag} {name : Str} {T id : String} {r : V → List V → Hp → VK → Prop} {o e : Expr} {es : List Expr} {to : TE} {t : TA} {apos cpos : Pos}
theorem pe_bmK (hK : X.K = K) (pa : PlainAttrs T) (slot : Slot T name id) (hty : typeOf (.builtin id) = pure (.type "method_descriptor")) (hm : MtR X id r) (ho : PE X o to) (ha : PA X (e :: es) t)
    (hbase : attributeBase o name X.env (eval o X.env) = eval o X.env := by rfl)
    (hfew : ((backTo cpos (starEach (e :: es) X.env)).all (fun x => !x.1) && (backToKw cpos (keywordEach [] X.env)).all (fun x => x.1.isSome)
      && decide ((e :: es).length + ([] : List Keyword).length + (if ([] : List Keyword).isEmpty then 0 else 1) < 30)) = true := by rfl)
    (hline : (apos.endLine == cpos.line) = true := by rfl) (hs : starEach (e :: es) X.env = (false, eval e X.env) :: starEach es X.env := by rfl) (hplain : (backTo cpos (starEach es X.env)).any (·.1) = false := by rfl) : PE X (.Call (.Attribute o name apos) (e :: es) [] cpos) (tBM K T r to t) := by
  subst hK; exact pe_bm pa slot hty hm ho ha hbase hfew hline hs hplain
theorem pe_bm0K (hK : X.K = K) (pa : PlainAttrs T) (slot : Slot T name id) (hty : typeOf (.builtin id) = pure (.type "method_descriptor")) (hm : MtR X id r) (ho : PE X o to)
    (hbase : attributeBase o name X.env (eval o X.env) = eval o X.env := by rfl) (hline : (apos.endLine == cpos.line) = true := by rfl) : PE X (.Call (.Attribute o name apos) [] [] cpos) (tBM0 K T r to) := by
  subst hK; exact pe_bm0 pa slot hty hm ho hbase hline
end

/-- a def of the module that may let an exception out -/
structure CalX (P : Program) (w : World) (K : PySem.W.Frag) (mg : Str → Option Value) (base : Heap) (k : Nat) (x : Str) (sp : Sp) : Prop where
  ex : ∃ (f : Addr) (fd : FuncData) (ps : List Str), FnOk P w K mg base (L2.CX P w) k f fd ps sp ∧ mg x = some (.ref f) ∧ PySem.W.keepIn K (.ref f) = true ∧ Binds K fd ps []
section
variable {X : Cx} {k j : Nat} {x : Str} {sp : Sp} {p pos : Pos} {e : Expr} {es : List Expr} {t : TA} {E : L2.St → XK}
theorem pe_cX (c : CalX X.prog X.w X.K X.mg X.base k x sp) (hr : Room j X.A) (hk : k ≤ j) (hg : Gl X x) (hx : ∀ σ, PassesAt (L2.CX X.prog X.w) X σ (E σ)) (ha : PA X (e :: es) t)
    (hdb : (x == ("__debug__" : Str)) = false := by decide) (he : starEach (e :: es) X.env = (false, eval e X.env) :: starEach es X.env := by rfl) (hpl : (backTo pos (starEach es X.env)).any (·.1) = false := by rfl) :
    PE X (.Call (.Name x p) (e :: es) [] pos) (tCallS sp E t) := by
  obtain ⟨f, fd, ps, F, hm, kp, b⟩ := c.ex
  exact pe_callS F (hr.mono hk) hg hm kp b hx ha hdb he hpl
end
section
variable {P : Program} {w : World} {K : PySem.W.Frag} {mg : Str → Option Value} {base : Heap}
/-- a def by its body, which may let an exception out -/
theorem calX {x : Str} {st : Stmt} {f : Addr} {fd : FuncData} {N ps : List Str} {k : Nat} {sp : Sp} (F : C8.Def K mg x st f fd) (b : Binds K fd ps []) (S : FnScope N ps (C8.fnScope st)) (len : ∀ vs H Q E, sp vs H Q E → vs.length = ps.length)
    (hbody : ∀ (cdv : Value) (A : Around) (outer : List Env) (s : Shared) (H : Hp) (vs : List V) (Q : VK) (E : XK), Room k (A.deeper (envOfC x (C8.fnScope st) s.heap.objs.size f cdv)) → sp vs H Q E →
      ∃ t, PSs (cxOf (L2.CX P w) P w K mg base N x (C8.fnScope st) f cdv A outer s H E) (C8.fnBody st) t ∧ t { nx := fun _ H' => Q .non H', rt := Q } (L2.start N vs) H) : CalX P w K mg base (k + 1) x sp := by
  refine ⟨f, fd, ps, ?_, F.mgf, F.kp, b⟩
  obtain ⟨oc, od, dV, kV, doc, pm, an, cdv, ct, osl, rfl, lk, hcd⟩ := F.fn.ex
  exact fn_of lk hcd S len fun A outer s H vs Q E hr hsp => hbody cdv A outer s H vs Q E hr hsp
end

/-! ### list.count of flat items -/
section
variable {X : Cx}
theorem count_eqU {x : V} : ∀ {xs : List V} {us : List Value}, Vals xs us → xs.all flatV = true → us.countP (eqU x) = xs.countP fun y => eqV y x
  | _, _, .nil, _ => rfl
  | y :: xs, u :: us, .cons r t, f => by
    rw [List.all_cons, Bool.and_eq_true] at f
    rw [List.countP_cons, List.countP_cons, eqU_of r f.1, count_eqU t f.2]
def rCntV (K : PySem.W.Frag) : V → List V → Hp → VK → Prop := fun x xs H Q => ∃ (p : Addr) (ys : List V) (y : V), x = .ref p ∧ xs = [y] ∧ SqL K H p ys ∧ flatV y = true ∧ ys.all flatV = true ∧ Q (.int ((ys.countP fun z => eqV z y : Nat) : Int)) H
theorem mt_lcountV : MtR X "list.count" (rCntV X.K) := by
  intro pins s σ H x xs v us Q I rx rxs h
  obtain ⟨p, ys, y, rfl, rfl, hs, fy, fys, q⟩ := h
  cases rx
  obtain ⟨u, rfl, ru⟩ := rxs.one
  obtain ⟨its, rv, ⟨⟨cls, dd, data, sl⟩, n, ho, hc, hdn, hd⟩, hlen⟩ := I.list hs
  simp only at hc hd
  subst hc hd
  refine call_meets PySem.F.slot_list_count ⟨_, ho, rfl⟩ PySem.F.entry_list_count (PySem.F.args_list_count_2 _ _)
    (SeqAt.list_countAt p its.toArray n dd sl u (eqU y)) ⟨ho, fun u' hu' => mem_eqAt ru fy rv fys u' (by simpa using hu'), ?_⟩
  have ec : its.toArray.toList.countP (eqU y) = ys.countP fun z => eqV z y := count_eqU rv fys
  refine ⟨.int (ys.countP fun z => eqV z y : Nat), H, I.tok _, ⟨s.toks, ?_⟩, q⟩
  show Value.int ((its.toArray.toList.countP (eqU y) : Nat) : Int) s.toks = Value.int ((ys.countP fun z => eqV z y : Nat) : Int) s.toks
  rw [ec]
end

/-! ### isinstance of a caught error, its class told by the reading -/
def rIsE2 (K : PySem.W.Frag) (cls : Value) (d : Option Addr) (a : Addr) : List V → Hp → VK → Prop := fun xs H Q => ∃ (D : Addr) (c : V) (cv : Value) (b : Bool), cls = .ref D ∧ d = none ∧ ExcC K D ∧ xs = [.ref a, c] ∧ (∀ u, RelV c u → u = cv) ∧ PySem.W.kitOne K (.ref D) cv = some b ∧ Q (.bl b) H
theorem call_isE2 {X : Cx} {a : Addr} {cls : Value} {d : Option Addr} {oe : Obj} {pn : List (Addr × Obj)} (hz : Zc cls d oe) (hf : ∃ vs, oe.data = .fields vs) : CallR (X.suite a ((a, oe) :: pn)) (.builtin "isinstance") (rIsE2 X.K cls d a) := by
  intro pins s σ H xs us Q I r h
  obtain ⟨D, c, cv, b, rfl, rfl, C, e, hcv, hk, q⟩ := h
  exact call_isE C hz hf pins s σ H xs us Q I r ⟨c, cv, b, e, hcv, hk, q⟩

/-- where an exception is, the slots are as many as the names -/
theorem takes_len {X : Cx} {W : WX} (t : Takes X W) : Takes X (fun c d σ H => σ.length = X.N.length → W c d σ H) := fun u s' x => by
  obtain ⟨a, B, sI, pins, σ, H, cls, d, e, I, x1, x2, x3, x4, x5, x6, q⟩ := x
  exact t u s' ⟨a, B, sI, pins, σ, H, cls, d, e, I, x1, x2, x3, x4, x5, x6, q I.len⟩

/-! ### built-ins by name -/
def rLen (K : PySem.W.Frag) : List V → Hp → VK → Prop := fun xs H Q => ∃ p ys, xs = [.ref p] ∧ (SqL K H p ys ∨ SqT K H p ys) ∧ Q (.int ys.length) H
theorem call_len1 {X : Cx} : CallR X (.builtin "len") (rLen X.K) := call_len_seq
def rListOf (K : PySem.W.Frag) : List V → Hp → VK → Prop := fun xs H Q => ∃ p ys, xs = [.ref p] ∧ (SqL K H p ys ∨ SqT K H p ys) ∧ ∀ l, H l = none → Q (.ref l) (upd H l (.lst ys))
theorem call_list1 {X : Cx} : CallR X (.type "list") (rListOf X.K) := call_list_of
def rMax2 : List V → Hp → VK → Prop := fun xs H Q => ∃ i j, xs = [.int i, .int j] ∧ Q (.int (if j > i then j else i)) H
theorem call_max1 {X : Cx} (hc : X.calm = true) : CallR X (.builtin "max") rMax2 := call_max2 hc
def rMin2 : List V → Hp → VK → Prop := fun xs H Q => ∃ i j, xs = [.int i, .int j] ∧ Q (.int (if j < i then j else i)) H
theorem call_min1 {X : Cx} (hc : X.calm = true) : CallR X (.builtin "min") rMin2 := call_min2 hc
def rInt1 : List V → Hp → VK → Prop := fun xs H Q => (∃ i, xs = [.int i] ∧ Q (.int i) H) ∨ ∃ k, xs = [.bl k] ∧ Q (.int (if k then 1 else 0)) H
theorem call_intB {X : Cx} : CallR X (.type "int") rInt1 := call_int1

def rIsN : R2 := fun x y H Q => y = .non ∧ Q (.bl (decide (x = .non))) H
theorem op_isN1 {X : Cx} : OpR X (compareOp .Is) rIsN := op_isN
def rNotN : R2 := fun x y H Q => y = .non ∧ Q (.bl (!decide (x = .non))) H
theorem op_notN1 {X : Cx} : OpR X (compareOp .IsNot) rNotN := op_notN

/-! ### steps -/
section
variable {σ : L2.St} {H : Hp} {Q : VK} {QB : Bool → Hp → Prop} {QA : List V → Hp → Prop} {i : Nat} {v x y : V} {ta tb tc te : TE} {t u : TT} {ts us : TS} {D : Ends} {n m : Int} {K : PySem.W.Frag} {r r' r2 : R2}
theorem g_var (h : σ[i]? = some (some v)) (q : Q v H) : tVar i σ H Q := ⟨v, h, q⟩
theorem g_c (q : Q v H) : tC v σ H Q := q
theorem g_op (h : ta σ H fun x H1 => tb σ H1 fun y H2 => r x y H2 Q) : tOp r ta tb σ H Q := h
theorem g_un {r : V → Hp → VK → Prop} (h : ta σ H fun x H1 => r x H1 Q) : tUn r ta σ H Q := h
theorem g_I0 {g : Int → Int → V} (q : Q (g n m) H) : rI0 g (.int n) (.int m) H Q := ⟨n, m, rfl, rfl, q⟩
theorem g_I {C : Int → Int → Prop} {g : Int → Int → V} (c : C n m) (q : Q (g n m) H) : rI C g (.int n) (.int m) H Q := ⟨n, m, rfl, rfl, c, q⟩
theorem g_U {g : Int → V} (q : Q (g n) H) : rU g (.int n) H Q := ⟨n, rfl, q⟩
theorem g_eqI (q : Q (.bl (decide (n = m))) H) : rEq (.int n) (.int m) H Q := ⟨rfl, by
  have e : decide (V.int n = V.int m) = decide (n = m) := by by_cases h : n = m <;> simp [h]
  rw [e]; exact q⟩
theorem g_neI (q : Q (.bl (!decide (n = m))) H) : rNe (.int n) (.int m) H Q := ⟨rfl, by
  have e : decide (V.int n = V.int m) = decide (n = m) := by by_cases h : n = m <;> simp [h]
  rw [e]; exact q⟩
theorem g_eqS {a b : Str} (q : Q (.bl (decide (a = b))) H) : rEq (.str a) (.str b) H Q := ⟨rfl, by
  have e : decide (V.str a = V.str b) = decide (a = b) := by by_cases h : a = b <;> simp [h]
  rw [e]; exact q⟩
theorem g_neS {a b : Str} (q : Q (.bl (!decide (a = b))) H) : rNe (.str a) (.str b) H Q := ⟨rfl, by
  have e : decide (V.str a = V.str b) = decide (a = b) := by by_cases h : a = b <;> simp [h]
  rw [e]; exact q⟩
theorem g_eqB {a b : Bool} (q : Q (.bl (a == b)) H) : rEq (.bl a) (.bl b) H Q := ⟨rfl, by
  have e : decide (V.bl a = V.bl b) = (a == b) := by cases a <;> cases b <;> rfl
  rw [e]; exact q⟩
theorem g_neB {a b : Bool} (q : Q (.bl (a != b)) H) : rNe (.bl a) (.bl b) H Q := ⟨rfl, by
  have e : (!decide (V.bl a = V.bl b)) = (a != b) := by cases a <;> cases b <;> rfl
  rw [e]; exact q⟩
theorem g_isN (q : Q (.bl (decide (x = .non))) H) : rIsN x .non H Q := ⟨rfl, q⟩
theorem g_notN (q : Q (.bl (!decide (x = .non))) H) : rNotN x .non H Q := ⟨rfl, q⟩
theorem g_test (h : te σ H fun x H' => ∃ k, x = .bl k ∧ QB k H') : tTest te σ H QB := h
theorem g_tB (h : te σ H fun x H' => ∃ k, x = .bl k ∧ QB k H') : tB te σ H QB := h
theorem g_bl {b : Bool} (q : QB b H) : ∃ k, V.bl b = .bl k ∧ QB k H := ⟨b, rfl, q⟩
theorem g_and (h : t σ H fun c H1 => if c = true then u σ H1 QB else QB false H1) : tAnd t u σ H QB := h
theorem g_or (h : t σ H fun c H1 => if c = true then QB true H1 else u σ H1 QB) : tOr t u σ H QB := h
theorem g_not (h : t σ H fun c H1 => QB (!c) H1) : tNot t σ H QB := h
theorem g_andV (h : ta σ H fun x H1 => ∃ c, x = .bl c ∧ if c = true then tb σ H1 Q else Q (.bl false) H1) : tAndV ta tb σ H Q := h
theorem g_orV (h : ta σ H fun x H1 => ∃ c, x = .bl c ∧ if c = true then Q (.bl true) H1 else tb σ H1 Q) : tOrV ta tb σ H Q := h
theorem g_notV (h : ta σ H fun x H1 => ∃ c, x = .bl c ∧ Q (.bl (!c)) H1) : tNotV ta σ H Q := h
theorem g_blI {b : Bool} {p : Bool → Prop} (q : p b) : ∃ k, V.bl b = .bl k ∧ p k := ⟨b, rfl, q⟩
theorem g_if (h : t σ H fun c H1 => if c = true then ta σ H1 Q else tb σ H1 Q) : tIf t ta tb σ H Q := h
theorem g_chain (h : ta σ H fun x H1 => tb σ H1 fun y H2 => r x y H2 fun z H3 => ∃ k, z = .bl k ∧ (if k = true then tc σ H3 fun w' H4 => r' y w' H4 Q else Q (.bl false) H3)) : tChain r r' ta tb tc σ H Q := h
theorem g_chain3 {td : TE} (h : ta σ H fun x H1 => tb σ H1 fun y H2 => r x y H2 fun z H3 => ∃ k, z = .bl k ∧
  (if k = true then tc σ H3 fun w' H4 => r' y w' H4 fun z2 H5 => ∃ k2, z2 = .bl k2 ∧ (if k2 = true then td σ H5 fun w2 H6 => r2 w' w2 H6 Q else Q (.bl false) H5) else Q (.bl false) H3)) : tChain3 r r' r2 ta tb tc td σ H Q := h
theorem g_nil (q : QA [] H) : tNil σ H QA := q
theorem g_cons {tr : TA} (h : ta σ H fun x H1 => tr σ H1 fun xs H2 => QA (x :: xs) H2) : tCons ta tr σ H QA := h
theorem g_tup {tr : TA} (h : tr σ H fun xs H1 => xs.length ≤ sizeLine ∧ ∀ p, H1 p = none → Q (.ref p) (upd H1 p (.tup xs))) : tTup tr σ H Q := h
theorem g_lst {tr : TA} (h : tr σ H fun xs H1 => xs.length ≤ sizeLine ∧ ∀ p, H1 p = none → Q (.ref p) (upd H1 p (.lst xs))) : tLst tr σ H Q := h
theorem g_CB {r : List V → Hp → VK → Prop} {tr : TA} (h : tr σ H fun vs H1 => r vs H1 Q) : tCB r tr σ H Q := h
theorem g_call {sp : Sp} {dvs : List V} {E : XK} {tr : TA} (h : tr σ H fun vs H1 => sp (vs ++ dvs) H1 Q E) : tCall sp dvs E tr σ H Q := h
theorem g_callS {sp : Sp} {E : L2.St → XK} {tr : TA} (h : tr σ H fun vs H1 => sp vs H1 Q (E σ)) : tCallS sp E tr σ H Q := h
theorem g_bm {T : String} {r : V → List V → Hp → VK → Prop} {tr : TA} (h : ta σ H fun x H1 => tyV K T x H1 ∧ tr σ H1 fun xs H2 => r x xs H2 Q) : tBM K T r ta tr σ H Q := h
theorem g_bm0 {T : String} {r : V → List V → Hp → VK → Prop} (h : ta σ H fun x H1 => tyV K T x H1 ∧ r x [] H1 Q) : tBM0 K T r ta σ H Q := h
theorem g_sl {r : V → Option Int → Option Int → Hp → VK → Prop} {tl th : TO} (h : te σ H fun x H1 => tl σ H1 fun l H2 => th σ H2 fun u H3 => r x l u H3 Q) : tSl r te tl th σ H Q := h
theorem g_part {QO : Option Int → Hp → Prop} (h : te σ H fun x H1 => ∃ i, x = .int i ∧ QO (some i) H1) : tPart te σ H QO := h
theorem g_part1 {p : Int → Prop} (h : p n) : ∃ i, V.int n = .int i ∧ p i := ⟨n, rfl, h⟩
theorem g_noPart {QO : Option Int → Hp → Prop} (h : QO none H) : tNoPart σ H QO := h
-- statements
theorem g_seq {a : L2.St → Hp → Prop} {b : VK} {c d : L2.St → Hp → Prop} (h : ts ⟨us ⟨a, b, c, d⟩, b, c, d⟩ σ H) : tSeq ts us ⟨a, b, c, d⟩ σ H := h
theorem g_fit {xs : List V} {R : Addr → Prop} (hl : Nat.ble xs.length 1000 = true) (q : ∀ p, H p = none → R p) : xs.length ≤ sizeLine ∧ ∀ p, H p = none → R p := ⟨Nat.le_trans (Nat.le_of_ble_eq_true hl) (by decide), q⟩
theorem g_next (h : D.nx σ H) : tNext D σ H := h
theorem g_asg {g : TG} (h : te σ H fun x H1 => g x σ H1 D.nx) : tAsg te g D σ H := h
theorem g_name {Qg : L2.St → Hp → Prop} (h : Qg (σ.set i (some v)) H) : gName i v σ H Qg := h
theorem g_sub {to ti : TE} {t : TSet} {Qg : L2.St → Hp → Prop} (h : to σ H fun o H1 => ti σ H1 fun i H2 => t o i v H2 fun H3 => Qg σ H3) : gSub to ti t v σ H Qg := h
theorem g_gnil {Qg : L2.St → Hp → Prop} (h : Qg σ H) : gNil [] σ H Qg := ⟨rfl, h⟩
theorem g_gcons {tg : TG} {ug : TGs} {vs : List V} {Qg : L2.St → Hp → Prop} (h : tg v σ H fun σ' H' => ug vs σ' H' Qg) : gCons tg ug (v :: vs) σ H Qg := ⟨v, vs, rfl, h⟩
theorem g_drop (h : te σ H fun _ H1 => D.nx σ H1) : tDrop te D σ H := h
theorem g_ret (h : te σ H D.rt) : tRet te D σ H := h
theorem g_retN (h : D.rt .non H) : tRetN D σ H := h
theorem g_brk (h : D.bk σ H) : tBreak D σ H := h
theorem g_cont (h : D.ct σ H) : tCont D σ H := h
theorem g_ifS (h : t σ H fun b H1 => if b = true then ts D σ H1 else us D σ H1) : tIfS t ts us D σ H := h
theorem g_nx {a : L2.St → Hp → Prop} {b : VK} {c d : L2.St → Hp → Prop} (h : a σ H) : Ends.nx ⟨a, b, c, d⟩ σ H := h
theorem g_bk {a : L2.St → Hp → Prop} {b : VK} {c d : L2.St → Hp → Prop} (h : c σ H) : Ends.bk ⟨a, b, c, d⟩ σ H := h
theorem g_ct {a : L2.St → Hp → Prop} {b : VK} {c d : L2.St → Hp → Prop} (h : d σ H) : Ends.ct ⟨a, b, c, d⟩ σ H := h
theorem g_rt {a : L2.St → Hp → Prop} {b : VK} {c d : L2.St → Hp → Prop} (h : b v H) : Ends.rt ⟨a, b, c, d⟩ v H := h
theorem g_rng1 {tr : TA} {R : It → Hp → Prop} (h : tr σ H fun vs H1 => ∃ j : Int, vs = [.int j] ∧ -(2 ^ 62) ≤ j ∧ j < 2 ^ 62 ∧ R (Itr 0 j.toNat) H1) : iRng1 tr σ H R := h
theorem g_rng2 {tr : TA} {R : It → Hp → Prop} (h : tr σ H fun vs H1 => ∃ i j : Int, vs = [.int i, .int j] ∧ (-(2 ^ 62) ≤ i ∧ i < 2 ^ 62 ∧ -(2 ^ 62) ≤ j ∧ j < 2 ^ 62) ∧ R (Itr i (j - i).toNat) H1) : iRng2 tr σ H R := h
theorem g_iList {R : It → Hp → Prop} (h : te σ H fun x H1 => ∃ a, x = .ref a ∧ (∃ xs, SqL K H1 a xs) ∧ R (Itl K a) H1) : iList K te σ H R := h
theorem g_iTup {R : It → Hp → Prop} (h : te σ H fun x H1 => ∃ a, x = .ref a ∧ (∃ xs, SqT K H1 a xs) ∧ R (Itt K a) H1) : iTup K te σ H R := h
def ForEnd (g : TG) (tb : TS) (a : L2.St → Hp → Prop) (b : VK) (σ : L2.St) (J : It) (H1 : Hp) : Prop := ∃ W : Nat → Nat → L2.St → Hp → Prop, (∃ m, W 0 m σ H1) ∧ ∀ i m σ H, W i m σ H →
  (J.stop i H ∧ a σ H) ∨ (J.go i H ∧ ∃ N : L2.St → Hp → Prop, (∀ σ' H', N σ' H' → ∃ m', m' < m ∧ W (i + 1) m' σ' H') ∧ ∀ x H', J.yld i H x H' → g x σ H' fun σ2 H2 => tb ⟨N, b, a, N⟩ σ2 H2)
theorem g_for {a : L2.St → Hp → Prop} {b : VK} {c d : L2.St → Hp → Prop} {wi : TI} {g : TG} {tb : TS} (h : wi σ H (ForEnd g tb a b σ)) : tFor wi g tb ⟨a, b, c, d⟩ σ H := h
theorem w_list {a : L2.St → Hp → Prop} {b : VK} {g : TG} {tb : TS} {p : Addr} {xs : List V} (Pv : Nat → L2.St → Hp → Prop) (h0 : Pv 0 σ H) (hl : ∀ i σ H, i ≤ xs.length → Pv i σ H → SqL K H p xs)
    (hs : ∀ i x σ H, xs[i]? = some x → Pv i σ H → g x σ H fun σ2 H2 => tb ⟨Pv (i + 1), b, a, Pv (i + 1)⟩ σ2 H2) (hd : ∀ σ H, Pv xs.length σ H → a σ H) : ∃ q, V.ref p = .ref q ∧ (∃ xs, SqL K H q xs) ∧ ForEnd g tb a b σ (Itl K q) H :=
  ⟨p, rfl, ⟨xs, hl 0 σ H (Nat.zero_le _) h0⟩, for_list (D := ⟨a, b, fun _ _ => False, fun _ _ => False⟩) Pv h0 hl hs hd⟩
theorem w_tup {a : L2.St → Hp → Prop} {b : VK} {g : TG} {tb : TS} {p : Addr} {xs : List V} (Pv : Nat → L2.St → Hp → Prop) (h0 : Pv 0 σ H) (hl : ∀ i σ H, i ≤ xs.length → Pv i σ H → SqT K H p xs)
    (hs : ∀ i x σ H, xs[i]? = some x → Pv i σ H → g x σ H fun σ2 H2 => tb ⟨Pv (i + 1), b, a, Pv (i + 1)⟩ σ2 H2) (hd : ∀ σ H, Pv xs.length σ H → a σ H) : ∃ q, V.ref p = .ref q ∧ (∃ xs, SqT K H q xs) ∧ ForEnd g tb a b σ (Itt K q) H :=
  ⟨p, rfl, ⟨xs, hl 0 σ H (Nat.zero_le _) h0⟩, for_tup (D := ⟨a, b, fun _ _ => False, fun _ _ => False⟩) Pv h0 hl hs hd⟩
/-- range(n) -/
theorem w_range {a : L2.St → Hp → Prop} {b : VK} {g : TG} {tb : TS} {n : Int} (h1 : -(2 ^ 62) ≤ n) (h2 : n < 2 ^ 62) (Pv : Nat → L2.St → Hp → Prop) (h0 : Pv 0 σ H)
    (hs : ∀ i σ H, i < n.toNat → Pv i σ H → g (.int i) σ H fun σ2 H2 => tb ⟨Pv (i + 1), b, a, Pv (i + 1)⟩ σ2 H2) (hd : ∀ σ H, Pv n.toNat σ H → a σ H) :
    ∃ j : Int, [V.int n] = [.int j] ∧ -(2 ^ 62) ≤ j ∧ j < 2 ^ 62 ∧ ForEnd g tb a b σ (Itr 0 j.toNat) H :=
  ⟨n, rfl, h1, h2, for_range (D := ⟨a, b, fun _ _ => False, fun _ _ => False⟩) Pv h0 (fun i σ H hi p => by have q := hs i σ H hi p; rw [Int.zero_add]; exact q) hd⟩
theorem w_while {a : L2.St → Hp → Prop} {b : VK} {c d : L2.St → Hp → Prop} {tc : TT} {tb : TS} (Pv : L2.St → Hp → Prop) (μ : L2.St → Hp → Nat) (h0 : Pv σ H)
    (hs : ∀ σ H, Pv σ H → tc σ H fun b' H1 => if b' = true then tb ⟨fun σ' H' => Pv σ' H' ∧ μ σ' H' < μ σ H, b, a, fun σ' H' => Pv σ' H' ∧ μ σ' H' < μ σ H⟩ σ H1 else a σ H1)
    (mono : ∀ σ H Q Q', (∀ b H1, Q b H1 → Q' b H1) → tc σ H Q → tc σ H Q') : tWhile tc tb ⟨a, b, c, d⟩ σ H := while_by Pv μ h0 hs mono
theorem g_itT {b : Bool} {A B : Prop} (h : b = true) (q : A) : if b = true then A else B := by rw [h]; exact iteT q
theorem g_itF {b : Bool} {A B : Prop} (h : b = false) (q : B) : if b = true then A else B := by rw [h]; exact iteF q
theorem g_ite {c : Prop} [Decidable c] {A B : Prop} (h1 : c → A) (h2 : ¬ c → B) : if decide c = true then A else B := by
  by_cases h : c
  · rw [decide_eq_true h]; exact iteT (h1 h)
  · rw [decide_eq_false h]; exact iteF (h2 h)
theorem g_iteN {c : Prop} [Decidable c] {A B : Prop} (h1 : ¬ c → A) (h2 : c → B) : if (!decide c) = true then A else B := by
  by_cases h : c
  · rw [decide_eq_true h]; exact iteF (h2 h)
  · rw [decide_eq_false h]; exact iteT (h1 h)
theorem g_len {p : Addr} {xs : List V} (h : SqL K H p xs ∨ SqT K H p xs) (q : Q (.int xs.length) H) : rLen K [.ref p] H Q := ⟨p, xs, rfl, h, q⟩
theorem g_ixL {p : Addr} {xs : List V} (h : SqL K H p xs) (ha : atI xs n = some v) (q : Q v H) : rIxL K (.ref p) (.int n) H Q := ⟨p, xs, n, v, rfl, rfl, h, ha, q⟩
theorem g_ixT {p : Addr} {xs : List V} (h : SqT K H p xs) (ha : atI xs n = some v) (q : Q v H) : rIxT K (.ref p) (.int n) H Q := ⟨p, xs, n, v, rfl, rfl, h, ha, q⟩
theorem g_setL {p : Addr} {xs : List V} {j : Nat} {q : Hp → Prop} (h : H p = some (.lst xs)) (hj : ixN xs.length n = some j) (k : q (upd H p (.lst (xs.set j v)))) : rSetL (.ref p) (.int n) v H q := ⟨p, xs, n, j, rfl, rfl, h, hj, k⟩
theorem mulW_small {i j : Int} (h1 : 0 ≤ i) (h2 : i < 2147483648) (h3 : 0 ≤ j) (h4 : j < 2147483648) : CMulW i j := wide_mul (a := 31) (b := 31) (by show _ < 2147483648; omega) (by show _ < 2147483648; omega) (by decide) (by decide) (by decide)
theorem divW_small {i j : Int} (h1 : 0 < j) (h2 : j < 10 ^ 38) : CDivW i j := wide_div (b := 127) h1 (by show _ < (2 : Nat) ^ 127; omega) (by decide) (by decide)
theorem g_append {p : Addr} {xs : List V} (h : H p = some (.lst xs)) (hl : xs.length < 100000) (q : Q .non (upd H p (.lst (xs ++ [v])))) : rAppend (.ref p) [v] H Q := ⟨p, xs, v, rfl, rfl, h, Nat.lt_of_lt_of_le hl (by decide), q⟩
theorem g_tyL {p : Addr} {xs : List V} {R : Prop} (h : H p = some (.lst xs)) (q : R) : tyV K "list" (.ref p) H ∧ R := ⟨.inl ⟨rfl, _, SqL.of h⟩, q⟩
theorem g_listOf {p : Addr} {xs : List V} (h : SqL K H p xs) (q : ∀ l, H l = none → Q (.ref l) (upd H l (.lst xs))) : rListOf K [.ref p] H Q := ⟨p, xs, rfl, .inl h, q⟩
theorem g_listOfT {p : Addr} {xs : List V} (h : SqT K H p xs) (q : ∀ l, H l = none → Q (.ref l) (upd H l (.lst xs))) : rListOf K [.ref p] H Q := ⟨p, xs, rfl, .inr h, q⟩
theorem g_int1B {b : Bool} (q : Q (.int (if b then 1 else 0)) H) : rInt1 [.bl b] H Q := .inr ⟨b, rfl, q⟩
theorem g_gtup {p : Addr} {xs : List V} {k : Nat} {tg : TGs} {Qg : L2.St → Hp → Prop} (h : SqT K H p xs) (hl : xs.length = k) (q : tg xs σ H Qg) : gTup K k tg (.ref p) σ H Qg := ⟨p, xs, rfl, h, hl, q⟩
theorem g_isi {c : V} {tv uv : Value} {b : Bool} (h1 : ClsV c uv) (h2 : TyX K H x tv) (h3 : PySem.W.kitOne K tv uv = some b) (q : Q (.bl b) H) : rIsi K [x, c] H Q := ⟨x, c, tv, uv, b, rfl, h1, h2, h3, q⟩
theorem g_max2 (q : Q (.int (if m > n then m else n)) H) : rMax2 [.int n, .int m] H Q := ⟨n, m, rfl, q⟩
theorem g_min2 (q : Q (.int (if m < n then m else n)) H) : rMin2 [.int n, .int m] H Q := ⟨n, m, rfl, q⟩
end

/-! ### heaps in which the list at S changes -/
def Frm (S : Addr) (H H' : Hp) : Prop := ∀ b o, b ≠ S → H b = some o → H' b = some o
theorem Frm.refl (S : Addr) (H : Hp) : Frm S H H := fun _ _ _ h => h
theorem Frm.trans {S : Addr} {H H1 H2 : Hp} (a : Frm S H H1) (b : Frm S H1 H2) : Frm S H H2 := fun c o n h => b c o n (a c o n h)
theorem Frm.of {S : Addr} {H H' : Hp} (e : Same H H') : Frm S H H' := fun b o _ h => e b o h
theorem Frm.set {S : Addr} {H : Hp} {o : HO} : Frm S H (upd H S o) := fun b u n h => by rw [upd_ne n]; exact h
theorem same_new {H : Hp} {p : Addr} {o : HO} (h : H p = none) : Same H (upd H p o) := fun b u e => by rw [upd_ne (ne_of_none e h)]; exact e
/-- what may be read at a, whatever becomes of S -/
def ScL (K : PySem.W.Frag) (S : Addr) (H : Hp) (a : Addr) (xs : List V) : Prop := (a ≠ S ∧ Rd H a (.lst xs)) ∨ ∀ H', SqL K H' a xs
theorem ScL.sq {K : PySem.W.Frag} {S : Addr} {H : Hp} {a : Addr} {xs : List V} (h : ScL K S H a xs) : SqL K H a xs := by
  rcases h with ⟨_, h⟩ | h
  · exact .inl h
  · exact h H
theorem ScL.frm {K : PySem.W.Frag} {S : Addr} {H H' : Hp} {a : Addr} {xs : List V} (h : ScL K S H a xs) (f : Frm S H H') : ScL K S H' a xs := by
  rcases h with ⟨n, h⟩ | h
  · refine .inl ⟨n, ?_⟩
    rcases h with h | ⟨o, h⟩
    · exact .inl (f _ _ n h)
    · exact .inr ⟨o, f _ _ n h⟩
  · exact .inr h
theorem ScL.of {K : PySem.W.Frag} {S : Addr} {H H' : Hp} {a : Addr} {xs : List V} (h : SqL K H a xs) (e : Same H H') (n : H S = none) : ScL K S H' a xs := by
  rcases h with h | h
  · rcases h with h | ⟨o, h⟩
    · exact .inl ⟨ne_of_none h n, .inl (e _ _ h)⟩
    · exact .inl ⟨ne_of_none h n, .inr ⟨o, e _ _ h⟩⟩
  · exact .inr fun H' => .inr h
/-- the drawing's state at S; what B tracks stands as it stood -/
def Dst (K : PySem.W.Frag) (B H : Hp) (S : Addr) : Prop := ∃ (sc : Addr) (ns : List Int) (c m r : Int), H S = some (.lst [.ref sc, .int c, .int m, .int r]) ∧ ScL K S B sc (ns.map V.int) ∧ Frm S B H ∧ ns.length ≤ 63 ∧ 0 ≤ c ∧ 0 ≤ m ∧ m < 2147483647
theorem Dst.same {K : PySem.W.Frag} {B H H' : Hp} {S : Addr} (d : Dst K B H S) (e : Same H H') : Dst K B H' S := by
  obtain ⟨sc, ns, c, m, r, h1, h2, h3, h4⟩ := d
  exact ⟨sc, ns, c, m, r, e _ _ h1, h2, h3.trans (.of e), h4⟩
theorem Dst.has {K : PySem.W.Frag} {B H : Hp} {S : Addr} (d : Dst K B H S) : H S ≠ none := by
  obtain ⟨sc, ns, c, m, r, h1, _⟩ := d
  rw [h1]; exact fun z => nomatch z
theorem Dst.ne {K : PySem.W.Frag} {B H : Hp} {S p : Addr} (d : Dst K B H S) (h : H p = none) : p ≠ S := fun e => d.has (e ▸ h)
theorem Dst.fresh {K : PySem.W.Frag} {B H : Hp} {S p : Addr} (d : Dst K B H S) (h : H p = none) : B p = none := by
  have n := d.ne h
  obtain ⟨sc, ns, c, m, r, h1, h2, h3, h4⟩ := d
  cases e : B p with
  | none => rfl
  | some o => rw [h3 p o n e] at h; cases h
/-- a thing that B does not know changes -/
theorem Dst.mut {K : PySem.W.Frag} {B H : Hp} {S p : Addr} {o : HO} (d : Dst K B H S) (n : p ≠ S) (h : B p = none) : Dst K B (upd H p o) S := by
  obtain ⟨sc, ns, c, m, r, h1, h2, h3, h4⟩ := d
  refine ⟨sc, ns, c, m, r, ?_, h2, fun b u hb e => ?_, h4⟩
  · rw [upd_ne n.symm]; exact h1
  · rw [upd_ne (ne_of_none e h)]; exact h3 b u hb e
theorem Frm.mut {S p : Addr} {H H' : Hp} {o : HO} (f : Frm S H H') (h : H p = none) : Frm S H (upd H' p o) := fun b u n e => by
  rw [upd_ne (ne_of_none e h)]; exact f b u n e
theorem Frm.new {S p : Addr} {H : Hp} {o : HO} (h : H p = none) : Frm S H (upd H p o) := .of (same_new h)
theorem Frm.back {S p : Addr} {H H' : Hp} (f : Frm S H H') (n : p ≠ S) (h : H' p = none) : H p = none := by
  cases e : H p with
  | none => rfl
  | some o => rw [f p o n e] at h; cases h
theorem Same.back {H H' : Hp} {p : Addr} (f : Same H H') (h : H' p = none) : H p = none := by
  cases e : H p with
  | none => rfl
  | some o => rw [f p o e] at h; cases h
theorem Same.mut {H H' : Hp} {p : Addr} {o : HO} (f : Same H H') (h : H p = none) : Same H (upd H' p o) := fun b u e => by
  rw [upd_ne (ne_of_none e h)]; exact f b u e
theorem pow_small {i j : Int} (h0 : 0 ≤ j) (h1 : j ≤ 1000) (h2 : i.natAbs < 2 ^ 32) : CPow i j := ⟨h0, by omega, Nat.lt_trans h2 (by decide)⟩
theorem atI_mem {xs : List V} {z : Int} (h0 : 0 ≤ z) (h1 : z < xs.length) : ∃ x, x ∈ xs ∧ atI xs z = some x := by
  have hl : z.toNat < xs.length := by omega
  exact ⟨xs[z.toNat], List.getElem_mem hl, at_of (j := z.toNat) (by omega) (List.getElem?_eq_getElem hl)⟩
theorem map_at {ns : List Int} {i : Nat} {x : V} (h : (ns.map V.int)[i]? = some x) : ∃ n, ns[i]? = some n ∧ x = V.int n := by
  rw [List.getElem?_map] at h
  cases hq : ns[i]? with
  | none => rw [hq] at h; cases h
  | some z => rw [hq] at h; exact ⟨z, rfl, (Option.some.inj h).symm⟩
/-- what stands beside S -/
def Live (S : Addr) (H : Hp) (L : List (Addr × HO)) : Prop := ∀ p ∈ L, p.1 ≠ S ∧ H p.1 = some p.2
theorem Live.nil {S : Addr} {H : Hp} : Live S H [] := fun _ h => (List.not_mem_nil h).elim
theorem Live.frm {S : Addr} {H H' : Hp} {L : List (Addr × HO)} (l : Live S H L) (f : Frm S H H') : Live S H' L := fun p h => ⟨(l p h).1, f _ _ (l p h).1 (l p h).2⟩
theorem Live.cons {S : Addr} {H : Hp} {L : List (Addr × HO)} {a : Addr} {o : HO} (l : Live S H L) (n : a ≠ S) (h : H a = some o) : Live S H ((a, o) :: L) := fun p hp => by
  rcases List.mem_cons.mp hp with e | e
  · subst e; exact ⟨n, h⟩
  · exact l p e
theorem Live.get {S : Addr} {H : Hp} {L : List (Addr × HO)} (l : Live S H L) (i : Nat) {a : Addr} {o : HO} (h : L[i]? = some (a, o)) : H a = some o := (l _ (List.mem_of_getElem? h)).2
theorem Live.ne {S : Addr} {H : Hp} {L : List (Addr × HO)} (l : Live S H L) (i : Nat) {a : Addr} {o : HO} (h : L[i]? = some (a, o)) : a ≠ S := (l _ (List.mem_of_getElem? h)).1
/-- a new object is laid -/
theorem Live.new {S : Addr} {H : Hp} {L : List (Addr × HO)} {p : Addr} {o : HO} (l : Live S H L) (hp : H p = none) (hS : H S ≠ none) : Live S (upd H p o) ((p, o) :: L) :=
  (l.frm (.of (same_new hp))).cons (fun e => hS (e ▸ hp)) upd_same

/-! ### == of data -/
section
variable {K : PySem.W.Frag} {H : Hp} {Q : VK}
theorem dpAll_ints : ∀ ns : List Int, DpAll K H (ns.map V.int) (ns.map PyData.int)
  | [] => .nil
  | n :: ns => .cons (.int n) (dpAll_ints ns)
theorem dp_ints {a : Addr} {ns : List Int} (h : SqL K H a (ns.map V.int)) : Dp K H (.ref a) (.list (ns.map PyData.int)) := .lst h (dpAll_ints ns)
theorem eqvAll_ints : ∀ ns ms : List Int, PyData.eqvAll (ns.map PyData.int) (ms.map PyData.int) = decide (ns = ms)
  | [], [] => by simp [PyData.eqvAll]
  | [], _ :: _ => by simp [PyData.eqvAll]
  | _ :: _, [] => by simp [PyData.eqvAll]
  | n :: ns, m :: ms => by
    have ih := eqvAll_ints ns ms
    simp only [List.map_cons, PyData.eqvAll, ih, PyData.eqv]
    by_cases h1 : n = m <;> by_cases h2 : ns = ms <;> simp [h1, h2]
theorem eqv_ints (ns ms : List Int) : PyData.eqv (.list (ns.map PyData.int)) (.list (ms.map PyData.int)) = decide (ns = ms) := by
  rw [PyData.eqv]; exact eqvAll_ints ns ms
theorem g_eqLI {a b : Addr} {ns ms : List Int} (h1 : SqL K H a (ns.map V.int)) (h2 : SqL K H b (ms.map V.int)) (q : Q (.bl (decide (ns = ms))) H) : rEqD K (.ref a) (.ref b) H Q :=
  ⟨_, _, dp_ints h1, dp_ints h2, PySem.W.ke_shaped_ints ns, PySem.W.ke_shaped_ints ms, by rw [eqv_ints]; exact q⟩
theorem g_neLI {a b : Addr} {ns ms : List Int} (h1 : SqL K H a (ns.map V.int)) (h2 : SqL K H b (ms.map V.int)) (q : Q (.bl (!decide (ns = ms))) H) : rNeD K (.ref a) (.ref b) H Q :=
  ⟨_, _, dp_ints h1, dp_ints h2, PySem.W.ke_shaped_ints ns, PySem.W.ke_shaped_ints ms, by rw [eqv_ints]; exact q⟩
end
section
variable {σ : L2.St} {H : Hp}
/-- a while, by an invariant that bears its measure -/
theorem w_loop {a : L2.St → Hp → Prop} {b : VK} {c d : L2.St → Hp → Prop} {tc : TT} {tb : TS} (Pv : Nat → L2.St → Hp → Prop) (m0 : Nat) (h0 : Pv m0 σ H)
    (hs : ∀ m σ H, Pv m σ H → tc σ H fun b' H1 => if b' = true then ∃ N : L2.St → Hp → Prop, (∀ σ' H', N σ' H' → ∃ m', m' < m ∧ Pv m' σ' H') ∧ tb ⟨N, b, a, N⟩ σ H1 else a σ H1) : tWhile tc tb ⟨a, b, c, d⟩ σ H := ⟨Pv, ⟨m0, h0⟩, hs⟩
end
section
variable {K : PySem.W.Frag} {H : Hp} {Q : VK}
theorem g_slL {a : Addr} {xs : List V} {lo hi : Option Int} (h : SqL K H a xs) (q : ∀ p, H p = none → Q (.ref p) (upd H p (.lst (cutV xs lo hi)))) : rSlL K (.ref a) lo hi H Q := ⟨a, xs, rfl, h, q⟩
theorem cut1 (xs : List V) : cutV xs (some 1) none = xs.drop 1 := by
  unfold cutV
  rw [show (some (1 : Int)) = some ((1 : Nat) : Int) from rfl, HT.sIx_nat, HT.sIx_none]
  cases xs with
  | nil => rfl
  | cons x xs =>
    have e : min 1 (x :: xs).length = 1 := by simp
    rw [e]
    show List.take ((x :: xs).length - 1) xs = xs
    simp
end
theorem tup_same {K : PySem.W.Frag} {H H' : Hp} {a : Addr} {xs : List V} (e : Same H H') (h : SqT K H a xs) : SqT K H' a xs := by
  rcases h with (h | ⟨o, h⟩) | h
  · exact .inl (.inl (e _ _ h))
  · exact .inl (.inr ⟨o, e _ _ h⟩)
  · exact .inr h

/-! ### data: kinds, and as they stand later -/
section
variable {K : PySem.W.Frag} {H H' : Hp} {Q : VK} {σ : L2.St}
theorem ty_list {a : Addr} {xs : List V} (h : SqL K H a xs) : TyX K H (.ref a) (.type "list") := by
  rcases h with (h | ⟨o, h⟩) | h
  · exact .base (.lst h)
  · exact .base (.frz h)
  · obtain ⟨o, items, n, h1, h2, _⟩ := h
    exact .kList h1 h2
theorem ty_tup {a : Addr} {xs : List V} (h : SqT K H a xs) : TyX K H (.ref a) (.type "tuple") := by
  rcases h with (h | ⟨o, h⟩) | h
  · exact .base (.tup h)
  · exact .fTuple h
  · obtain ⟨o, items, n, h1, h2, _⟩ := h
    exact .kTuple h1 h2
theorem list_same {a : Addr} {xs : List V} (e : Same H H') (h : SqL K H a xs) : SqL K H' a xs := e.seq h
mutual
theorem Dp_same (e : Same H H') : ∀ (d : PyData) (v : V), Dp K H v d → Dp K H' v d
  | .none, _, h => by cases h; exact .non
  | .bool b, _, h => by cases h; exact .bl b
  | .int i, _, h => by cases h; exact .int i
  | .str x, _, h => by cases h; exact .str x
  | .list ds, _, h => by
    cases h with
    | lst hs ha => exact .lst (list_same e hs) (DpAll_same e ds _ ha)
  | .tuple ds, _, h => by
    cases h with
    | tup hs ha => exact .tup (tup_same e hs) (DpAll_same e ds _ ha)
  | .dict _, _, h => by cases h
theorem DpAll_same (e : Same H H') : ∀ (ds : List PyData) (vs : List V), DpAll K H vs ds → DpAll K H' vs ds
  | [], _, h => by cases h; exact .nil
  | d :: ds, _, h => by
    cases h with
    | cons h1 h2 => exact .cons (Dp_same e d _ h1) (DpAll_same e ds _ h2)
end
theorem DpAll.len : ∀ {vs : List V} {ds : List PyData}, DpAll K H vs ds → vs.length = ds.length
  | [], [], _ => rfl
  | _ :: _, _ :: _, .cons _ h => by rw [List.length_cons, List.length_cons, DpAll.len h]
theorem DpAll.at : ∀ {vs : List V} {ds : List PyData} {i : Nat} {d : PyData}, DpAll K H vs ds → ds[i]? = some d → ∃ v, vs[i]? = some v ∧ Dp K H v d
  | _, _, 0, d, .cons h _, e => by cases e; exact ⟨_, rfl, h⟩
  | _, _, i + 1, d, .cons _ h, e => DpAll.at (i := i) h e
/-- small data of the four flat kinds, lists and tuples, at most so deep -/
inductive OkD : Nat → PyData → Prop
  | non {n : Nat} : OkD n .none
  | bl {n : Nat} (b : Bool) : OkD n (.bool b)
  | int {n : Nat} (i : Int) : OkD n (.int i)
  | str {n : Nat} (x : Str) : OkD n (.str x)
  | lst {n : Nat} {ds : List PyData} : ds.length ≤ 100000 → (∀ d ∈ ds, OkD n d) → OkD (n + 1) (.list ds)
  | tup {n : Nat} {ds : List PyData} : ds.length ≤ 100000 → (∀ d ∈ ds, OkD n d) → OkD (n + 1) (.tuple ds)
theorem g_isiT {x : V} {tp : Addr} {cs : List V} {t : Value} {us : List Value} {b : Bool} (hT : H tp = some (.tup cs)) (hc : Paired ClsV cs us) (ty : TyX K H x t) (hk : PySem.W.kitAny K t us = some b) (q : Q (.bl b) H) : rIsiT K [x, .ref tp] H Q :=
  ⟨x, tp, cs, t, us, b, rfl, hT, hc, ty, hk, q⟩
/-- t is one of two built-in types, or none of them -/
theorem kit2 {t a b : String} {r1 r2 : Bool} (h1 : kitB t a = some r1) (h2 : kitB t b = some r2) : PySem.W.kitAny K (.type t) [.type a, .type b] = some (r1 || r2) := by
  refine kitAny_cons (kit_ty h1) (fun e => ?_) (fun e => by rw [e]; rfl)
  rw [e]
  exact kitAny_cons (kit_ty h2) (fun e2 => by rw [e2]; rfl) (fun e2 => by rw [e2]; rfl)
theorem g_isiB {x c : V} {tn cn : String} {b : Bool} (h1 : ClsV c (.type cn)) (h2 : TyX K H x (.type tn)) (h3 : kitB tn cn = some b) (q : Q (.bl b) H) : rIsi K [x, c] H Q := ⟨x, c, .type tn, .type cn, b, rfl, h1, h2, kit_ty h3, q⟩
def LcEnd (g : TG) (tt : TT) (te : TE) (vs : List Nat) (σ : L2.St) (Q : VK) (J : It) (H1 : Hp) : Prop := ∀ D, H1 D = none → ∃ W : Nat → Nat → Hp → Prop, (∃ m, W 0 m (upd H1 D (.lst []))) ∧ ∀ i m H, W i m H →
  (J.stop i H ∧ Q (.ref D) H) ∨ (J.go i H ∧ ∃ Nx : Hp → Prop, (∀ H', Nx H' → ∃ m', m' < m ∧ W (i + 1) m' H') ∧ ∀ x H', J.yld i H x H' → g x (wipe σ vs) H' fun σ2 H2 => wipe σ2 vs = wipe σ vs ∧ tt σ2 H2 fun b H3 =>
    if b = true then te σ2 H3 fun y H4 => ∃ acc, H4 D = some (.lst acc) ∧ acc.length < sizeLine ∧ Nx (upd H4 D (.lst (acc ++ [y]))) else Nx H3)
theorem g_lc {wi : TI} {g : TG} {tt : TT} {te : TE} {vs : List Nat} (h : wi σ H (LcEnd g tt te vs σ Q)) : tLc wi g tt te vs σ H Q := h
theorem g_yes {QB : Bool → Hp → Prop} (q : QB true H) : tYes σ H QB := q
theorem w_lcRange {g : TG} {tt : TT} {te : TE} {vs : List Nat} {n : Int} (h1 : -(2 ^ 62) ≤ n) (h2 : n < 2 ^ 62) (Pv : Addr → Nat → Hp → Prop) (h0 : ∀ D, H D = none → Pv D 0 (upd H D (.lst [])))
    (hs : ∀ D i H', H D = none → i < n.toNat → Pv D i H' → g (.int i) (wipe σ vs) H' fun σ2 H2 => wipe σ2 vs = wipe σ vs ∧ tt σ2 H2 fun b H3 =>
      if b = true then te σ2 H3 fun y H4 => ∃ acc, H4 D = some (.lst acc) ∧ acc.length < sizeLine ∧ Pv D (i + 1) (upd H4 D (.lst (acc ++ [y]))) else Pv D (i + 1) H3) (hd : ∀ D H', H D = none → Pv D n.toNat H' → Q (.ref D) H') :
    ∃ j : Int, [V.int n] = [.int j] ∧ -(2 ^ 62) ≤ j ∧ j < 2 ^ 62 ∧ LcEnd g tt te vs σ Q (Itr 0 j.toNat) H :=
  ⟨n, rfl, h1, h2, fun D hD => lc_range (Pv D) (h0 D hD) (fun i H' hi p => by have q := hs D i H' hD hi p; rw [Int.zero_add]; exact q) (fun H' p => hd D H' hD p)⟩
end

/-! ### tables of code objects beside the drawing -/
/-- H without its tables -/
def noT (H : Hp) : Hp := fun b => match H b with
  | some (.tbl _) => none
  | o => o
theorem noT_some {H : Hp} {b : Addr} {o : HO} (h : noT H b = some o) : H b = some o ∧ ∀ ps, o ≠ .tbl ps := by
  unfold noT at h
  split at h
  · cases h
  · rename_i n
    exact ⟨h, fun ps e => n ps (by rw [h, e])⟩
theorem noT_of {H : Hp} {b : Addr} {o : HO} (h : H b = some o) (n : ∀ ps, o ≠ .tbl ps) : noT H b = some o := by
  unfold noT
  split
  · rename_i ps e
    rw [h] at e
    exact absurd (Option.some.inj e) (n ps)
  · exact h
theorem noT_same (H : Hp) : Same (noT H) H := fun _ _ h => (noT_some h).1
theorem noT_list {K : PySem.W.Frag} {H : Hp} {a : Addr} {xs : List V} (h : SqL K H a xs) : SqL K (noT H) a xs := by
  rcases h with (h | ⟨o, h⟩) | h
  · exact .inl (.inl (noT_of h (fun _ z => nomatch z)))
  · exact .inl (.inr ⟨o, noT_of h (fun _ z => nomatch z)⟩)
  · exact .inr h
/-- all but S and the tables stays -/
theorem Dst.ext {K : PySem.W.Frag} {H0 H H' : Hp} {S : Addr} (d : Dst K (noT H0) H S) (e : LamX.ExtN H H') : Dst K (noT H0) H' S := by
  obtain ⟨sc, ns, c, m, r, h1, h2, h3, h4⟩ := d
  exact ⟨sc, ns, c, m, r, e _ _ h1 (fun _ z => nomatch z), h2, fun b o n h => e _ _ (h3 b o n h) (noT_some h).2, h4⟩
theorem tabs_frm {K : PySem.W.Frag} {B H H' : Hp} {S : Addr} {T : List (Addr × Str)} (t : LamX.Tabs T H) (d : Dst K B H S) (f : Frm S H H') : LamX.Tabs T H' := fun p hp => by
  obtain ⟨sc, ns, c, m, r, hS, _⟩ := d
  obtain ⟨ps, h1, h2, h3⟩ := t p hp
  refine ⟨ps, f _ _ (ne_of h1 hS (fun z => nomatch z)) h1, h2, fun pos cv hc => ?_⟩
  obtain ⟨c', e1, e2⟩ := h3 pos cv hc
  exact ⟨c', e1, f _ _ (ne_of e2 hS (fun z => nomatch z)) e2⟩
theorem tabs_same {H H' : Hp} {T : List (Addr × Str)} (t : LamX.Tabs T H) (e : Same H H') : LamX.Tabs T H' := t.ext e
section
variable {P : Program} {w : World} {K : PySem.W.Frag} {mg : Str → Option Value} {base : Heap}
/-- a def whose code object is told -/
theorem fn_code {k : Nat} {f : Addr} {name qual : Str} {params : Arguments} {body : List Stmt} {scope : Scope} {dV kV doc pm cdv ct oc : Value} {an od : Option Addr} {osl : Array (Option Value)} {N ps : List Str} {sp : Sp}
    (lk : K.lookup f = some ⟨oc, od, .func (PySem.W.fnOf name qual params body scope dV kV doc pm an cdv ct), osl⟩) (hcd : PySem.W.codeIn K cdv qual = true) (S : FnScope N ps scope) (len : ∀ vs H Q E, sp vs H Q E → vs.length = ps.length)
    (hbody : ∀ (A : Around) (outer : List Env) (s : Shared) (H : Hp) (vs : List V) (Q : VK) (E : XK), Room k (A.deeper (envOfC qual scope s.heap.objs.size f cdv)) → sp vs H Q E →
      ∃ t, PSs (cxOf C8.CX0 P w K mg base N qual scope f cdv A outer s H E).nox body t ∧ t { nx := fun _ H' => Q .non H', rt := Q } (L2.start N vs) H) :
    FnOk P w K mg base C8.CX0 (k + 1) f (PySem.W.fnOf name qual params body scope dV kV doc pm an cdv ct) ps sp :=
  fn_of lk hcd S len fun A outer s H vs Q E hr hsp => (hbody A outer s H vs Q E hr hsp).elim fun t h => ⟨t, h.1.nox, h.2⟩
end
theorem g_lam {T : List (Addr × Str)} {TT : (XK → Hp → VK → Prop) → Hp → VK → Prop} {t : XK → TE} {σ : L2.St} {H : Hp} {Q : VK} (h : LamX.Tabs T H) (q : ∀ H1, LamX.ExtN H H1 → LamX.Tabs T H1 → TT (fun E H' Q' => t E σ H' Q') H1 Q) : LamX.tLam T TT t σ H Q := ⟨h, q⟩
end Wd
local macro_rules | `(tactic| walk_at "go") => `(tactic| repeat (first
  | with_reducible refine Wd.g_seq ?_
  | ((with_reducible show L2.Ends.nx _ _ _); (with_reducible refine Wd.g_nx ?_))
  | with_reducible refine Wd.g_asg ?_
  | ((with_reducible refine' Wd.g_var ?h1 ?_); (case h1 => exact rfl))
  | with_reducible refine Wd.g_c ?_
  | with_reducible refine Wd.g_op ?_
  | with_reducible refine Wd.g_un ?_
  | with_reducible refine Wd.g_I0 ?_
  | with_reducible refine Wd.g_U ?_
  | with_reducible refine Wd.g_eqI ?_
  | with_reducible refine Wd.g_neI ?_
  | with_reducible refine Wd.g_eqS ?_
  | with_reducible refine Wd.g_neS ?_
  | with_reducible refine Wd.g_eqB ?_
  | with_reducible refine Wd.g_neB ?_
  | with_reducible refine Wd.g_isN ?_
  | with_reducible refine Wd.g_notN ?_
  | with_reducible refine Wd.g_lc ?_
  | with_reducible refine Wd.g_yes ?_
  | with_reducible refine Wd.g_test ?_
  | with_reducible refine Wd.g_tB ?_
  | with_reducible refine Wd.g_bl ?_
  | with_reducible refine Wd.g_blI ?_
  | with_reducible refine Wd.g_and ?_
  | with_reducible refine Wd.g_or ?_
  | with_reducible refine Wd.g_not ?_
  | with_reducible refine Wd.g_andV ?_
  | with_reducible refine Wd.g_orV ?_
  | with_reducible refine Wd.g_notV ?_
  | with_reducible refine Wd.g_if ?_
  | with_reducible refine Wd.g_chain ?_
  | with_reducible refine Wd.g_chain3 ?_
  | with_reducible refine Wd.g_nil ?_
  | with_reducible refine Wd.g_cons ?_
  | with_reducible refine Wd.g_tup ?_
  | with_reducible refine Wd.g_lst ?_
  | with_reducible refine Wd.g_CB ?_
  | with_reducible refine Wd.g_call ?_
  | with_reducible refine Wd.g_callS ?_
  | with_reducible refine Wd.g_bm ?_
  | with_reducible refine Wd.g_bm0 ?_
  | with_reducible refine Wd.g_sl ?_
  | with_reducible refine Wd.g_part ?_
  | with_reducible refine Wd.g_part1 ?_
  | with_reducible refine Wd.g_noPart ?_
  | with_reducible refine Wd.g_next ?_
  | with_reducible refine Wd.g_name ?_
  | with_reducible refine Wd.g_sub ?_
  | with_reducible refine Wd.g_gnil ?_
  | with_reducible refine Wd.g_gcons ?_
  | with_reducible refine Wd.g_drop ?_
  | with_reducible refine Wd.g_ret ?_
  | with_reducible refine Wd.g_retN ?_
  | with_reducible refine Wd.g_brk ?_
  | with_reducible refine Wd.g_cont ?_
  | with_reducible refine Wd.g_ifS ?_
  | ((with_reducible show L2.Ends.bk _ _ _); (with_reducible refine Wd.g_bk ?_))
  | ((with_reducible show L2.Ends.ct _ _ _); (with_reducible refine Wd.g_ct ?_))
  | ((with_reducible show L2.Ends.rt _ _ _); (with_reducible refine Wd.g_rt ?_))
  | with_reducible refine Wd.g_for ?_
  | with_reducible refine Wd.g_rng1 ?_
  | with_reducible refine Wd.g_rng2 ?_
  | with_reducible refine Wd.g_iList ?_
  | with_reducible refine Wd.g_iTup ?_
  | ((with_reducible refine Wd.g_fit ?h1 ?_); (case h1 => exact rfl))
  | with_reducible refine Wd.g_max2 ?_
  | with_reducible refine Wd.g_min2 ?_
  | with_reducible refine Wd.g_int1B ?_
  | with_reducible refine L2.iteT ?_
  | with_reducible refine L2.iteF ?_
  | ((with_reducible refine Wd.g_itT ?h1 ?_); (case h1 => exact rfl))
  | ((with_reducible refine Wd.g_itF ?h1 ?_); (case h1 => exact rfl))))
/-! Plans as data; tuples that are repeated, made of lists; lists within comprehensions. -/
namespace Wd
open PySem PySem.Spec PyProof.Rows L2

/-! ### t * k, k from 0 on -/
theorem mul_once (l : Addr) (items : Array Value) (n : Nat) (dd : Option Addr) (sl : Array (Option Value)) (u : Tok) :
    Meets (Builtin.«tuple.__mul__» ⟨[.ref l, .int 1 u], []⟩) (fun _ R s => s.heap.get? l = some { cls := .type "tuple", dict := dd, data := .seq items n, slots := sl } ∧ R (.ok (.ret (Value.ref l))) s) :=
  .of_wp fun prog w A R s h => by
    obtain ⟨hp, g, d, tk, os⟩ := s
    obtain ⟨hl, q⟩ := h
    have one := AutoSeq1.idx_int
    wp_walk using AutoSeq1.wpAny_loadPart' hl
    exact ⟨_, rfl, q⟩
theorem mul_none (l : Addr) (items : Array Value) (n : Nat) (dd : Option Addr) (sl : Array (Option Value)) (u : Tok) (h2 : items.isEmpty = false) :
    Meets (Builtin.«tuple.__mul__» ⟨[.ref l, .int 0 u], []⟩) (fun _ R s => s.heap.get? l = some { cls := .type "tuple", dict := dd, data := .seq items n, slots := sl } ∧
      R (.ok (.ret (Value.ref s.heap.objs.size))) { s with heap := s.heap.push { cls := Value.type "tuple", data := Data.seq #[] }, toks := s.toks }) :=
  .of_wp fun prog w A R s h => by
    obtain ⟨hp, g, d, tk, os⟩ := s
    obtain ⟨hl, q⟩ := h
    have one := AutoSeq1.idx_int
    wp_walk using AutoSeq1.wpAny_loadPart' hl
    exact ⟨_, rfl, q⟩
def rRepU (K : PySem.W.Frag) : R2 := fun x y H Q => ∃ (l : Addr) (k : Int) (xs : List V), x = .ref l ∧ y = .int k ∧ SqT K H l xs ∧ xs ≠ [] ∧ 0 ≤ k ∧ k ≤ 1000 ∧ xs.length ≤ 1000 ∧ (k = 1 → Q (.ref l) H) ∧
  (k ≠ 1 → ∀ p, H p = none → Q (.ref p) (upd H p (.tup (List.replicate k.toNat xs).flatten)))
section
variable {X : Cx}
theorem op_repU : OpR X (binaryOp .Mult) (rRepU X.K) := by
  intro pins s σ H x y v u Q I rx ry h
  obtain ⟨l, k, xs, rfl, rfl, hT, hne, h0, h1, hz, q1, q2⟩ := h
  by_cases c2 : 2 ≤ k
  · exact op_repT pins s σ H _ _ _ _ Q I rx ry ⟨l, k, xs, rfl, rfl, hT, hne, c2, h1, hz, q2 (by omega)⟩
  · cases rx
    obtain ⟨t, rfl⟩ := ry
    obtain ⟨its, r, ⟨⟨cls, dd, data, sl⟩, ho, hc, n, hd⟩, hs⟩ := I.tuple hT
    simp only at hc hd
    subst hc hd
    have c01 : k = 0 ∨ k = 1 := by omega
    rcases c01 with rfl | rfl
    · have hem : its.toArray.isEmpty = false := by
        cases r with
        | nil => exact absurd rfl hne
        | cons _ _ => rfl
      refine wpAny_binaryOp_repeat_ref (T := "tuple") (U := "int") (by decide) ⟨_, ho, rfl⟩ (fun s' => typeIs_int s' 0 t) noFill_tuple_mul F.fills_int_mul F.slot_int_rmul repeat_tuple F.slot_int_index.lookup (call_meets F.slot_int_rmul (typeIs_int s 0 t) F.entry_int_rmul (F.args_int_rmul_2 _ _)
        (int_rmul_tuple 0 t l its.toArray n dd sl) ⟨ho, rfl, ⟨_, ho, rfl⟩, call_meets F.slot_tuple_mul ⟨_, ho, rfl⟩ F.entry_tuple_mul (F.args_tuple_mul_2 _ _) (mul_none l its.toArray n dd sl t hem) ⟨ho, ?_⟩⟩)
      refine ⟨.ref s.heap.objs.size, _, I.laid (t' := s.toks) (o := .tup []) (fun b ob z => Heap.get?_push_of_some _ z) (Nat.le_refl _) ?_, rfl, q2 (by decide) _ (I.hok.fresh (Nat.le_refl _))⟩
      exact ⟨Nat.zero_le _, [], .nil, IsTup.new _ _⟩
    · refine wpAny_binaryOp_repeat_ref (T := "tuple") (U := "int") (by decide) ⟨_, ho, rfl⟩ (fun s' => typeIs_int s' 1 t) noFill_tuple_mul F.fills_int_mul F.slot_int_rmul repeat_tuple F.slot_int_index.lookup (call_meets F.slot_int_rmul (typeIs_int s 1 t) F.entry_int_rmul (F.args_int_rmul_2 _ _)
        (int_rmul_tuple 1 t l its.toArray n dd sl) ⟨ho, rfl, ⟨_, ho, rfl⟩, call_meets F.slot_tuple_mul ⟨_, ho, rfl⟩ F.entry_tuple_mul (F.args_tuple_mul_2 _ _) (mul_once l its.toArray n dd sl t) ⟨ho, ?_⟩⟩)
      exact ⟨.ref l, H, I, rfl, q1 rfl⟩
end

/-! ### more steps -/
def rTupOf (K : PySem.W.Frag) : List V → Hp → VK → Prop := fun xs H Q => ∃ p ys, xs = [.ref p] ∧ ((SqL K H p ys ∧ ∀ l, H l = none → Q (.ref l) (upd H l (.tup ys))) ∨ (SqT K H p ys ∧ Q (.ref p) H))
theorem call_tuple1 {X : Cx} : CallR X (.type "tuple") (rTupOf X.K) := call_tuple_of
section
variable {K : PySem.W.Frag} {H H' : Hp} {Q : VK} {σ : L2.St} {x : V}
theorem g_tupOf {p : Addr} {ys : List V} (h : SqL K H p ys) (q : ∀ l, H l = none → Q (.ref l) (upd H l (.tup ys))) : rTupOf K [.ref p] H Q := ⟨p, ys, rfl, .inl ⟨h, q⟩⟩
theorem g_inT {p : Addr} {xs : List V} (h : SqT K H p xs) (fx : flatV x = true) (fs : xs.all flatV = true) (q : Q (.bl (inV x xs)) H) : rIn K false x (.ref p) H Q := ⟨p, xs, rfl, .inr h, fx, fs, q⟩
theorem g_notInT {p : Addr} {xs : List V} (h : SqT K H p xs) (fx : flatV x = true) (fs : xs.all flatV = true) (q : Q (.bl (!inV x xs)) H) : rIn K true x (.ref p) H Q := ⟨p, xs, rfl, .inr h, fx, fs, q⟩
theorem g_sum {a : Addr} {ns : List Int} (h : SqL K H a (ns.map V.int)) (q : Q (.int ns.sum) H) : rSum K [.ref a] H Q := ⟨a, ns, rfl, h, q⟩
theorem g_pop {l : Addr} {xs : List V} {y : V} (h : H l = some (.lst xs)) (hy : xs[xs.length - 1]? = some y) (q : Q y (upd H l (.lst xs.dropLast))) : rPop (.ref l) [] H Q := ⟨l, xs, y, rfl, rfl, h, hy, q⟩
theorem w_lcTup {g : TG} {tt : TT} {te : TE} {vs : List Nat} {p : Addr} {xs : List V} (hp : SqT K H p xs) (Pv : Addr → Nat → Hp → Prop) (h0 : ∀ D, H D = none → Pv D 0 (upd H D (.lst []))) (hl : ∀ D i H', H D = none → i ≤ xs.length → Pv D i H' → SqT K H' p xs)
    (hs : ∀ D i y H', H D = none → xs[i]? = some y → Pv D i H' → g y (wipe σ vs) H' fun σ2 H2 => wipe σ2 vs = wipe σ vs ∧ tt σ2 H2 fun b H3 =>
      if b = true then te σ2 H3 fun y H4 => ∃ acc, H4 D = some (.lst acc) ∧ acc.length < sizeLine ∧ Pv D (i + 1) (upd H4 D (.lst (acc ++ [y]))) else Pv D (i + 1) H3) (hd : ∀ D H', H D = none → Pv D xs.length H' → Q (.ref D) H') :
    ∃ q, V.ref p = .ref q ∧ (∃ xs, SqT K H q xs) ∧ LcEnd g tt te vs σ Q (Itt K q) H :=
  ⟨p, rfl, ⟨xs, hp⟩, fun D hD => lc_tup (Pv D) (h0 D hD) (fun i H' hi q => hl D i H' hD hi q) (fun i y H' hy q => hs D i y H' hD hy q) (fun H' q => hd D H' hD q)⟩
/-- the end of a comprehension's turn -/
theorem g_lcput {D : Addr} {acc : List V} {y : V} {N : Hp → Prop} (h : H D = some (.lst acc)) (hl : acc.length < 100000) (q : N (upd H D (.lst (acc ++ [y])))) : ∃ acc, H D = some (.lst acc) ∧ acc.length < sizeLine ∧ N (upd H D (.lst (acc ++ [y]))) := ⟨acc, h, Nat.lt_of_lt_of_le hl (by decide), q⟩
end

/-! ### plans -/
inductive Pl where
  | pat
  | work (a b : Int)
  | row (ps : List Pl)
  | either (ps : List Pl)
  | loop (a b : Int) (p : Pl)
/-- tuples stay -/
def KeepT (H H' : Hp) : Prop := ∀ b xs, H b = some (.tup xs) → H' b = some (.tup xs)
theorem KeepT.refl (H : Hp) : KeepT H H := fun _ _ h => h
theorem KeepT.trans {H H1 H2 : Hp} (a : KeepT H H1) (b : KeepT H1 H2) : KeepT H H2 := fun c xs h => b c xs (a c xs h)
theorem keepT_same {H H' : Hp} (e : Same H H') : KeepT H H' := fun b xs h => e b _ h
theorem keepT_new {H : Hp} {p : Addr} {o : HO} (h : H p = none) : KeepT H (upd H p o) := keepT_same (same_new h)
theorem keepT_lst {H : Hp} {p : Addr} {o : HO} {xs : List V} (h : H p = some (.lst xs)) : KeepT H (upd H p o) := fun b ys e => by rw [upd_ne (ne_of e h (fun z => nomatch z))]; exact e
theorem keepT_frm {K : PySem.W.Frag} {B H H' : Hp} {S : Addr} (d : Dst K B H S) (f : Frm S H H') : KeepT H H' := fun b xs h => by
  obtain ⟨sc, ns, c, m, r, hS, _⟩ := d
  exact f b _ (ne_of h hS (fun z => nomatch z)) h
mutual
inductive PlA (H : Hp) : V → Pl → Prop
  | pat {a : Addr} : H a = some (.tup [.str "pat"]) → PlA H (.ref a) .pat
  | work {a : Addr} {x y : Int} : H a = some (.tup [.str "work", .int x, .int y]) → PlA H (.ref a) (.work x y)
  | row {a b : Addr} {vs : List V} {ps : List Pl} : H a = some (.tup [.str "row", .ref b]) → H b = some (.tup vs) → PlAs H vs ps → PlA H (.ref a) (.row ps)
  | either {a b : Addr} {vs : List V} {ps : List Pl} : H a = some (.tup [.str "either", .ref b]) → H b = some (.tup vs) → PlAs H vs ps → PlA H (.ref a) (.either ps)
  | loop {a : Addr} {x y : Int} {u : V} {p : Pl} : H a = some (.tup [.str "loop", .int x, .int y, u]) → PlA H u p → PlA H (.ref a) (.loop x y p)
inductive PlAs (H : Hp) : List V → List Pl → Prop
  | nil : PlAs H [] []
  | cons {v : V} {vs : List V} {p : Pl} {ps : List Pl} : PlA H v p → PlAs H vs ps → PlAs H (v :: vs) (p :: ps)
end
mutual
theorem PlA_keep {H H' : Hp} (e : KeepT H H') : ∀ (p : Pl) (v : V), PlA H v p → PlA H' v p
  | .pat, _, h => by cases h with | pat h => exact .pat (e _ _ h)
  | .work _ _, _, h => by cases h with | work h => exact .work (e _ _ h)
  | .row ps, _, h => by cases h with | row h1 h2 h3 => exact .row (e _ _ h1) (e _ _ h2) (PlAs_keep e ps _ h3)
  | .either ps, _, h => by cases h with | either h1 h2 h3 => exact .either (e _ _ h1) (e _ _ h2) (PlAs_keep e ps _ h3)
  | .loop _ _ p, _, h => by cases h with | loop h1 h2 => exact .loop (e _ _ h1) (PlA_keep e p _ h2)
theorem PlAs_keep {H H' : Hp} (e : KeepT H H') : ∀ (ps : List Pl) (vs : List V), PlAs H vs ps → PlAs H' vs ps
  | [], _, h => by cases h; exact .nil
  | p :: ps, _, h => by cases h with | cons h1 h2 => exact .cons (PlA_keep e p _ h1) (PlAs_keep e ps _ h2)
end
theorem PlAs.len {H : Hp} : ∀ {vs : List V} {ps : List Pl}, PlAs H vs ps → vs.length = ps.length
  | [], [], _ => rfl
  | _ :: _, _ :: _, .cons _ h => by rw [List.length_cons, List.length_cons, PlAs.len h]
theorem PlAs.at {H : Hp} : ∀ {vs : List V} {ps : List Pl} {i : Nat} {v : V}, PlAs H vs ps → vs[i]? = some v → ∃ p, ps[i]? = some p ∧ PlA H v p
  | _, _, 0, _, .cons h _, e => by cases e; exact ⟨_, rfl, h⟩
  | _, _, i + 1, _, .cons _ h, e => PlAs.at (i := i) h e
theorem PlAs.snoc {H : Hp} : ∀ {vs : List V} {ps : List Pl} {v : V} {p : Pl}, PlAs H vs ps → PlA H v p → PlAs H (vs ++ [v]) (ps ++ [p])
  | _, _, _, _, .nil, h => .cons h .nil
  | _, _, _, _, .cons a b, h => .cons a (PlAs.snoc b h)
theorem PlAs.rep {H : Hp} {v : V} {p : Pl} (h : PlA H v p) : ∀ n : Nat, PlAs H (List.replicate n [v]).flatten (List.replicate n p)
  | 0 => .nil
  | n + 1 => .cons h (PlAs.rep h n)
mutual
/-- how many tuples are plans; how deep; how many loops within one another; its bounds as they should be -/
def cnt : Pl → Nat
  | .pat => 1
  | .work _ _ => 1
  | .row ps => 1 + cnts ps
  | .either ps => 1 + cnts ps
  | .loop _ _ p => 1 + cnt p
def cnts : List Pl → Nat
  | [] => 0
  | p :: ps => cnt p + cnts ps
end
mutual
def okP : Nat → Nat → Pl → Prop
  | _, _, .pat => True
  | _, _, .work a b => 0 ≤ a ∧ a ≤ b ∧ b ≤ 1000
  | 0, _, .row _ => False
  | d + 1, l, .row ps => 0 < ps.length ∧ ps.length ≤ 20 ∧ okPs d l ps
  | 0, _, .either _ => False
  | d + 1, l, .either ps => 0 < ps.length ∧ ps.length ≤ 20 ∧ okPs d l ps
  | 0, _, .loop _ _ _ => False
  | _ + 1, 0, .loop _ _ _ => False
  | d + 1, l + 1, .loop a b p => 0 ≤ a ∧ a ≤ b ∧ b ≤ 9 ∧ okP d l p
def okPs : Nat → Nat → List Pl → Prop
  | _, _, [] => True
  | d, l, p :: ps => okP d l p ∧ okPs d l ps
end
theorem okPs_at {d l : Nat} : ∀ {ps : List Pl} {i : Nat} {p : Pl}, okPs d l ps → ps[i]? = some p → okP d l p
  | _ :: _, 0, _, h, e => by cases e; exact h.1
  | _ :: ps, i + 1, _, h, e => okPs_at (ps := ps) (i := i) h.2 e
theorem okPs_snoc {d l : Nat} : ∀ {ps : List Pl} {p : Pl}, okPs d l ps → okP d l p → okPs d l (ps ++ [p])
  | [], _, _, h => ⟨h, trivial⟩
  | _ :: ps, _, h1, h => ⟨h1.1, okPs_snoc h1.2 h⟩
theorem okPs_rep {d l : Nat} {p : Pl} (h : okP d l p) : ∀ n : Nat, okPs d l (List.replicate n p)
  | 0 => trivial
  | n + 1 => ⟨h, okPs_rep h n⟩
theorem cnt_pos : ∀ p : Pl, 1 ≤ cnt p
  | .pat => Nat.le_refl 1
  | .work _ _ => Nat.le_refl 1
  | .row _ => Nat.le_add_right 1 _
  | .either _ => Nat.le_add_right 1 _
  | .loop _ _ _ => Nat.le_add_right 1 _
theorem small_lt {n : Nat} (h : n < 100000) : n < sizeLine := Nat.lt_of_lt_of_le h (by decide)
end Wd
/-! zip; comprehensions over lists. -/
namespace Wd
open PySem PySem.Spec PyProof.Rows L2
section
variable {σ : L2.St} {H : Hp} {Q : VK} {K : PySem.W.Frag}
theorem w_zip {a : L2.St → Hp → Prop} {b : VK} {g : TG} {tb : TS} {p r : Addr} {xs ys : List V} (hl : xs.length = ys.length) (Pv : Nat → L2.St → Hp → Prop) (h0 : Pv 0 σ H) (hq : ∀ i σ H, Pv i σ H → SqL K H p xs ∧ SqL K H r ys)
    (hs : ∀ i x y T σ H, xs[i]? = some x → ys[i]? = some y → Pv i σ H → H T = none → g (.ref T) σ (upd H T (.tup [x, y])) fun σ2 H2 => tb ⟨Pv (i + 1), b, a, Pv (i + 1)⟩ σ2 H2) (hd : ∀ σ H, Pv xs.length σ H → a σ H) :
    ∃ a' b' xs ys, [V.ref p, .ref r] = [V.ref a', .ref b'] ∧ SqL K H a' xs ∧ SqL K H b' ys ∧ ForEnd g tb a b σ (Itz K a' b') H :=
  ⟨p, r, xs, ys, rfl, (hq 0 σ H h0).1, (hq 0 σ H h0).2, RZ.for_zipL (D := ⟨a, b, fun _ _ => False, fun _ _ => False⟩) hl Pv h0 hq hs hd⟩
theorem w_lcZip {g : TG} {tt : TT} {te : TE} {vs : List Nat} {p r : Addr} {xs ys : List V} (hl : xs.length = ys.length) (hp : SqL K H p xs) (hr : SqL K H r ys) (Pv : Addr → Nat → Hp → Prop) (h0 : ∀ D, H D = none → Pv D 0 (upd H D (.lst [])))
    (hq : ∀ D i H', H D = none → Pv D i H' → SqL K H' p xs ∧ SqL K H' r ys)
    (hs : ∀ D i x y T H', H D = none → xs[i]? = some x → ys[i]? = some y → Pv D i H' → H' T = none → g (.ref T) (wipe σ vs) (upd H' T (.tup [x, y])) fun σ2 H2 => wipe σ2 vs = wipe σ vs ∧ tt σ2 H2 fun b H3 =>
      if b = true then te σ2 H3 fun y H4 => ∃ acc, H4 D = some (.lst acc) ∧ acc.length < sizeLine ∧ Pv D (i + 1) (upd H4 D (.lst (acc ++ [y]))) else Pv D (i + 1) H3) (hd : ∀ D H', H D = none → Pv D xs.length H' → Q (.ref D) H') :
    ∃ a' b' xs ys, [V.ref p, .ref r] = [V.ref a', .ref b'] ∧ SqL K H a' xs ∧ SqL K H b' ys ∧ LcEnd g tt te vs σ Q (Itz K a' b') H := by
  refine ⟨p, r, xs, ys, rfl, hp, hr, fun D hD => ?_⟩
  refine ⟨fun i m H' => m = xs.length - i ∧ i ≤ xs.length ∧ Pv D i H', ⟨xs.length, by simp, Nat.zero_le _, h0 D hD⟩, ?_⟩
  rintro i m H' ⟨rfl, hi, pv⟩
  obtain ⟨qx, qy⟩ := hq D i H' hD pv
  by_cases hlt : i < xs.length
  · have hx : xs[i]? = some xs[i] := List.getElem?_eq_getElem hlt
    have hlt2 : i < ys.length := by omega
    have hy : ys[i]? = some ys[i] := List.getElem?_eq_getElem hlt2
    refine .inr ⟨⟨xs, ys, _, _, qx, qy, hx, hy⟩, Pv D (i + 1), fun H' p' => ⟨xs.length - (i + 1), by omega, rfl, hlt, p'⟩, fun v H'' y => ?_⟩
    obtain ⟨T, x', y', rfl, hT, rfl, f1, f2⟩ := y
    exact hs D i x' y' T H' hD (f1 xs qx) (f2 ys qy) pv hT
  · have e : i = xs.length := by omega
    subst e
    exact .inl ⟨⟨xs, ys, qx, qy, Or.inl (Nat.le_refl _)⟩, hd D H' hD pv⟩
theorem w_lcList {g : TG} {tt : TT} {te : TE} {vs : List Nat} {p : Addr} {xs : List V} (hp : SqL K H p xs) (Pv : Addr → Nat → Hp → Prop) (h0 : ∀ D, H D = none → Pv D 0 (upd H D (.lst []))) (hl : ∀ D i H', H D = none → i ≤ xs.length → Pv D i H' → SqL K H' p xs)
    (hs : ∀ D i y H', H D = none → xs[i]? = some y → Pv D i H' → g y (wipe σ vs) H' fun σ2 H2 => wipe σ2 vs = wipe σ vs ∧ tt σ2 H2 fun b H3 =>
      if b = true then te σ2 H3 fun y H4 => ∃ acc, H4 D = some (.lst acc) ∧ acc.length < sizeLine ∧ Pv D (i + 1) (upd H4 D (.lst (acc ++ [y]))) else Pv D (i + 1) H3) (hd : ∀ D H', H D = none → Pv D xs.length H' → Q (.ref D) H') :
    ∃ q, V.ref p = .ref q ∧ (∃ xs, SqL K H q xs) ∧ LcEnd g tt te vs σ Q (Itl K q) H :=
  ⟨p, rfl, ⟨xs, hp⟩, fun D hD => lc_list (Pv D) (h0 D hD) (fun i H' hi q => hl D i H' hD hi q) (fun i y H' hy q => hs D i y H' hD hy q) (fun H' q => hd D H' hD q)⟩
theorem g_zip {ta : TA} {R : It → Hp → Prop} (h : ta σ H fun vs H1 => ∃ a b xs ys, vs = [.ref a, .ref b] ∧ SqL K H1 a xs ∧ SqL K H1 b ys ∧ R (Itz K a b) H1) : iZip K ta σ H R := h
end
end Wd
/-! sorted of data; self.a, self.b = .. -/
namespace Wd
open PySem PySem.Spec PyProof.Rows L2
def rSortD (K : PySem.W.Frag) : List V → Hp → VK → Prop := fun vs H Q => ∃ (a : Addr) (ps : List (V × PyData)), vs = [.ref a] ∧ SqL K H a (ps.map (·.1)) ∧ (∀ p ∈ ps, Dp K H p.1 p.2) ∧ PySem.W.AllAlike (ps.map (·.2)) ∧ PySem.W.Sortable (ps.map (·.2)) ∧ (∀ p ∈ ps, p.2.depth ≤ 10) ∧
  ∀ p, H p = none → Q (.ref p) (upd H p (.lst ((ps.mergeSort (PySem.W.dataLe false (·.2))).map (·.1))))
theorem each_vals : ∀ {ps : List (V × PyData)} {us : List Value}, Vals (ps.map (·.1)) us → PySem.W.EachIs (fun v (b : V × PyData) => RelV b.1 v) us ps
  | [], _, .nil => .nil
  | p :: ps, _, .cons r t => .cons r (each_vals t)
theorem vals_each : ∀ {ps : List (V × PyData)} {us : List Value}, PySem.W.EachIs (fun v (b : V × PyData) => RelV b.1 v) us ps → Vals (ps.map (·.1)) us
  | [], _, .nil => .nil
  | p :: ps, _, .cons r t => .cons r (vals_each t)
theorem each_reads {X : Cx} {pins : List (Addr × Obj)} {σ : L2.St} {H : Hp} {s : Shared} (I : Inv X pins σ H s) : ∀ {ps : List (V × PyData)} {us : List Value}, (∀ p ∈ ps, Dp X.K H p.1 p.2) → Vals (ps.map (·.1)) us → PySem.W.EachIs (fun v (b : V × PyData) => ∃ as, Reads s.heap v b.2 as) us ps
  | [], _, _, .nil => .nil
  | p :: ps, _, h, .cons r t => .cons (Dp.reads I p.2 p.1 _ (h p List.mem_cons_self) r) (each_reads I (fun y hy => h y (List.mem_cons_of_mem _ hy)) t)
section
variable {X : Cx}
theorem cr_sortedD (hu : X.A.units + 64 < cLine) : CallR X (.builtin "sorted") (rSortD X.K) := by
  intro pins s σ H vs us Q I r h
  obtain ⟨a, ps, rfl, hs, hd, hal, hk, hdep, q⟩ := h
  obtain ⟨its, rv, hl, hz⟩ := I.list hs
  obtain ⟨u, rfl, ru⟩ := vals1 r
  obtain rfl : u = Value.ref a := ru
  have hlen : ps.length ≤ sizeLine := by rw [List.length_map] at hz; exact hz
  refine PySem.W.sorted_data (vs := its) (bs := ps) (enc := (·.2)) (R := fun v b => RelV b.1 v) hl.isList (each_vals rv) (each_reads I hd rv) hal hk hlen (fun b hb => by have := hdep b hb; omega) fun out ho hout => ?_
  obtain ⟨n, hn⟩ := sortedAll_at s.heap its out.toArray
  have hv := vals_each hout
  refine ⟨.ref (s.heap.objs.size + 1), _, I.laid (t' := s.toks) (fun b o z => sortedAll_old z) (Nat.le_succ _) (o := .lst ((ps.mergeSort (PySem.W.dataLe false (·.2))).map (·.1))) ⟨?_, out, n, hv, hn⟩, rfl, q _ (I.hok.fresh (Nat.le_succ _))⟩
  rw [List.length_map, List.length_mergeSort]
  exact hlen
theorem pe_fldK {K : PySem.W.Frag} {e : Expr} {f : Str} {pos : Pos} {ta : TE} (hK : X.K = K) (he : PE X e ta) (hb : attributeBase e f X.env (eval e X.env) = eval e X.env) : PE X (.Attribute e f pos) (tFld K ta f) := by
  subst hK; exact pe_fld he hb
/-- an attribute as a target -/
def gAtt (K : PySem.W.Frag) (to : TE) (f : Str) : TG := fun y σ H Q => to σ H fun x H2 => ∃ a C dx fs, x = .ref a ∧ H2 a = some (.ins C dx fs) ∧ Cls K C ∧ NoAttr K C f ∧ fs.length < 1000 ∧ Q σ (upd H2 a (.ins C dx (putF f y fs)))
theorem pg_att {o : Expr} {f : Str} {pos : Pos} {to : TE} (ho : PE X o to)
    (ha : ∀ v, assign (.Attribute o f pos) X.env v = (do
      let ov ← holding [v] (eval o X.env)
      standAt pos.atName
      holding [v, ov] (setAttr ov f v)
      release [v, ov] []) := by intro _; rfl) : PG X (.Attribute o f pos) (gAtt X.K to f) := by
  refine ⟨fun pins s σ H v u Q I r h => ?_⟩
  rw [ha]
  refine wpAny_bind (wpAny_holding (thn (ho.run pins s σ H _ I h) fun ov s1 ⟨x, H1, I1, rx, a, C, dx, fs, ex, ea, c, n, l, q⟩ => ?_))
  subst ex
  obtain rfl : ov = Value.ref a := rx
  refine wpAny_bind (wpAny_standAt (wpAny_bind (wpAny_holding (setattr_ok I1 ea c n l r fun s2 I2 => ?_))))
  exact wpAny_release ⟨σ, _, I2, q⟩
end
end Wd
/-! Lambdas that stand in the heap: kept in lists, called from a comprehension; a parameter with a default. -/
namespace LamY
open PySem PySem.Spec PySem.Calls PyProof.Rows L2 LamX
/-- the object at f is a lambda, its defaults dV, its code at c' -/
def LamO (f : Addr) (q : Str) (params : Arguments) (body : Expr) (scope : Scope) (cl : List (Str × Addr)) (dV : Value) (c' : Addr) : HO :=
  .ext fun h => ∃ doc pm ctv : Value, h.get? f = some (PySem.W.kdv_obj "<lambda>" q params (.expr body) scope cl dV doc pm c' ctv)
theorem lamO_ne {f : Addr} {q : Str} {params : Arguments} {body : Expr} {scope : Scope} {cl : List (Str × Addr)} {dV : Value} {c' : Addr} (ps : Array Value) : LamO f q params body scope cl dV c' ≠ .tbl ps := fun z => by
  unfold LamO at z; cases z
section
variable {X : Cx} {pins : List (Addr × Obj)} {σ : L2.St} {H : Hp} {s : Shared}
/-- a code object more in the table -/
theorem tabs_more {T : List (Addr × Str)} {P c' : Addr} {q : Str} {ps : Array Value} {pos : Pos} (hT : Tabs T H) (hu : ∀ p ∈ T, p.1 = P → p.2 = q) (hP : H P = some (.tbl ps)) (ht : TriplesOk ps.toList)
    (ha : ∀ (p' : Pos) (cv : Value), codeAmong p' ps.toList = some cv → ∃ c, cv = .ref c ∧ H c = some (CodeO c q)) (nC : H c' = none) :
    ExtN H (upd (upd H P (.tbl (ps ++ #[rawInt pos.line, rawInt pos.col, .ref c']))) c' (CodeO c' q)) ∧ Tabs T (upd (upd H P (.tbl (ps ++ #[rawInt pos.line, rawInt pos.col, .ref c']))) c' (CodeO c' q)) := by
  generalize hpn : ps ++ #[rawInt pos.line, rawInt pos.col, .ref c'] = pn
  have X1 : ExtN H (upd (upd H P (.tbl pn)) c' (CodeO c' q)) := fun b o e n => by
    have b1 : b ≠ c' := ne_of_none e nC
    have b2 : b ≠ P := fun z => by subst z; rw [hP] at e; exact n ps (Option.some.inj e).symm
    rw [upd_ne b1, upd_ne b2]; exact e
  refine ⟨X1, fun p hp => ?_⟩
  by_cases hb : p.1 = P
  · have el : pn.toList = ps.toList ++ [rawInt pos.line, rawInt pos.col, .ref c'] := by rw [← hpn]; simp
    rw [hu p hp hb, hb]
    refine ⟨pn, ?_, ?_, fun p' cv hcv => ?_⟩
    · rw [upd_ne (ne_of_none hP nC)]; exact upd_same
    · rw [el]; exact TriplesOk_snoc _ _ _ _ ht
    · rw [el] at hcv
      rcases among_app _ ht hcv with z | z
      · exact (ha p' cv z).elim fun c0 e => ⟨c0, e.1, X1 _ _ e.2 codeO_ne⟩
      · exact ⟨c', z, upd_same⟩
  · obtain ⟨qs, a1, a2, a3⟩ := hT p hp
    refine ⟨qs, ?_, a2, fun p' cv hcv => (a3 p' cv hcv).elim fun c0 e => ⟨c0, e.1, X1 _ _ e.2 codeO_ne⟩⟩
    rw [upd_ne (ne_of_none a1 nC), upd_ne hb]; exact a1
/-- the lambda is made, and stands -/
theorem make_lam {T : List (Addr × Str)} {c P : Addr} {params : Arguments} {body : Expr} {scope : Scope} {pos : Pos} {dV : Value} {E Q : Value → Shared → Prop}
    (I : Inv X pins σ H s) (TB : TabB X.base X.mg c P) (hcode : X.env.code = .ref c) (hm : (P, X.env.qual ++ "<lambda>") ∈ T) (hu : ∀ p ∈ T, p.1 = P → p.2 = X.env.qual ++ "<lambda>") (hT : Tabs T H)
    (hfree : ∀ y ∈ scope.names, y.2 = .free → ∃ c, X.env.cells.lookup y.1 = some c)
    (h : ∀ (f c' : Addr) (H1 : Hp) (s' : Shared), Inv X pins σ (upd H1 f (LamO f (X.env.qual ++ "<lambda>") params body scope (cloFrom X.env.cells scope.names []) dV c')) s' → ExtN H H1 → Tabs T H1 → H1 f = none →
      H1 c' = some (CodeO c' (X.env.qual ++ "<lambda>")) → Q (.ref f) s') :
    wpAny (model X.prog X.w) X.A (makeTail "<lambda>" (X.env.qual ++ "<lambda>") params (.expr body) scope X.env dV .none none pos pos.line) Q E s := by
  obtain ⟨ps, hP, ht, ha⟩ := hT _ hm
  have bP : s.heap.BuiltinsAt X.mg P := TB.bm.keeps I.bk
  have gP : s.heap.get? P = some { cls := .none, data := .fields ps } := I.hok P _ hP
  have gN := I.mod.glob.keeps I.bk
  have cH := TB.code.keeps I.bk
  cases hc : codeAmong pos ps.toList with
  | some cv =>
    obtain ⟨c', e, hco⟩ := ha pos cv hc
    subst e
    refine PySem.W.kdv_makeTailHit (mg := X.mg) (P := P) (ps := ps) (closure_ok hfree) I.ok.glob gN hcode cH gP ht hc bP fun ctv doc h' tk hx hsz => ?_
    have I1 : Inv X pins σ H { s with heap := h', toks := tk } := I.kept hx
    have nf : H h'.objs.size = none := I.hok.fresh hsz
    have I2 := I1.laid (t' := tk) (o := LamO h'.objs.size (X.env.qual ++ "<lambda>") params body scope (cloFrom X.env.cells scope.names []) dV c') (fun b o e => Heap.get?_push_of_some (PySem.W.kdv_obj "<lambda>" (X.env.qual ++ "<lambda>") params (.expr body) scope (cloFrom X.env.cells scope.names []) dV doc ((X.mg "__name__").getD .none) c' ctv) e) (Nat.le_refl _)
      ⟨⟨doc, _, ctv, Heap.get?_push_size _ rfl⟩, ⟨_, Heap.get?_push_size _ rfl⟩, fun h1 h2 ⟨a, b, c, e⟩ k => ⟨a, b, c, k _ e⟩⟩
    exact h _ c' H _ I2 (ExtN.refl H) hT nf hco
  | none =>
    refine PySem.W.kdv_makeTail (mg := X.mg) (P := P) (ps := ps) (closure_ok hfree) I.ok.glob gN hcode cH gP ht hc TB.gP bP fun c' ctv doc h' tk hx hge hlt hrec htb => ?_
    obtain ⟨c2, oc, vs, t, e2, hoc, hd, hv⟩ := hrec
    cases e2
    have nC : H c' = none := I.hok.fresh hge
    have I1 := inv_table (t' := tk) (more := #[rawInt pos.line, rawInt pos.col, .ref c']) (h' := h') I hP (fun b o hb e => hx b o hb e) htb hge ⟨oc, vs, t, hoc, hd, hv⟩
    obtain ⟨x1, t1⟩ := tabs_more (pos := pos) hT hu hP ht ha nC
    have hco := upd_same (H := upd H P (.tbl (ps ++ #[rawInt pos.line, rawInt pos.col, .ref c']))) (a := c') (o := CodeO c' (X.env.qual ++ "<lambda>"))
    generalize upd (upd H P (.tbl (ps ++ #[rawInt pos.line, rawInt pos.col, .ref c']))) c' (CodeO c' (X.env.qual ++ "<lambda>")) = H1 at I1 x1 t1 hco
    have I2 := I1.laid (t' := tk) (o := LamO h'.objs.size (X.env.qual ++ "<lambda>") params body scope (cloFrom X.env.cells scope.names []) dV c') (fun b o e => Heap.get?_push_of_some (PySem.W.kdv_obj "<lambda>" (X.env.qual ++ "<lambda>") params (.expr body) scope (cloFrom X.env.cells scope.names []) dV doc ((X.mg "__name__").getD .none) c' ctv) e) (Nat.le_refl _)
      ⟨⟨doc, _, ctv, Heap.get?_push_size _ rfl⟩, ⟨_, Heap.get?_push_size _ rfl⟩, fun h1 h2 ⟨a, b, c, e⟩ k => ⟨a, b, c, k _ e⟩⟩
    exact h _ c' H1 _ I2 x1 t1 (I1.hok.fresh (Nat.le_refl _)) hco
def tLamS (T : List (Addr × Str)) (q : Str) (params : Arguments) (body : Expr) (scope : Scope) (cl : List (Str × Addr)) : TE := fun _ H Q => Tabs T H ∧ ∀ (H1 : Hp) (f c' : Addr), ExtN H H1 → Tabs T H1 → H1 f = none → H1 c' = some (CodeO c' q) →
  Q (.ref f) (upd H1 f (LamO f q params body scope cl .none c'))
/-- lambda: body, as a value -/
theorem pe_lamS {T : List (Addr × Str)} {c P : Addr} {params : Arguments} {body : Expr} {scope : Scope} {pos : Pos} (TB : TabB X.base X.mg c P) (hcode : X.env.code = .ref c) (hm : (P, X.env.qual ++ "<lambda>") ∈ T) (hu : ∀ p ∈ T, p.1 = P → p.2 = X.env.qual ++ "<lambda>")
    (hfree : ∀ y ∈ scope.names, y.2 = .free → X.env.scope.names.lookup y.1 = some .cell ∨ X.env.scope.names.lookup y.1 = some .free) (hdef : defaultsOf params X.env = ([], [])) :
    PE X (.Lambda params body scope pos) (tLamS T (X.env.qual ++ "<lambda>") params body scope (cloFrom X.env.cells scope.names [])) := by
  refine ⟨fun pins s σ H Q I h => PySem.W.kla_eval hdef ?_⟩
  rw [makeFunction_eq]
  simp only [List.zip_nil_right, List.filterMap_nil, List.isEmpty_nil, if_true, pure_bind]
  exact make_lam I TB hcode hm hu h.1 (fun y hy e => (hfree y hy e).elim (fun k => I.ok.has _ (.inl k)) fun k => I.ok.has _ (.inr k)) fun f c' H1 s' I1 x t n hc => ⟨.ref f, _, I1, rfl, h.2 H1 f c' x t n hc⟩
def tLamD (T : List (Addr × Str)) (q : Str) (params : Arguments) (body : Expr) (scope : Scope) (cl : List (Str × Addr)) (n : Int) : TE := fun _ H Q => Tabs T H ∧ ∀ (H1 : Hp) (f c' D : Addr), ExtN H H1 → Tabs T H1 → H1 f = none → H1 c' = some (CodeO c' q) →
  H D = none → H1 D = some (.tup [.int n]) → Q (.ref f) (upd H1 f (LamO f q params body scope cl (.ref D) c'))
/-- lambda x=n: body, as a value -/
theorem pe_lamD {T : List (Addr × Str)} {c P : Addr} {params : Arguments} {body : Expr} {scope : Scope} {pos p1 : Pos} {n : Int} {k1 : Nat} (TB : TabB X.base X.mg c P) (hcode : X.env.code = .ref c) (hm : (P, X.env.qual ++ "<lambda>") ∈ T) (hu : ∀ p ∈ T, p.1 = P → p.2 = X.env.qual ++ "<lambda>")
    (hfree : ∀ y ∈ scope.names, y.2 = .free → X.env.scope.names.lookup y.1 = some .cell ∨ X.env.scope.names.lookup y.1 = some .free) (hd : params.defaults = [.Constant (.int n) k1 p1]) (hk : params.kw_defaults = []) :
    PE X (.Lambda params body scope pos) (tLamD T (X.env.qual ++ "<lambda>") params body scope (cloFrom X.env.cells scope.names []) n) := by
  refine ⟨fun pins s σ H Q I h => PySem.W.kdv_lam (by rw [hd]; rfl) hk ?_⟩
  rw [hd]
  refine PySem.W.kdv_all1 (thn ((pe_int (X := X) (i := n)).run pins s σ H (fun v H1 => v = .int n ∧ H1 = H) I ⟨rfl, rfl⟩) fun u s1 ⟨v, H1, I1, r, e1, e2⟩ => PySem.W.kdv_all0 ?_)
  subst e1 e2
  rw [makeFunction_eq]
  simp only [List.zip_nil_right, List.filterMap_nil, List.isEmpty_nil, List.isEmpty_cons, Bool.false_eq_true, if_false, if_true, pure_bind]
  refine wpAny_bind (wpAny_newTextTuple ?_)
  have nD : H1 s1.heap.objs.size = none := I1.hok.fresh (Nat.le_refl _)
  have I2 := I1.laid (t' := s1.toks) (o := .tup [.int n]) (fun b o e => Heap.get?_push_of_some { cls := .type "tuple", data := .seq [u].toArray } e) (Nat.le_refl _) ⟨by show 1 ≤ sizeLine; decide, [u], .cons r .nil, ⟨_, Heap.get?_push_size _ rfl, rfl, _, rfl⟩⟩
  have x1 : ExtN H1 (upd H1 s1.heap.objs.size (.tup [.int n])) := .of fun b o e => by rw [upd_ne (ne_of_none e nD)]; exact e
  exact make_lam I2 TB hcode hm hu (h.1.ext fun b o e => by rw [upd_ne (ne_of_none e nD)]; exact e) (fun y hy e => (hfree y hy e).elim (fun k => I1.ok.has _ (.inl k)) fun k => I1.ok.has _ (.inr k))
    fun f c' H3 s' I3 x t nf hc => ⟨.ref f, _, I3, rfl, h.2 H3 f c' _ (x1.trans x) t nf hc nD (x _ _ upd_same fun _ z => nomatch z)⟩
end
/-! ### a lambda called -/
/-- its names: none of its own but parameters whose names the def knows not -/
structure LamD (N : List Str) (sc scope : Scope) (bs : List Str) : Prop where
  kind : scope.kind = .function
  co : scope.isCoroutine = false
  gen : scope.isGenerator = false
  own : ∀ y ∈ scope.names, y.2 ≠ .cell ∧ (y.2 = .local → y.1 ∉ N)
  free : ∀ y ∈ scope.names, y.2 = .free → sc.names.lookup y.1 = some .cell ∨ sc.names.lookup y.1 = some .free
  par : ∀ y ∈ bs, scope.names.lookup y = some .local
def lamDB (N : List Str) (sc scope : Scope) (bs : List Str) : Bool :=
  decide (scope.kind = .function) && !scope.isCoroutine && !scope.isGenerator && (scope.names.all fun y => !decide (y.2 = .cell) && (!decide (y.2 = .local) || !decide (y.1 ∈ N)) && (!decide (y.2 = .free) || decide (sc.names.lookup y.1 = some .cell) || decide (sc.names.lookup y.1 = some .free))) &&
    bs.all fun y => decide (scope.names.lookup y = some .local)
theorem lamD_by {N : List Str} {sc scope : Scope} {bs : List Str} (h : lamDB N sc scope bs = true) : LamD N sc scope bs := by
  unfold lamDB at h
  simp only [Bool.and_eq_true, Bool.or_eq_true, Bool.not_eq_true', decide_eq_true_eq, decide_eq_false_iff_not, List.all_eq_true] at h
  obtain ⟨⟨⟨⟨h1, h2⟩, h3⟩, h4⟩, h5⟩ := h
  refine ⟨h1, h2, h3, fun y hy => ⟨(h4 y hy).1.1, fun e => (h4 y hy).1.2.elim (fun z => absurd e z) id⟩, fun y hy e => ?_, h5⟩
  rcases (h4 y hy).2 with (z | z) | z
  · exact absurd e z
  · exact .inl z
  · exact .inr z
section
variable {X : Cx} {pins : List (Addr × Obj)} {σ : L2.St} {H HZ : Hp} {s s1 : Shared}
theorem LamD.has {N : List Str} {scope : Scope} {bs : List Str} (L : LamD N X.env.scope scope bs) (ok : X.Ok) : ∀ y ∈ scope.names, y.2 = .free → ∃ c, X.env.cells.lookup y.1 = some c := fun y hy e =>
  (L.free y hy e).elim (fun k => ok.has _ (.inl k)) fun k => ok.has _ (.inr k)
/-- the lambda's body begins: what it captured stands as the def's slots tell -/
theorem body_start {A : Around} {outer : List Env} {E : XK} {scope : Scope} {f c' : Addr} {h₁ : Heap} {tk : Nat} {bs : List Str} {m : Str → Option Value} (I : Inv X pins σ H s) (L : LamD X.N X.env.scope scope bs) (e0 : Env0 X.prog X.w X.K X.mg X.base A outer s1 HZ) (hd : A.handled = none)
    (un : Un (frs X.stack) [] H HZ s.heap s1.heap) (hns : h₁.Ns s1.heap.objs.size m) (kp : ∀ b o, s1.heap.get? b = some o → h₁.get? b = some o) : Inv (lamCx X A outer s1 HZ E scope f c') [] σ HZ { s1 with heap := h₁, toks := tk } := by
  have hfree := L.has I.ok
  have back : ∀ {y c}, (cloFrom X.env.cells scope.names []).lookup y = some c → X.env.cells.lookup y = some c := fun {y c} e => by
    rcases cloFrom_mem (PySem.mem_of_lookup e) with hm | ⟨h1, h2⟩
    · exact nomatch hm
    · obtain ⟨c1, hc⟩ := hfree _ h1 rfl
      replace hc : X.env.cells.lookup y = some c1 := hc
      have e2 : c = c1 := by rw [h2, hc] <;> rfl
      rw [e2, hc]
  have there : ∀ {y}, scope.names.lookup y = some .free → ∃ c, (cloFrom X.env.cells scope.names []).lookup y = some c := fun {y} hl =>
    mem_lookup (cloFrom_has (cells := X.env.cells) (acc := []) (show (y, NameKind.free) ∈ scope.names from PySem.mem_of_lookup hl))
  have cellK : ∀ {c : Addr} {v : Option Value}, H c = none → s.heap.IsCell c v → h₁.IsCell c v := fun {c v} n ⟨o, ho, hd⟩ => by
    obtain ⟨sl, q⟩ := un.any ho n (by simp)
    exact ⟨_, kp _ _ q, hd⟩
  have noex : ∀ b : Addr, b ∈ (lamCx X A outer s1 HZ E scope f c').ex → False := fun b z => by
    have z : b ∈ ([] : List Addr) := z
    simp at z
  have okX : (lamCx X A outer s1 HZ E scope f c').Ok := by
    refine ⟨e0.mod, L.kind, rfl, rfl, Nat.le_refl _, fun y z c e1 e2 => I.ok.inj y z c (back e1) (back e2), fun y hy => ?_, fun y c z _ => ?_, fun _ => hd, Around.frames_deeper e0.frames, .inr ⟨rfl, rfl⟩, fun b z => (noex b z).elim, e0.bs, e0.bsz, fun b _ _ z => noex b z,
      fun b z => (noex b z).elim, e0.funs, e0.frf⟩
    · rcases (show scope.names.lookup y = some .cell ∨ scope.names.lookup y = some .free from hy) with hy | hy
      · exact absurd rfl (L.own _ (PySem.mem_of_lookup hy)).1
      · exact there hy
    · exact nomatch (show false = true from z)
  refine ⟨okX, rfl, e0.bare, Un.kept kp, ⟨_, hns, fun i y v e1 e2 e3 => ?_⟩, fun y c e => ?_, e0.hok.fresh (Nat.le_refl _), fun y c e => ?_, fun q hq => ?_, e0.hok.kept kp, I.len⟩
  · replace e1 : X.N[i]? = some y := e1
    rcases (show Vis scope y from e3) with k | k | k
    · exact absurd (List.mem_of_getElem? e1) ((L.own _ (PySem.mem_of_lookup k)).2 rfl)
    · exact absurd rfl (L.own _ (PySem.mem_of_lookup k)).1
    · have fr := L.free _ (PySem.mem_of_lookup k) rfl
      obtain ⟨m2, hn, hl⟩ := I.loc
      obtain ⟨w', r, q⟩ := hl i y v e1 e2 (fr.elim (fun k => .inr (.inl k)) fun k => .inr (.inr k))
      obtain ⟨c2, h2⟩ := there k
      have c1 := back h2
      refine ⟨w', r, .inr ⟨.inr k, c2, h2, ?_⟩⟩
      rcases q with ⟨k', _⟩ | ⟨_, c3, e', z⟩
      · replace k' : X.env.scope.names.lookup y = some .local := k'
        rcases fr with k2 | k2
        · cases k'.symm.trans k2
        · cases k'.symm.trans k2
      · cases c1.symm.trans e'
        exact cellK (I.freeC y _ c1) z
  · exact (I.cell y c (back e)).elim fun v z => ⟨v, cellK (I.freeC y c (back e)) z⟩
  · obtain ⟨v, o, ho, hd⟩ := I.cell y c (back e)
    exact un.free c o ho (I.freeC y c (back e)) (by simp)
  · replace hq : q ∈ ([] : List (Addr × Obj)) ++ [] := hq
    simp at hq
/-- a(), in the def that was handed the lambda at f -/
theorem act_lam {CXg : CXT} {Eg : XK} {Ng : List Str} {qg a : Str} {sg scope : Scope} {g f c' : Addr} {cdg dV : Value} {params : Arguments} {body : Expr} {k i : Nat} {pn : List (Addr × Obj)} {xe : Value → Shared → Prop} {W : WX} {E : XK} {tb : TE} {p1 p2 : Pos} {bs : List Str} {Dfl : Hp → Prop}
    (I : Inv X pins σ H s) (L : LamD X.N X.env.scope scope bs)
    (hbind : ∀ (s' : Shared) (H' : Hp) (doc pm cv ctv : Value), HOk X.prog X.w H' s'.heap → Dfl H' → ∃ binds : List (Str × Value), (∀ y ∈ binds, y.1 ∈ bs) ∧ BindsTo s' (PySem.W.kdv_fn "<lambda>" (X.env.qual ++ "<lambda>") params (.expr body) scope (cloFrom X.env.cells scope.names []) dV doc pm cv ctv) ⟨[], []⟩ binds)
    (tk : Takes ((cxOf CXg X.prog X.w X.K X.mg X.base Ng qg sg g cdg X.A X.stack s H Eg).tr pn xe) W) (hW : ∀ cls d σ' H', E cls d H' → W cls d σ' H') (hr : Room (k + 1) (X.A.deeper (envOfC qg sg s.heap.objs.size g cdg)))
    (hbody : ∀ (A : Around) (outer : List Env) (s : Shared) (H : Hp), Room k (A.deeper (lamEnv X scope s.heap.objs.size f c')) → PE (lamCx X A outer s H E scope f c') body tb)
    (hN : Ng[i]? = some a) (hv : Vis sg a) (hd : (a == ("__debug__" : Str)) = false) (hcd : (a == ("__classdict__" : Str)) = false) :
    PE ((cxOf CXg X.prog X.w X.K X.mg X.base Ng qg sg g cdg X.A X.stack s H Eg).tr pn xe) (.Call (.Name a p1) [] [] p2)
      (fun σZ HZ Q => σZ[i]? = some (some (.ref f)) ∧ HZ c' = some (CodeO c' (X.env.qual ++ "<lambda>")) ∧ HZ f = some (LamO f (X.env.qual ++ "<lambda>") params body scope (cloFrom X.env.cells scope.names []) dV c') ∧ Dfl HZ ∧ tb σ HZ Q) := by
  refine ⟨fun pinsZ sZ σZ HZ Q IZ ⟨hs, hc, hf, hD, ht⟩ => ?_⟩
  have rn := (pe_var (pos := p1) (i := i) hN hv hd hcd).run pinsZ sZ σZ HZ (fun v H1 => v = .ref f ∧ H1 = HZ) IZ ⟨.ref f, hs, rfl, rfl⟩
  refine wpAny_Call_Name_kw (thn rn fun u s1 ⟨v, H1, I1, r1, e1, e2⟩ => ?_)
  subst e1 e2
  obtain rfl : u = Value.ref f := r1
  obtain ⟨⟨doc, pm, ctv, of1⟩, _, _⟩ := I1.hok f _ hf
  obtain ⟨⟨oc, vs, t, hoc, hdc, hvc⟩, _, _⟩ := I1.hok c' _ hc
  have un : Un (frs X.stack) [] H H1 s.heap s1.heap := I1.base
  have rc : codeAny (model X.prog X.w) (X.A.deeper (envOfC qg sg s.heap.objs.size g cdg)) (.call (.ref f) ⟨[], []⟩) (CR (L2.CX X.prog X.w) (envOfC qg sg s.heap.objs.size g cdg :: X.stack) X.prog X.w H1 s1 Q E) s1 := by
    obtain ⟨binds, hbs, hbt⟩ := hbind s1 H1 doc pm (.ref c') ctv I1.hok hD
    refine PySem.W.kla_callFunE hr.depth of1 rfl L.co L.gen rfl ⟨c', oc, vs, t, rfl, hoc, hdc, hvc⟩ (hbt _ _ _ _ ?_)
    refine wpAny_newFunctionEnv (fun y hy => (L.own y hy).1) (fun y hy => L.par _ (hbs y hy)) (fun h₁ hns hsb => ⟨I1.nolimit.fresh _ hsb, ?_⟩) L.kind
    have kp : ∀ b o, s1.heap.get? b = some o → h₁.get? b = some o := fun b o e => hsb.extBut b o (Nat.ne_of_lt (Heap.lt_size e)) (Heap.get?_push_of_some _ e)
    have J : Inv (lamCx X (X.A.deeper (envOfC qg sg s.heap.objs.size g cdg)) (envOfC qg sg s.heap.objs.size g cdg :: X.stack) s1 H1 E scope f c') [] σ H1 { s1 with heap := h₁, toks := s1.toks + binds.length } := body_start I L I1.env0 hr.hd un hns kp
    refine PySem.W.kla_codeExpr (wpAny_mono ((hbody _ _ s1 H1 (hr.deeper _)).run [] _ _ H1 Q J ht) (fun v s' hq => ?_) fun e s' hq => hq)
    exact hq.elim fun w' ⟨H', J', rv, q⟩ => ⟨w', H', J'.os, J'.bare, J'.base, J'.hok, rv, q⟩
  have hx := passes_call tk hW
  refine PySem.W.callWith_F0 ⟨_, _, _, _, of1⟩ (wpAny_call (codeAny_mono rc fun r s' hq => ?_))
  rcases r with e | fl
  · exact hx pinsZ σZ H1 s1 e s' I1 hq
  · cases fl with
    | ret u => exact I1.after hq
    | next => exact hq.elim
    | brk => exact hq.elim
    | cont => exact hq.elim
/-- a def called with a lambda that stands -/
theorem run_kind {TT : (XK → Hp → VK → Prop) → Hp → VK → Prop} {x a : Str} {g f c' : Addr} {k : Nat} {pg : Arguments} {bg : List Stmt} {sg scope : Scope} {dV' kV doc pm cdv ct oc dV : Value} {an od : Option Addr} {osl : Array (Option Value)} {Ng : List Str} {bs : List Str} {Dfl : Hp → Prop}
    {params : Arguments} {body : Expr} {t : XK → TE} {Q : VK} (lk : X.K.lookup g = some ⟨oc, od, .func (PySem.W.fnOf x x pg bg sg dV' kV doc pm an cdv ct), osl⟩) (hcg : PySem.W.codeIn X.K cdv x = true) (hb : L2.Binds X.K (PySem.W.fnOf x x pg bg sg dV' kV doc pm an cdv ct) [a] []) (Sg : FnScope Ng [a] sg)
    (hNg : Ng[0]? = some a) (hva : Vis sg a) (hG : GivesTo X Ng x sg g cdv bg a (X.env.qual ++ "<lambda>") TT) (hr : Room (k + 2) X.A) (L : LamD X.N X.env.scope scope bs)
    (hbind : ∀ (s' : Shared) (H' : Hp) (doc pm cv ctv : Value), HOk X.prog X.w H' s'.heap → Dfl H' → ∃ binds : List (Str × Value), (∀ y ∈ binds, y.1 ∈ bs) ∧ BindsTo s' (PySem.W.kdv_fn "<lambda>" (X.env.qual ++ "<lambda>") params (.expr body) scope (cloFrom X.env.cells scope.names []) dV doc pm cv ctv) ⟨[], []⟩ binds)
    (hbody : ∀ (A : Around) (outer : List Env) (s : Shared) (H : Hp) (E : XK) (f c' : Addr), Room k (A.deeper (lamEnv X scope s.heap.objs.size f c')) → PE (lamCx X A outer s H E scope f c') body (t E))
    (hd : (a == ("__debug__" : Str)) = false) (hcd : (a == ("__classdict__" : Str)) = false) (I : Inv X pins σ H s) (hco : H c' = some (CodeO c' (X.env.qual ++ "<lambda>")))
    (h : TT (fun E H' Q' => H' f = some (LamO f (X.env.qual ++ "<lambda>") params body scope (cloFrom X.env.cells scope.names []) dV c') ∧ Dfl H' ∧ t E σ H' Q') H Q) :
    codeAny (model X.prog X.w) X.A (.call (.ref g) ⟨[.ref f], []⟩) (CR C8.CX0 X.stack X.prog X.w H s Q C8.E0) s := by
  refine run_ofS (N := Ng) (ps := [a]) (us := [.ref f]) (vs := [.ref f]) lk hcg Sg hr I.env0 (hb s [.ref f] I.kIn rfl) (.cons rfl .nil) rfl fun hr' => ?_
  have gv := hG f c' s H Q _ (fun W pn xe E p1 p2 tk hW => act_lam (i := 0) I L hbind tk hW hr' (fun A outer s H hr2 => hbody A outer s H E f c' hr2) hNg hva hd hcd) hco h
  exact gv.elim fun t' ht => ⟨t', ht.1.nox, ht.2⟩
end
end LamY
/-! Calls of a def with lambdas that stand; a comprehension whose tests see what the def's slots tell. -/
namespace LamY
open PySem PySem.Spec PySem.Calls PyProof.Rows L2 LamX
section
variable {X : Cx} {TT : (XK → Hp → VK → Prop) → Hp → VK → Prop} {x a : Str} {g : Addr} {k : Nat} {pg : Arguments} {bg : List Stmt} {sg : Scope} {dV' kV doc pm cdv ct oc : Value} {an od : Option Addr} {osl : Array (Option Value)} {Ng : List Str} {e : Expr} {ta : TA} {p pos : Pos}
/-- x(e), e a lambda that stands -/
theorem pe_kindV {scope : Scope} {params : Arguments} {body : Expr} {t : XK → TE} {bs : List Str} {Dfl : Addr → Hp → Prop} {dVof : Addr → Value} (hg : Gl X x) (hm : X.mg x = some (.ref g)) (hk : PySem.W.keepIn X.K (.ref g) = true)
    (lk : X.K.lookup g = some ⟨oc, od, .func (PySem.W.fnOf x x pg bg sg dV' kV doc pm an cdv ct), osl⟩) (hcg : PySem.W.codeIn X.K cdv x = true) (hb : L2.Binds X.K (PySem.W.fnOf x x pg bg sg dV' kV doc pm an cdv ct) [a] []) (Sg : FnScope Ng [a] sg)
    (hNg : Ng[0]? = some a) (hva : Vis sg a) (hG : GivesTo X Ng x sg g cdv bg a (X.env.qual ++ "<lambda>") TT) (hr : Room (k + 2) X.A) (L : LamD X.N X.env.scope scope bs)
    (hbind : ∀ (D : Addr) (s' : Shared) (H' : Hp) (doc pm cv ctv : Value), HOk X.prog X.w H' s'.heap → Dfl D H' → ∃ binds : List (Str × Value), (∀ y ∈ binds, y.1 ∈ bs) ∧ BindsTo s' (PySem.W.kdv_fn "<lambda>" (X.env.qual ++ "<lambda>") params (.expr body) scope (cloFrom X.env.cells scope.names []) (dVof D) doc pm cv ctv) ⟨[], []⟩ binds)
    (hbody : ∀ (A : Around) (outer : List Env) (s : Shared) (H : Hp) (E : XK) (f c' : Addr), Room k (A.deeper (lamEnv X scope s.heap.objs.size f c')) → PE (lamCx X A outer s H E scope f c') body (t E)) (ha : PA X [e] ta)
    (hdb : (x == ("__debug__" : Str)) = false := by decide) (hd : (a == ("__debug__" : Str)) = false := by decide) (hcd : (a == ("__classdict__" : Str)) = false := by decide)
    (he : starEach [e] X.env = (false, eval e X.env) :: starEach [] X.env := by rfl) (hpl : (backTo pos (starEach [] X.env)).any (·.1) = false := by rfl) :
    PE X (.Call (.Name x p) [e] [] pos) (fun σ H Q => ta σ H fun vs H1 => ∃ f c' D : Addr, vs = [.ref f] ∧ H1 c' = some (CodeO c' (X.env.qual ++ "<lambda>")) ∧
      TT (fun E H' Q' => H' f = some (LamO f (X.env.qual ++ "<lambda>") params body scope (cloFrom X.env.cells scope.names []) (dVof D) c') ∧ Dfl D H' ∧ t E σ H' Q') H1 Q) := by
  refine ⟨fun pins s σ H Q I h => wpAny_Call_Name_kw (ld_glob I hg hm ?_ hdb)⟩
  refine PySem.W.callWith_K (h₀ := X.base) I.ok.mod.kin hk (thn (ha.run pos pins _ σ H _ I h) fun us s1 ⟨vs, H1, I1, r, f, c', D, ev, hc, q⟩ => ⟨I1.kIn, ?_⟩) he hpl
  subst ev
  cases r with
  | @cons _ u _ ur ru rr =>
    cases rr
    obtain rfl : u = Value.ref f := ru
    have rc := run_kind (Q := Q) lk hcg hb Sg hNg hva hG hr L (hbind D) hbody hd hcd I1 hc q
    refine wpAny_call (codeAny_mono rc fun r s2 hq => ?_)
    rcases r with e | fl
    · exact (show False from hq).elim
    · cases fl with
      | ret u => exact I1.after hq
      | next => exact hq.elim
      | brk => exact hq.elim
      | cont => exact hq.elim
/-- x(lambda ..), made as one that stands -/
theorem pe_kindL {lpos : Pos} {scope : Scope} {params : Arguments} {body : Expr} {t : XK → TE} {bs : List Str} {Dfl : Addr → Hp → Prop} {dVof : Addr → Value} (hg : Gl X x) (hm : X.mg x = some (.ref g)) (hk : PySem.W.keepIn X.K (.ref g) = true)
    (lk : X.K.lookup g = some ⟨oc, od, .func (PySem.W.fnOf x x pg bg sg dV' kV doc pm an cdv ct), osl⟩) (hcg : PySem.W.codeIn X.K cdv x = true) (hb : L2.Binds X.K (PySem.W.fnOf x x pg bg sg dV' kV doc pm an cdv ct) [a] []) (Sg : FnScope Ng [a] sg)
    (hNg : Ng[0]? = some a) (hva : Vis sg a) (hG : GivesTo X Ng x sg g cdv bg a (X.env.qual ++ "<lambda>") TT) (hr : Room (k + 2) X.A) (L : LamD X.N X.env.scope scope bs)
    (hbind : ∀ (D : Addr) (s' : Shared) (H' : Hp) (doc pm cv ctv : Value), HOk X.prog X.w H' s'.heap → Dfl D H' → ∃ binds : List (Str × Value), (∀ y ∈ binds, y.1 ∈ bs) ∧ BindsTo s' (PySem.W.kdv_fn "<lambda>" (X.env.qual ++ "<lambda>") params (.expr body) scope (cloFrom X.env.cells scope.names []) (dVof D) doc pm cv ctv) ⟨[], []⟩ binds)
    (hbody : ∀ (A : Around) (outer : List Env) (s : Shared) (H : Hp) (E : XK) (f c' : Addr), Room k (A.deeper (lamEnv X scope s.heap.objs.size f c')) → PE (lamCx X A outer s H E scope f c') body (t E)) (ha : PA X [.Lambda params body scope lpos] ta)
    (hdb : (x == ("__debug__" : Str)) = false := by decide) (hd : (a == ("__debug__" : Str)) = false := by decide) (hcd : (a == ("__classdict__" : Str)) = false := by decide)
    (he : starEach [.Lambda params body scope lpos] X.env = (false, eval (.Lambda params body scope lpos) X.env) :: starEach [] X.env := by rfl) (hpl : (backTo pos (starEach [] X.env)).any (·.1) = false := by rfl) :
    PE X (.Call (.Name x p) [.Lambda params body scope lpos] [] pos) (fun σ H Q => ta σ H fun vs H1 => ∃ f c' D : Addr, vs = [.ref f] ∧ H1 c' = some (CodeO c' (X.env.qual ++ "<lambda>")) ∧
      TT (fun E H' Q' => H' f = some (LamO f (X.env.qual ++ "<lambda>") params body scope (cloFrom X.env.cells scope.names []) (dVof D) c') ∧ Dfl D H' ∧ t E σ H' Q') H1 Q) :=
  pe_kindV hg hm hk lk hcg hb Sg hNg hva hG hr L hbind hbody ha hdb hd hcd he hpl
theorem g_lamS {T : List (Addr × Str)} {q : Str} {params : Arguments} {body : Expr} {scope : Scope} {cl : List (Str × Addr)} {σ : L2.St} {H : Hp} {Q : VK} (t : Tabs T H)
    (h : ∀ (M : Hp) (f c' : Addr), ExtN H M → Tabs T M → (∀ b o, H b = some o → (∀ ps, o ≠ .tbl ps) → b ≠ f) → M f = some (LamO f q params body scope cl .none c') → M c' = some (CodeO c' q) → Q (.ref f) M) : tLamS T q params body scope cl σ H Q := by
  refine ⟨t, fun H1 f c' x t1 nf hc => ?_⟩
  have k : ∀ b o, H1 b = some o → upd H1 f (LamO f q params body scope cl .none c') b = some o := fun b o e => by rw [upd_ne (ne_of_none e nf)]; exact e
  exact h _ f c' (x.trans (.of k)) (t1.ext k) (fun b o e n => ne_of_none (x b o e n) nf) upd_same (k _ _ hc)
theorem g_lamD {T : List (Addr × Str)} {q : Str} {params : Arguments} {body : Expr} {scope : Scope} {cl : List (Str × Addr)} {n : Int} {σ : L2.St} {H : Hp} {Q : VK} (t : Tabs T H)
    (h : ∀ (M : Hp) (f c' D : Addr), ExtN H M → Tabs T M → (∀ b o, H b = some o → (∀ ps, o ≠ .tbl ps) → b ≠ f) → M f = some (LamO f q params body scope cl (.ref D) c') → M c' = some (CodeO c' q) → M D = some (.tup [.int n]) → Q (.ref f) M) : tLamD T q params body scope cl n σ H Q := by
  refine ⟨t, fun H1 f c' D x t1 nf hc nD hD => ?_⟩
  have k : ∀ b o, H1 b = some o → upd H1 f (LamO f q params body scope cl (.ref D) c') b = some o := fun b o e => by rw [upd_ne (ne_of_none e nf)]; exact e
  exact h _ f c' D (x.trans (.of k)) (t1.ext k) (fun b o e n => ne_of_none (x b o e n) nf) upd_same (k _ _ hc) (k _ _ hD)
/-- one parameter, its default a number -/
theorem bind_one {D : Addr} {n : Int} {s' : Shared} {H' : Hp} {fd : FuncData} {y : Str} {kk : Option (Array Value) → Sem (List (Str × Value))} (ok : HOk X.prog X.w H' s'.heap) (hD : H' D = some (.tup [.int n])) (hd : fd.defaults = .ref D) (h₁ : bindArgs fd ⟨[], []⟩ = seqItems? fd.defaults >>= kk)
    (h₂ : ∀ u : Value, kk (some #[u]) = pure [(y, u)]) : ∃ binds : List (Str × Value), (∀ z ∈ binds, z.1 ∈ [y]) ∧ BindsTo s' fd ⟨[], []⟩ binds := by
  obtain ⟨_, its, r, ⟨o, ho, _, m, hdat⟩⟩ := ok D _ hD
  cases r with
  | @cons _ u _ ur ru rr =>
    cases rr
    refine ⟨[(y, u)], fun z hz => ?_, .of_defaults hd ho hdat h₁ (h₂ u)⟩
    rw [List.mem_singleton.mp hz]
    exact List.mem_singleton.mpr rfl
theorem all3 {α : Type} {Pr : α → Prop} {a b c : α} (h1 : Pr a) (h2 : Pr b) (h3 : Pr c) : ∀ x ∈ [a, b, c], Pr x := fun x hx => by
  simp only [List.mem_cons, List.not_mem_nil, or_false] at hx
  rcases hx with rfl | rfl | rfl
  · exact h1
  · exact h2
  · exact h3
/-- what is asked of a lambda without defaults -/
structure LamOk (X : Cx) (k : Nat) (al : Arguments × Expr × Scope × (XK → TE)) : Prop where
  L : LamD X.N X.env.scope al.2.2.1 []
  bind : ∀ (q : Str) (cl : List (Str × Addr)) (doc pm cv ctv : Value), bindArgs (PySem.W.kdv_fn "<lambda>" q al.1 (.expr al.2.1) al.2.2.1 cl .none doc pm cv ctv) ⟨[], []⟩ = pure []
  body : ∀ (A : Around) (outer : List Env) (s : Shared) (H : Hp) (E : XK) (f c' : Addr), Room k (A.deeper (lamEnv X al.2.2.1 s.heap.objs.size f c')) → PE (lamCx X A outer s H E al.2.2.1 f c') al.2.1 (al.2.2.2 E)
/-- f is one of these lambdas -/
def IsLam (X : Cx) (al : Arguments × Expr × Scope × (XK → TE)) (f c' : Addr) : HO := LamO f (X.env.qual ++ "<lambda>") al.1 al.2.1 al.2.2.1 (cloFrom X.env.cells al.2.2.1.names []) .none c'
/-- in a block of the def X: x(e), e one of some lambdas that stand -/
theorem pe_kindB {scope : Scope} {ce : Env} {s0 : Shared} {H0 : Hp} {fp : List Addr} {pins0 : List (Addr × Obj)} {σ0 : L2.St} {alts : List (Arguments × Expr × Scope × (XK → TE))} (I0 : Inv X pins0 σ0 H0 s0) (hfp : ∀ b ∈ fp, FpOk X pins0 H0 b)
    (hal : ∀ al ∈ alts, LamOk X k al) (hg : Gl (X.blk s0 H0 scope ce fp) x) (hm : X.mg x = some (.ref g)) (hk : PySem.W.keepIn X.K (.ref g) = true)
    (lk : X.K.lookup g = some ⟨oc, od, .func (PySem.W.fnOf x x pg bg sg dV' kV doc pm an cdv ct), osl⟩) (hcg : PySem.W.codeIn X.K cdv x = true) (hb : L2.Binds X.K (PySem.W.fnOf x x pg bg sg dV' kV doc pm an cdv ct) [a] []) (Sg : FnScope Ng [a] sg)
    (hNg : Ng[0]? = some a) (hva : Vis sg a) (hG : GivesTo X Ng x sg g cdv bg a (X.env.qual ++ "<lambda>") TT) (hr : Room (k + 2) X.A) (ha : PA (X.blk s0 H0 scope ce fp) [e] ta)
    (hdb : (x == ("__debug__" : Str)) = false := by decide) (hd : (a == ("__debug__" : Str)) = false := by decide) (hcd : (a == ("__classdict__" : Str)) = false := by decide)
    (he : starEach [e] ce = (false, eval e ce) :: starEach [] ce := by rfl) (hpl : (backTo pos (starEach [] ce)).any (·.1) = false := by rfl) :
    PE (X.blk s0 H0 scope ce fp) (.Call (.Name x p) [e] [] pos) (fun σ H Q => ta σ H fun vs H1 => ∃ al ∈ alts, ∃ f c' : Addr, vs = [.ref f] ∧ H1 c' = some (CodeO c' (X.env.qual ++ "<lambda>")) ∧ TT (fun E H' Q' => H' f = some (IsLam X al f c') ∧ al.2.2.2 E σ0 H' Q') H1 Q) := by
  refine ⟨fun pins s σ H Q I h => wpAny_Call_Name_kw (ld_glob I hg hm ?_ hdb)⟩
  refine PySem.W.callWith_K (h₀ := X.base) I.ok.mod.kin hk (thn (ha.run pos pins _ σ H _ I h) fun us s1 ⟨vs, H1, I1, r, al, hm2, f, c', ev, hc, q⟩ => ⟨I1.kIn, ?_⟩) he hpl
  subst ev
  cases r with
  | @cons _ u _ ur ru rr =>
    cases rr
    obtain rfl : u = Value.ref f := ru
    have J : Inv X pins0 σ0 H1 s1 := I0.call' (ch := fp) I1.os I1.base I1.hok I1.bare fun b hb => ⟨(hfp b hb).2.2.2.1, (hfp b hb).2.1, (hfp b hb).2.2.2.2.1, (hfp b hb).2.2.2.2.2⟩
    have A := hal al hm2
    have rc := run_kind (Q := Q) (Dfl := fun _ => True) (bs := []) (dV := .none) lk hcg hb Sg hNg hva hG hr A.L (fun s' H' doc pm cv ctv _ _ => ⟨[], ⟨fun (y : Str × Value) (hy : y ∈ []) => (List.not_mem_nil hy).elim, BindsTo.of_eq (A.bind _ _ _ _ _ _)⟩⟩) A.body hd hcd J hc (by
      have e2 : (fun E H' Q' => H' f = some (LamO f (X.env.qual ++ "<lambda>") al.1 al.2.1 al.2.2.1 (cloFrom X.env.cells al.2.2.1.names []) .none c') ∧ (fun _ => True) H' ∧ al.2.2.2 E σ0 H' Q') = (fun (E : XK) (H' : Hp) (Q' : VK) => H' f = some (IsLam X al f c') ∧ al.2.2.2 E σ0 H' Q') := by
        funext E H' Q'
        unfold IsLam
        simp
      rw [e2]; exact q)
    refine wpAny_call (codeAny_mono rc fun r s2 hq => ?_)
    rcases r with e | fl
    · exact (show False from hq).elim
    · cases fl with
      | ret u => exact I1.after hq
      | next => exact hq.elim
      | brk => exact hq.elim
      | cont => exact hq.elim
end
section
variable {X : Cx}
/-- [elt for tg in iter if tests], the tests read in the block of a def whose slots are known -/
theorem pe_lcI {elt tg iter : Expr} {ifs : List Expr} {scope : Scope} {own : List (Str × Nat)} {pos : Pos} {wi : TI} {g : TG} {tt : L2.St → TT} {te : TE} (hc : X.calm = true) (hN : X.N.Nodup) (hi : PI X tg iter wi) (ok : BlkOk X.N X.env.scope scope own)
    (hg : ∀ (s : Shared) (H : Hp) (C : Addr) (cl : List (Str × Addr)) (fp : List Addr), PG (X.blk s H scope (compEnvC scope cl C X.env) fp) tg g)
    (ht : ∀ (pins : List (Addr × Obj)) (σ : L2.St) (s : Shared) (H : Hp) (C : Addr) (cl : List (Str × Addr)) (fp : List Addr), Inv X pins σ H s → (∀ b ∈ fp, FpOk X pins H b) → PTs (X.blk s H scope (compEnvC scope cl C X.env) fp) ifs (tt σ))
    (he : ∀ (s : Shared) (H : Hp) (C : Addr) (cl : List (Str × Addr)) (fp : List Addr), PE (X.blk s H scope (compEnvC scope cl C X.env) fp) elt te) (hs : ∀ x, foldedSetIterable iter X.env x = pure x := by intro _; rfl) :
    PE X (.ListComp elt [⟨tg, iter, ifs, 0⟩] scope pos) (fun σ => tLc wi g (tt σ) te (own.map (·.2)) σ) := by
  refine ⟨fun pins s σ H Q I h => ?_⟩
  rw [eval_ListComp]
  have caps : ∀ y ∈ scope.names, y.2 = .free → ∃ c, X.env.cells.lookup y.1 = some c := fun y hy e =>
    (ok.free y hy e).elim (fun k => I.ok.has _ (.inl k)) fun k => I.ok.has _ (.inr k)
  refine wpAny_comprehension_free (use := none) rfl hs (closure_ok caps) ok.kind (fun y hy e => (ok.uniq y hy).trans (congrArg some e)) (thn (hi.run pins s σ H _ I h) fun xv s1 hx => thn hx fun itv s2 hy => ?_)
  obtain ⟨it, fp, tn, J, H2, e, I2, T, st2, f2, q⟩ := hy
  subst e
  refine wpAny_newObj_type (newEnv_comp ?_) (Nat.zero_le _)
  obtain ⟨W, ⟨m0, w0⟩, turn⟩ := q s2.heap.objs.size (I2.hok.fresh (Nat.le_refl _))
  -- the new list stands
  obtain ⟨s3, e3, I3⟩ : ∃ s3 : Shared, { s2 with heap := s2.heap.push { cls := .type "list", data := .seq ([] : List Value).toArray } } = s3 ∧ Inv X pins σ (upd H2 s2.heap.objs.size (.lst [])) s3 :=
    ⟨_, rfl, I2.laid (t' := s2.toks) (fun b o z => Heap.get?_push_of_some _ z) (Nat.le_refl _) ⟨Nat.zero_le _, [], 0, .nil, Heap.get?_push_size _ rfl⟩⟩
  have k23 : ∀ b o, s2.heap.get? b = some o → s3.heap.get? b = some o := fun b o z => by rw [← e3]; exact Heap.get?_push_of_some _ z
  have z23 : s3.heap.objs.size = s2.heap.objs.size + 1 := by rw [← e3]; exact Heap.size_push ..
  have f3 : ∀ b ∈ fp, FpOk X pins (upd H2 s2.heap.objs.size (.lst [])) b ∧ b < s3.heap.objs.size := fun b hb => by
    obtain ⟨o, z, _⟩ := T.obj _ _ st2 b hb
    have lt := Heap.lt_size z
    exact ⟨⟨by rw [upd_ne (Nat.ne_of_lt lt)]; exact (f2 b hb).1, (f2 b hb).2⟩, by rw [z23]; exact Nat.lt_succ_of_lt lt⟩
  have st3 := T.keep _ _ s3.heap st2 fun b _ o z => k23 b o z
  rw [e3]
  generalize hD : s2.heap.objs.size = D at w0 turn I3 f3
  generalize upd H2 D (.lst []) = H3 at I3 f3 w0
  have I4 := block_start I3 ok hN f3
  have pg := hg s3 H3 s3.heap.objs.size (cellsFrom (s3.heap.objs.size + 1) scope.names (cloFrom X.env.cells scope.names [])) fp
  have pt := ht pins σ s3 H3 s3.heap.objs.size (cellsFrom (s3.heap.objs.size + 1) scope.names (cloFrom X.env.cells scope.names [])) fp I3 fun b hb => (f3 b hb).1
  have pe := he s3 H3 s3.heap.objs.size (cellsFrom (s3.heap.objs.size + 1) scope.names (cloFrom X.env.cells scope.names [])) fp
  generalize hce : compEnvC scope (cellsFrom (s3.heap.objs.size + 1) scope.names (cloFrom X.env.cells scope.names [])) s3.heap.objs.size X.env = ce at I4 pg pt pe
  have cL : ce.locals = s3.heap.objs.size := by rw [← hce]; rfl
  obtain ⟨s4, e4, I4, k34⟩ : ∃ s4 : Shared, { s3 with heap := pushCells (s3.heap.push { cls := .type "dict", data := .dict #[] }) scope.names } = s4 ∧ Inv (X.blk s3 H3 scope ce fp) [] (wipe σ (own.map (·.2))) H3 s4 ∧ ∀ b o, s3.heap.get? b = some o → s4.heap.get? b = some o :=
    ⟨_, rfl, I4, fun b o z => pushCells_keeps _ _ _ _ (Heap.get?_push_of_some _ z)⟩
  have st4 := T.keep _ _ s4.heap st3 fun b _ o z => k34 b o z
  have stat : ∀ {σ' : L2.St} {H' : Hp} {s' : Shared}, Inv (X.blk s3 H3 scope ce fp) [] σ' H' s' → (∀ b ∈ fp, H' b = none) → ∀ b ∈ fp, FpOk (X.blk s3 H3 scope ce fp) [] H' b := fun {σ' H' s'} I' hn b hb => by
    obtain ⟨x1, x2⟩ := I'.ok.exf b hb
    refine ⟨hn b hb, x1, I'.ok.exfs b hb, .inl hb, fun x c z => x2 x c z, fun p hp => ?_⟩
    replace hp : p ∈ ([] : List (Addr × Obj)) ++ [] := hp
    simp at hp
  have loop : codeAny (model X.prog X.w) X.A (.compLoop (.ListComp elt [⟨tg, iter, ifs, 0⟩] scope pos) 0 (.ref it) (.ref D) ce) (compPost (model X.prog X.w) X.A X.xe none (EP X pins σ Q) (.ref D) s3.heap.objs.size) s4 := by
    refine compLoop_any (fun n s' => ∃ i H', Inv (X.blk s3 H3 scope ce fp) [] (wipe σ (own.map (·.2))) H' s' ∧ tn i s'.heap ∧ (∀ b ∈ fp, H' b = none) ∧ W i n H') (fun n s5 ⟨i, H5, I5, st5, n5, w5⟩ => ?_) m0 ⟨0, H3, I4, st4, fun b hb => (f3 b hb).1.1, w0⟩
    rcases turn i n H5 w5 with ⟨stop, qq⟩ | ⟨go, Nx, hNx, step⟩
    · refine thnF (T.done (X.blk s3 H3 scope ce fp) rfl rfl rfl hc i [] s5 _ H5 (fun _ _ => False) I5 (stat I5 n5) st5 stop) fun r s6 ⟨hr, I6⟩ => ?_
      subst hr
      have I7 : Inv X pins σ H5 s6 := I3.call' (ch := fp) I6.os I6.base I6.hok I6.bare fun b hb => let z := (f3 b hb).1.2; ⟨z.2.2.1, z.1, z.2.2.2.1, z.2.2.2.2⟩
      obtain ⟨m, hn, _⟩ := I6.loc
      replace hn : s6.heap.Ns ce.locals m := hn
      have nC : H5 ce.locals = none := I6.free
      rw [cL] at hn nC
      have F := I3.fpOk (Nat.le_refl _) nC
      exact ⟨m, hn, fun h'' sb => ⟨.ref D, H5, I7.turned (t' := s6.toks) (fun b o hb z => (sb.2 b hb).trans z) F.1 F.2.1 F.2.2.2.1 F.2.2.2.2.1 F.2.2.2.2.2, rfl, qq⟩⟩
    · refine thnF (T.item (X.blk s3 H3 scope ce fp) rfl rfl rfl hc i [] s5 _ H5 (fun _ _ => False) I5 (stat I5 n5) st5 go) fun r s6 ⟨u, hr, h6⟩ => ?_
      subst hr
      refine thnF h6 fun _ s7 ⟨x, H7, I7, r7, y7, st7, n7⟩ => ?_
      refine thnF (pg.run _ s7 _ H7 x u _ (I7.pinned (stat I7 n7) (T.obj _ _ st7)) r7 (step x H7 y7)) fun _ s8 ⟨σ8, H8, I8, hw8, q8⟩ => ?_
      refine thnF (pt.run _ s8 σ8 H8 _ I8 q8) fun b s9 ⟨H9, I9, q9⟩ => ?_
      have fin : ∀ {s' : Shared} {H' : Hp}, Inv (X.blk s3 H3 scope ce fp) ([] ++ pinsAt fp s7.heap) σ8 H' s' → Nx H' → ∃ m, m < n ∧ ∃ i H', Inv (X.blk s3 H3 scope ce fp) [] (wipe σ (own.map (·.2))) H' s' ∧ tn i s'.heap ∧ (∀ b ∈ fp, H' b = none) ∧ W i m H' := fun {s' H'} I' nx => by
        have held : ∀ b ∈ fp, ∀ o, s7.heap.get? b = some o → s'.heap.get? b = some o ∧ H' b = none := fun b hb o z =>
          let y := I'.pin (b, o) (List.mem_append_right _ (List.mem_append_right _ (mem_pinsAt hb z)))
          ⟨y.1, y.2.1⟩
        refine (hNx H' nx).elim fun m' hm => ⟨m', hm.1, i + 1, H', (I'.unpinned (pins := [])).weak (by rw [← hw8, wipe_length]) (fun j v z => ?_), T.keep _ _ _ st7 fun b hb o z => (held b hb o z).1, fun b hb => ?_, hm.2⟩
        · rw [← hw8] at z
          exact (wipe_some z).1
        · exact (T.obj _ _ st7 b hb).elim fun o z => (held b hb o z.1).2
      cases b
      · simp only [if_false, Bool.false_eq_true] at q9 ⊢
        exact fin I9 q9
      · simp only [if_true, if_pos] at q9 ⊢
        exact thnF (pe.run _ s9 σ8 H9 _ I9 q9) fun z s10 ⟨yv, H10, I10, r10, acc, hD10, hz10, nx⟩ => app_ok (X := X.blk s3 H3 scope ce fp) I10 hD10 hz10 r10 fun s11 I11 => fin I11 nx
  rw [← e4] at loop st4
  subst hce
  exact codeAny_compStart_list loop (T.self X.A 0 _ _ _ st4 loop)
end
end LamY
/-! The mathematics of judging: sets of gaps as numbers; plans as what leads from gaps to gaps. Free of any row. -/
namespace Wd
/-! ### bits -/
theorem tb_or {a b i : Nat} : (a ||| b).testBit i = (a.testBit i || b.testBit i) := Nat.testBit_or ..
theorem tb_and {a b i : Nat} : (a &&& b).testBit i = (a.testBit i && b.testBit i) := Nat.testBit_and ..
theorem tb_shl {a i j : Nat} : (a <<< i).testBit j = (decide (i ≤ j) && a.testBit (j - i)) := by
  rw [Nat.testBit_shiftLeft]
theorem tb_shr {a i j : Nat} : (a >>> i).testBit j = a.testBit (i + j) := Nat.testBit_shiftRight ..
theorem tb_one {k i : Nat} : (2 ^ k).testBit i = decide (k = i) := Nat.testBit_two_pow ..
theorem tb_low {k i : Nat} : (2 ^ k - 1).testBit i = decide (i < k) := Nat.testBit_two_pow_sub_one ..
/-- the bits of one set lie below n -/
def Below (n z : Nat) : Prop := ∀ i, z.testBit i = true → i < n
theorem below_lt {n z : Nat} (h : Below n z) : z < 2 ^ n := Nat.lt_pow_two_of_testBit z fun i hi => by
  cases hb : z.testBit i with
  | false => rfl
  | true => have := h i hb; omega
theorem tb_timely {lo hi i : Nat} (h : lo ≤ hi + 1) : (2 ^ (hi + 1) - 2 ^ lo).testBit i = decide (lo ≤ i ∧ i < hi + 1) := by
  obtain ⟨k, hk⟩ : ∃ k, hi + 1 = lo + k := ⟨hi + 1 - lo, by omega⟩
  have e : 2 ^ (hi + 1) - 2 ^ lo = (2 ^ k - 1) <<< lo := by
    rw [hk, Nat.pow_add, Nat.shiftLeft_eq, Nat.sub_mul, Nat.one_mul, Nat.mul_comm]
  rw [e, tb_shl, tb_low]
  by_cases c : lo ≤ i
  · rw [decide_eq_true c, Bool.true_and]
    exact decide_eq_decide.mpr ⟨fun z => ⟨c, by omega⟩, fun z => by omega⟩
  · rw [decide_eq_false c, Bool.false_and, decide_eq_false (fun z => c z.1)]
/-! ### a set spread -/
/-- one turn: how far it is spread, and the set -/
def spr (most : Nat) : Nat → Nat → Nat → Nat
  | 0, _, z => z
  | n + 1, done, z => if done < most then spr most n (done + min (done + 1) (most - done)) (z ||| (z <<< min (done + 1) (most - done))) else z
def Spread (z0 d z : Nat) : Prop := ∀ i, z.testBit i = true ↔ ∃ k, k ≤ d ∧ k ≤ i ∧ z0.testBit (i - k) = true
theorem spread_zero (z : Nat) : Spread z 0 z := fun i => ⟨fun h => ⟨0, Nat.le_refl _, Nat.zero_le _, h⟩, fun ⟨k, h1, _, h3⟩ => by
  have : k = 0 := by omega
  subst this; exact h3⟩
theorem spread_step {z0 d z s : Nat} (h : Spread z0 d z) (hs : s ≤ d + 1) : Spread z0 (d + s) (z ||| (z <<< s)) := fun i => by
  rw [tb_or, tb_shl, Bool.or_eq_true, Bool.and_eq_true, decide_eq_true_eq, h i]
  constructor
  · rintro (⟨k, h1, h2, h3⟩ | ⟨c, hz⟩)
    · exact ⟨k, by omega, h2, h3⟩
    · obtain ⟨k, h1, h2, h3⟩ := (h (i - s)).mp hz
      exact ⟨k + s, by omega, by omega, by rw [show i - (k + s) = i - s - k by omega]; exact h3⟩
  · rintro ⟨k, h1, h2, h3⟩
    by_cases c : k ≤ d
    · exact .inl ⟨k, c, h2, h3⟩
    · refine .inr ⟨by omega, (h (i - s)).mpr ⟨k - s, by omega, by omega, by rw [show i - s - (k - s) = i - k by omega]; exact h3⟩⟩
/-! ### what a window makes of gaps -/
/-- behind a pat; behind a work -/
def gP (lo hi g : Nat) : Nat := if lo ≤ g ∧ g ≤ hi then 0 else hi + 1
def gW (hi g d : Nat) : Nat := min (g + d) (hi + 1)
/-- the gaps from which a pat, a work leads into a goal -/
def preP (lo hi goal : Nat) : Nat := (if goal.testBit 0 = true then 2 ^ (hi + 1) - 2 ^ lo else 0) ||| (if goal.testBit (hi + 1) = true then (2 ^ lo - 1) ||| 2 ^ (hi + 1) else 0)
theorem preP_bit {lo hi goal g : Nat} (h : lo ≤ hi) : (preP lo hi goal).testBit g = true ↔ g ≤ hi + 1 ∧ goal.testBit (gP lo hi g) = true := by
  unfold preP gP
  rw [tb_or, Bool.or_eq_true]
  have a : (if goal.testBit 0 = true then 2 ^ (hi + 1) - 2 ^ lo else 0).testBit g = true ↔ goal.testBit 0 = true ∧ lo ≤ g ∧ g < hi + 1 := by
    by_cases c : goal.testBit 0 = true
    · rw [if_pos c, tb_timely (by omega), decide_eq_true_eq]; exact ⟨fun z => ⟨c, z⟩, fun z => z.2⟩
    · rw [if_neg c, Nat.zero_testBit]; exact ⟨(fun z => nomatch z), fun z => absurd z.1 c⟩
  have b : (if goal.testBit (hi + 1) = true then (2 ^ lo - 1) ||| 2 ^ (hi + 1) else 0).testBit g = true ↔ goal.testBit (hi + 1) = true ∧ (g < lo ∨ g = hi + 1) := by
    by_cases c : goal.testBit (hi + 1) = true
    · rw [if_pos c, tb_or, Bool.or_eq_true, tb_low, tb_one, decide_eq_true_eq, decide_eq_true_eq]; exact ⟨fun z => ⟨c, z.imp id Eq.symm⟩, fun z => z.2.imp id Eq.symm⟩
    · rw [if_neg c, Nat.zero_testBit]; exact ⟨(fun z => nomatch z), fun z => absurd z.1 c⟩
  rw [a, b]
  by_cases c : lo ≤ g ∧ g ≤ hi
  · rw [if_pos c]
    exact ⟨fun z => ⟨by omega, z.elim (fun y => y.1) fun y => by omega⟩, fun z => .inl ⟨z.2, c.1, by omega⟩⟩
  · rw [if_neg c]
    exact ⟨fun z => z.elim (fun y => by omega) fun y => ⟨by omega, y.1⟩, fun z => .inr ⟨z.2, by omega⟩⟩
/-- what gaps_ahead_of_work tells, of its steps -/
theorem preW_bit {hi goal least most g s1 goal2 s2 : Nat} (hb : Below (hi + 2) goal) (hl : least ≤ most) (h1 : Spread (2 ^ (hi + 1)) most s1) (e2 : goal2 = if goal.testBit (hi + 1) = true then goal ||| s1 else goal) (h2 : Spread goal2 (most - least) s2) (hg : g ≤ hi + 1) :
    (s2 >>> most).testBit g = true ↔ ∃ d, least ≤ d ∧ d ≤ most ∧ goal.testBit (gW hi g d) = true := by
  have k2 : ∀ d, d ≤ most → (goal2.testBit (g + d) = true ↔ goal.testBit (gW hi g d) = true) := fun d hd => by
    unfold gW
    by_cases c : g + d ≤ hi
    · rw [Nat.min_eq_left (by omega), e2]
      split
      · rw [tb_or, Bool.or_eq_true]
        refine ⟨fun z => z.elim id fun y => ?_, .inl⟩
        obtain ⟨k, _, y2, y3⟩ := (h1 _).mp y
        rw [tb_one, decide_eq_true_eq] at y3
        omega
      · exact Iff.rfl
    · rw [Nat.min_eq_right (by omega), e2]
      split
      · rename_i cb
        rw [tb_or, Bool.or_eq_true]
        refine ⟨fun _ => cb, fun _ => .inr ((h1 _).mpr ⟨g + d - (hi + 1), by omega, by omega, ?_⟩)⟩
        rw [tb_one, decide_eq_true_eq]; omega
      · rename_i cb
        refine ⟨fun z => ?_, fun z => absurd z cb⟩
        have := hb _ z
        have e : g + d = hi + 1 := by omega
        rw [e] at z; exact z
  rw [tb_shr, h2]
  constructor
  · rintro ⟨k, c1, c2, c3⟩
    refine ⟨most - k, by omega, by omega, (k2 _ (by omega)).mp ?_⟩
    rw [show g + (most - k) = most + g - k by omega]; exact c3
  · rintro ⟨d, c1, c2, c3⟩
    refine ⟨most - d, by omega, by omega, ?_⟩
    rw [show most + g - (most - d) = g + d by omega]; exact (k2 _ c2).mpr c3

/-! ### what a plan makes of gaps -/
def iterP (F : (Nat → Prop) → Nat → Prop) : Nat → (Nat → Prop) → Nat → Prop
  | 0, G => G
  | n + 1, G => F (iterP F n G)
mutual
/-- from the gap g some run leads into G -/
def Led (lo hi : Nat) : Pl → (Nat → Prop) → Nat → Prop
  | .pat, G, g => G (gP lo hi g)
  | .work a b, G, g => ∃ d : Nat, a ≤ (d : Int) ∧ (d : Int) ≤ b ∧ G (gW hi g d)
  | .row ps, G, g => Leds lo hi ps G g
  | .either ps, G, g => LedE lo hi ps G g
  | .loop a b p, G, g => ∃ n : Nat, a ≤ (n : Int) ∧ (n : Int) ≤ b ∧ iterP (Led lo hi p) n G g
def Leds (lo hi : Nat) : List Pl → (Nat → Prop) → Nat → Prop
  | [], G, g => G g
  | p :: ps, G, g => Led lo hi p (Leds lo hi ps G) g
def LedE (lo hi : Nat) : List Pl → (Nat → Prop) → Nat → Prop
  | [], _, _ => False
  | p :: ps, G, g => Led lo hi p G g ∨ LedE lo hi ps G g
end
theorem iterP_mono {F : (Nat → Prop) → Nat → Prop} (hF : ∀ {G G' : Nat → Prop}, (∀ i, G i → G' i) → ∀ i, F G i → F G' i) {G G' : Nat → Prop} (h : ∀ i, G i → G' i) : ∀ n i, iterP F n G i → iterP F n G' i
  | 0, i, x => h i x
  | n + 1, i, x => hF (iterP_mono hF h n) i x
mutual
theorem Led.mono {lo hi : Nat} : ∀ (p : Pl) {G G' : Nat → Prop}, (∀ i, G i → G' i) → ∀ i, Led lo hi p G i → Led lo hi p G' i
  | .pat, G, G', h, i, x => by unfold Led at x ⊢; exact h _ x
  | .work a b, G, G', h, i, x => by
    unfold Led at x ⊢
    obtain ⟨d, h1, h2, h3⟩ := x
    exact ⟨d, h1, h2, h _ h3⟩
  | .row ps, G, G', h, i, x => by unfold Led at x ⊢; exact Leds.mono ps h i x
  | .either ps, G, G', h, i, x => by unfold Led at x ⊢; exact LedE.mono ps h i x
  | .loop a b p, G, G', h, i, x => by
    unfold Led at x ⊢
    obtain ⟨n, h1, h2, h3⟩ := x
    exact ⟨n, h1, h2, iterP_mono (fun hh j y => Led.mono p hh j y) h n i h3⟩
theorem Leds.mono {lo hi : Nat} : ∀ (ps : List Pl) {G G' : Nat → Prop}, (∀ i, G i → G' i) → ∀ i, Leds lo hi ps G i → Leds lo hi ps G' i
  | [], G, G', h, i, x => by unfold Leds at x ⊢; exact h i x
  | p :: ps, G, G', h, i, x => by unfold Leds at x ⊢; exact Led.mono p (Leds.mono ps h) i x
theorem LedE.mono {lo hi : Nat} : ∀ (ps : List Pl) {G G' : Nat → Prop}, (∀ i, G i → G' i) → ∀ i, LedE lo hi ps G i → LedE lo hi ps G' i
  | [], G, G', h, i, x => by unfold LedE at x; exact x.elim
  | p :: ps, G, G', h, i, x => by unfold LedE at x ⊢; exact x.imp (Led.mono p h i) (LedE.mono ps h i)
end
theorem gP_le {lo hi g : Nat} : gP lo hi g ≤ hi + 1 := by unfold gP; split <;> omega
theorem gW_le {hi g d : Nat} : gW hi g d ≤ hi + 1 := by unfold gW; omega
theorem gP_bit {lo hi : Nat} : gP lo hi (hi + 1) = hi + 1 := by unfold gP; rw [if_neg (by omega)]
theorem gW_bit {hi d : Nat} : gW hi (hi + 1) d = hi + 1 := by unfold gW; omega
mutual
/-- bitten stays bitten -/
theorem led_bitten {lo hi : Nat} : ∀ (p : Pl) {d l : Nat} {G : Nat → Prop}, okP d l p → G (hi + 1) → Led lo hi p G (hi + 1)
  | .pat, _, _, G, _, g => by unfold Led; rw [gP_bit]; exact g
  | .work a b, _, _, G, ok, g => by
    unfold okP at ok
    unfold Led
    exact ⟨a.toNat, by omega, by omega, by rw [gW_bit]; exact g⟩
  | .row ps, 0, _, G, ok, _ => by unfold okP at ok; exact ok.elim
  | .row ps, d + 1, l, G, ok, g => by unfold okP at ok; unfold Led; exact leds_bitten ps ok.2.2 g
  | .either ps, 0, _, G, ok, _ => by unfold okP at ok; exact ok.elim
  | .either [], d + 1, l, G, ok, g => by unfold okP at ok; exact absurd ok.1 (Nat.lt_irrefl 0)
  | .either (p :: ps), d + 1, l, G, ok, g => by
    unfold okP okPs at ok
    unfold Led LedE
    exact .inl (led_bitten p ok.2.2.1 g)
  | .loop a b p, 0, _, G, ok, _ => by unfold okP at ok; exact ok.elim
  | .loop a b p, d + 1, 0, G, ok, _ => by unfold okP at ok; exact ok.elim
  | .loop a b p, d + 1, l + 1, G, ok, g => by
    unfold okP at ok
    unfold Led
    refine ⟨a.toNat, by omega, by omega, ?_⟩
    have it : ∀ n, iterP (Led lo hi p) n G (hi + 1) := fun n => by
      induction n with
      | zero => exact g
      | succ n ih => exact led_bitten p ok.2.2.2 ih
    exact it _
theorem leds_bitten {lo hi : Nat} : ∀ (ps : List Pl) {d l : Nat} {G : Nat → Prop}, okPs d l ps → G (hi + 1) → Leds lo hi ps G (hi + 1)
  | [], _, _, G, _, g => by unfold Leds; exact g
  | p :: ps, d, l, G, ok, g => by
    unfold okPs at ok
    unfold Leds
    exact led_bitten p ok.1 (leds_bitten ps ok.2 g)
end
/-- the number of a goal's gaps, and of the gaps from which a plan leads there -/
abbrev inS (z : Nat) : Nat → Prop := fun j => z.testBit j = true
structure Bits (hi : Nat) (F : (Nat → Prop) → Nat → Prop) (z g : Nat) : Prop where
  low : Below (hi + 2) g
  bit : ∀ i, i ≤ hi + 1 → (g.testBit i = true ↔ F (inS z) i)
theorem bits_eq {a b n : Nat} (ha : Below n a) (hb : Below n b) (h : ∀ i, i < n → (a.testBit i = true ↔ b.testBit i = true)) : a = b := Nat.eq_of_testBit_eq fun i => by
  by_cases c : i < n
  · have := h i c
    cases x : a.testBit i <;> cases y : b.testBit i <;> simp_all
  · cases x : a.testBit i with
    | true => exact absurd (ha i x) c
    | false =>
      cases y : b.testBit i with
      | true => exact absurd (hb i y) c
      | false => rfl
theorem Bits.uniq {hi : Nat} {F : (Nat → Prop) → Nat → Prop} {z a b : Nat} (h1 : Bits hi F z a) (h2 : Bits hi F z b) : a = b :=
  bits_eq h1.low h2.low fun i hi' => (h1.bit i (by omega)).trans (h2.bit i (by omega)).symm
/-! ### how many -/
def card (n z : Nat) : Nat := ((List.range n).filter fun i => z.testBit i).length
theorem card_le (n z : Nat) : card n z ≤ n := by
  have := List.length_filter_le (fun i => z.testBit i) (List.range n)
  rw [List.length_range] at this
  exact this
theorem filter_len_le {l : List Nat} {p q : Nat → Bool} (h : ∀ x ∈ l, p x = true → q x = true) : (l.filter p).length ≤ (l.filter q).length := by
  induction l with
  | nil => exact Nat.le_refl _
  | cons x l ih =>
    have ih := ih fun y hy => h y (List.mem_cons_of_mem _ hy)
    have hx := h x List.mem_cons_self
    rw [List.filter_cons, List.filter_cons]
    by_cases c : p x = true
    · rw [if_pos c, if_pos (hx c), List.length_cons, List.length_cons]; omega
    · rw [if_neg c]
      split
      · rw [List.length_cons]; omega
      · exact ih
theorem filter_len_lt {l : List Nat} {p q : Nat → Bool} (h : ∀ x ∈ l, p x = true → q x = true) {y : Nat} (hy : y ∈ l) (hp : p y = false) (hq : q y = true) : (l.filter p).length < (l.filter q).length := by
  induction l with
  | nil => cases hy
  | cons x l ih =>
    have hl := filter_len_le (l := l) (p := p) (q := q) fun z hz => h z (List.mem_cons_of_mem _ hz)
    have hx := h x List.mem_cons_self
    rw [List.filter_cons, List.filter_cons]
    rcases List.mem_cons.mp hy with rfl | hy
    · rw [if_neg (by simp [hp]), if_pos hq, List.length_cons]; omega
    · have ih := ih (fun z hz => h z (List.mem_cons_of_mem _ hz)) hy
      by_cases c : p x = true
      · rw [if_pos c, if_pos (hx c), List.length_cons, List.length_cons]; omega
      · rw [if_neg c]
        split
        · rw [List.length_cons]; omega
        · exact ih
theorem card_lt {n a b : Nat} (ha : Below n a) (hb : Below n b) (h : ∀ i, a.testBit i = true → b.testBit i = true) (ne : a ≠ b) : card n a < card n b := by
  have ⟨i, h1, h2⟩ : ∃ i, a.testBit i = false ∧ b.testBit i = true := by
    refine Classical.byContradiction fun z => ne (bits_eq ha hb fun i _ => ⟨h i, fun y => ?_⟩)
    cases x : a.testBit i with
    | true => rfl
    | false => exact absurd ⟨i, x, y⟩ z
  exact filter_len_lt (fun x _ y => h x y) (List.mem_range.mpr (hb i h2)) h1 h2
end Wd
/-! |, &, <<, >> of naturals; a method of several classes. -/
namespace Wd
open PySem PySem.Spec PyProof.Rows L2
section
variable {X : Cx}
def rOrB : R2 := fun x y H Q => ∃ n m : Nat, x = .int (n : Int) ∧ y = .int (m : Int) ∧ Q (.int ((n ||| m : Nat) : Int)) H
theorem op_orB : OpR X (binaryOp .BitOr) rOrB := by
  intro pins s σ H x y v u Q I rx ry h
  obtain ⟨n, m, rfl, rfl, q⟩ := h
  have e : Builtin.bitOr (n : Int) (m : Int) = ((n ||| m : Nat) : Int) := by rw [bitOr_nn (Int.natCast_nonneg _) (Int.natCast_nonneg _), Int.toNat_natCast, Int.toNat_natCast]
  rw [← e] at q
  exact op_or pins s σ H _ _ v u Q I rx ry ⟨_, _, rfl, rfl, q⟩
def rAndB : R2 := fun x y H Q => ∃ n m : Nat, x = .int (n : Int) ∧ y = .int (m : Int) ∧ Q (.int ((n &&& m : Nat) : Int)) H
theorem op_andB : OpR X (binaryOp .BitAnd) rAndB := by
  intro pins s σ H x y v u Q I rx ry h
  obtain ⟨n, m, rfl, rfl, q⟩ := h
  have e : Builtin.bitAnd (n : Int) (m : Int) = ((n &&& m : Nat) : Int) := rfl
  rw [← e] at q
  exact op_and pins s σ H _ _ v u Q I rx ry ⟨_, _, rfl, rfl, q⟩
def rShlB : R2 := fun x y H Q => ∃ n m : Nat, x = .int (n : Int) ∧ y = .int (m : Int) ∧ n < 2 ^ 100000 ∧ m ≤ 100000 ∧ Q (.int ((n <<< m : Nat) : Int)) H
theorem op_shlB : OpR X (binaryOp .LShift) rShlB := by
  intro pins s σ H x y v u Q I rx ry h
  obtain ⟨n, m, rfl, rfl, hn, hm, q⟩ := h
  refine op_shlN pins s σ H _ _ v u Q I rx ry ⟨n, m, rfl, rfl, shl_ok (n := 100000) (by rw [Int.natAbs_natCast]; exact hn) (by omega), ?_⟩
  have e : (n : Int) * 2 ^ m = ((n <<< m : Nat) : Int) := by rw [Nat.shiftLeft_eq, Int.natCast_mul, PySem.W.kbt_cast]
  rw [e]; exact q
def rShrB : R2 := fun x y H Q => ∃ n m : Nat, x = .int (n : Int) ∧ y = .int (m : Int) ∧ Q (.int ((n >>> m : Nat) : Int)) H
theorem op_shrB : OpR X (binaryOp .RShift) rShrB := by
  intro pins s σ H x y v u Q I rx ry h
  obtain ⟨n, m, rfl, rfl, q⟩ := h
  refine op_shrN pins s σ H _ _ v u Q I rx ry ⟨n, m, rfl, rfl, ?_⟩
  have e : (n : Int) / 2 ^ m = ((n >>> m : Nat) : Int) := by rw [Nat.shiftRight_eq_div_pow, Int.natCast_ediv, PySem.W.kbt_cast]
  rw [e]; exact q
end
/-! ### a method that several classes have -/
def tMethA (Cs : List Addr) (m : Str) (sp : Sp) (ta : TE) (t : TA) : TE := fun σ H Q => ta σ H fun y H1 => ∃ a dx fs C, C ∈ Cs ∧ y = .ref a ∧ H1 a = some (.ins C dx fs) ∧ fs.lookup m = none ∧ t σ H1 fun vs H2 => sp (y :: (vs ++ [])) H2 Q C8.E0
def MetA (P : Program) (w : World) (K : PySem.W.Frag) (mg : Str → Option Value) (base : Heap) (k : Nat) (Cs : List Addr) (m : Str) (sp : Sp) : Prop := ∀ C ∈ Cs, ∃ k', k' ≤ k ∧ C8.Met P w K mg base k' C m sp []
section
variable {X : Cx} {k j : Nat} {Cs : List Addr} {m : Str} {sp : Sp} {pos apos : Pos} {o e : Expr} {es : List Expr} {ta : TE} {t : TA}
theorem pe_mtA {pl : Sem Bool} (c : MetA X.prog X.w X.K X.mg X.base k Cs m sp) (hr : Room j X.A) (hk : k ≤ j) (ho : PE X o ta) (ha : PA X (e :: es) t)
    (hst : starEach (e :: es) X.env = (false, eval e X.env) :: starEach es X.env := by rfl) (hpl : (backTo pos (starEach es X.env)).any (·.1) = false := by rfl)
    (ht : eval (.Call (.Attribute o m apos) (e :: es) [] pos) X.env = (do
      let obj ← eval o X.env
      standAt apos.atName
      let (fn, own) ← holding [obj] (getMethod obj m pl)
      callWith pos fn own (backTo pos (starEach (e :: es) X.env)) (backToKw pos (keywordEach [] X.env))) := by rfl) :
    PE X (.Call (.Attribute o m apos) (e :: es) [] pos) (tMethA Cs m sp ta t) := by
  refine ⟨fun pins s σ H Q I h => PySem.W.methodCall_KW (pl := pl) (thn (ho.run pins s σ H _ I h) fun u s1 ⟨y, H1, I1, ry, a, dx, fs, C, hC, ey, ea, l, q⟩ => ?_) ht⟩
  subst ey
  obtain rfl : u = Value.ref a := ry
  obtain ⟨k', hk', f, fd, ps, ds, hc, hm, F, b, d⟩ := c C hC
  exact getmeth_ok I1 ea hc hm l (PySem.W.callWith_K (first := [.ref a]) (h₀ := X.base) I.ok.mod.kin hm.kp (thn (ha.run pos pins s1 σ H1 _ I1 q) fun us s2 ⟨vs, H2, I2, r, q2⟩ => ⟨I2.kIn, run_fn (us := .ref a :: us) (vs := .ref a :: vs) F (hr.mono (Nat.le_trans hk' hk)) b d C8.pass0 I2 (.cons rfl r) q2⟩) hst hpl)
end
end Wd
/-! A set comprehension of two fors, its members whole numbers. -/
namespace Wd
open PySem PySem.Spec PyProof.Rows L2
/-- the comprehension that is meant -/
abbrev sc2 (elt t0 i0 t1 i1 : Expr) (f0 f1 : List Expr) (sco : Scope) (pos : Pos) : Expr := .SetComp elt [⟨t0, i0, f0, 0⟩, ⟨t1, i1, f1, 0⟩] sco pos
section
variable {prg : Program} {w : World} {A : Around} {R : Result → Shared → Prop} {elt t0 i0 t1 i1 : Expr} {f0 f1 : List Expr} {sco : Scope} {pos : Pos} {it acc : Value} {env : Env}
theorem sc2_turn0 : compTurn (sc2 elt t0 i0 t1 i1 f0 f1 sco pos) 0 it acc env = (do
    standAt i0.pos
    match ← pyNext it with
    | none => pure (.done .next)
    | some v =>
      letOwnedTupleGo t0 it v
      assign t0 env v
      let mut go := true
      for c in f0 do
        if go then go ← isTrue c env (eval c env)
      if go then
        let y ← eval i1 env
        standAt i1.pos
        let y ← foldedSetIterable i1 env y
        let _ ← runOwn (.compStart (sc2 elt t0 i0 t1 i1 f0 f1 sco pos) 1 (← holding [y] (pyIter y)) acc env) env
      again (.compLoop (sc2 elt t0 i0 t1 i1 f0 f1 sco pos) 0 it acc env)) := by rfl
theorem sc2_turn1 : compTurn (sc2 elt t0 i0 t1 i1 f0 f1 sco pos) 1 it acc env = (do
    standAt i1.pos
    match ← pyNext it with
    | none => pure (.done .next)
    | some v =>
      letOwnedTupleGo t1 it v
      assign t1 env v
      let mut go := true
      for c in f1 do
        if go then go ← isTrue c env (eval c env)
      if go then
        (do let v ← eval elt env; standAt elt.pos; let _ ← call (.builtin "set.add") [acc, v])
      again (.compLoop (sc2 elt t0 i0 t1 i1 f0 f1 sco pos) 1 it acc env)) := by rfl
/-- where an exception of the turn goes -/
abbrev offs (prg : Program) (w : World) (A : Around) (env : Env) (R : Result → Shared → Prop) : Value → Shared → Prop := notedBy (model prg w) A env fun e s' => R (.error e) s'
abbrev tests2 (fs : List Expr) (env : Env) : Sem Bool := forIn fs true fun c r => if r = true then do let ok ← isTrue c env (eval c env); pure (ForInStep.yield ok) else pure (ForInStep.yield r)
theorem sc2_loop0 (hs : ∀ x, foldedSetIterable i1 env x = pure x) (J : Nat → Shared → Prop)
    (turn : ∀ n s, J n s → wpAny (model prg w) A (pyNext it) (fun r sa => match r with
      | none => R (.ok .next) sa
      | some v => wpAny (model prg w) A (letOwnedTupleGo t0 it v) (fun _ sb => wpAny (model prg w) A (assign t0 env v) (fun _ sc => wpAny (model prg w) A (tests2 f0 env) (fun go sd =>
            if go = true then wpAny (model prg w) A (eval i1 env) (fun x se => wpAny (model prg w) A (pyIter x) (fun jt sf => codeAny (model prg w) A (.compStart (sc2 elt t0 i0 t1 i1 f0 f1 sco pos) 1 jt acc env) (fun r sg => match r with
                | .ok _ => ∃ m, m < n ∧ J m sg
                | .error _ => False) sf) (offs prg w A env R) se) (offs prg w A env R) sd
            else ∃ m, m < n ∧ J m sd) (offs prg w A env R) sc) (offs prg w A env R) sb) (offs prg w A env R) sa) (offs prg w A env R) s)
    (n : Nat) {s : Shared} (h : J n s) : codeAny (model prg w) A (.compLoop (sc2 elt t0 i0 t1 i1 f0 f1 sco pos) 0 it acc env) R s := by
  refine codeAny_loop rfl J (fun n s hJ => ?_) n h
  show wpAny _ A ((compTurn (sc2 elt t0 i0 t1 i1 f0 f1 sco pos) 0 it acc env).onRaise (fun x => do noteFrame x env; theTreesLotGoes x)) _ _ s
  refine wpAny_noted ?_
  rw [sc2_turn0]
  refine wpAny_bind (wpAny_standAt (wpAny_bind (wpAny_mono (turn n s hJ) (fun r sa ha => ?_) fun _ _ z => z)))
  match r, ha with
  | none, ha => exact wpAny_pure ha
  | some v, ha =>
    refine wpAny_bind (wpAny_mono ha (fun _ sb hb => ?_) fun _ _ z => z)
    refine wpAny_bind (wpAny_mono hb (fun _ sc hc => ?_) fun _ _ z => z)
    refine wpAny_bind (wpAny_mono hc (fun go sd hd => ?_) fun _ _ z => z)
    cases go with
    | false => exact wpAny_pure ⟨rfl, hd⟩
    | true =>
      refine wpAny_bind (wpAny_mono hd (fun x se he => ?_) fun _ _ z => z)
      refine wpAny_bind (wpAny_standAt (wpAny_bind (wpAny_of_eq (hs x) ?_)))
      refine wpAny_bind (wpAny_holding (wpAny_mono he (fun jt sf hf => ?_) fun _ _ z => z))
      refine wpAny_bind (wpAny_runOwn ?_)
      rw [Around.mark_none]
      refine codeAny_mono hf fun r sg hg => ?_
      match r, hg with
      | .ok _, hg =>
        first
          | exact wpAny_pure ⟨rfl, hg⟩
          | exact wpAny_bind (wpAny_pure (wpAny_pure ⟨rfl, hg⟩))
      | .error _, hg => exact hg.elim
theorem sc2_loop1 (J : Nat → Shared → Prop)
    (turn : ∀ n s, J n s → wpAny (model prg w) A (pyNext it) (fun r sa => match r with
      | none => R (.ok .next) sa
      | some v => wpAny (model prg w) A (letOwnedTupleGo t1 it v) (fun _ sb => wpAny (model prg w) A (assign t1 env v) (fun _ sc => wpAny (model prg w) A (tests2 f1 env) (fun go sd =>
            if go = true then wpAny (model prg w) A (eval elt env) (fun x se => wpAny (model prg w) A (call (.builtin "set.add") [acc, x]) (fun _ sf => ∃ m, m < n ∧ J m sf) (offs prg w A env R) se) (offs prg w A env R) sd
            else ∃ m, m < n ∧ J m sd) (offs prg w A env R) sc) (offs prg w A env R) sb) (offs prg w A env R) sa) (offs prg w A env R) s)
    (n : Nat) {s : Shared} (h : J n s) : codeAny (model prg w) A (.compLoop (sc2 elt t0 i0 t1 i1 f0 f1 sco pos) 1 it acc env) R s := by
  refine codeAny_loop rfl J (fun n s hJ => ?_) n h
  show wpAny _ A ((compTurn (sc2 elt t0 i0 t1 i1 f0 f1 sco pos) 1 it acc env).onRaise (fun x => do noteFrame x env; theTreesLotGoes x)) _ _ s
  refine wpAny_noted ?_
  rw [sc2_turn1]
  refine wpAny_bind (wpAny_standAt (wpAny_bind (wpAny_mono (turn n s hJ) (fun r sa ha => ?_) fun _ _ z => z)))
  match r, ha with
  | none, ha => exact wpAny_pure ha
  | some v, ha =>
    refine wpAny_bind (wpAny_mono ha (fun _ sb hb => ?_) fun _ _ z => z)
    refine wpAny_bind (wpAny_mono hb (fun _ sc hc => ?_) fun _ _ z => z)
    refine wpAny_bind (wpAny_mono hc (fun go sd hd => ?_) fun _ _ z => z)
    cases go with
    | false => exact wpAny_pure ⟨rfl, hd⟩
    | true =>
      refine wpAny_bind (wpAny_bind (wpAny_mono hd (fun x se he => ?_) fun _ _ z => z))
      refine wpAny_bind (wpAny_standAt (wpAny_bind (wpAny_mono he (fun _ sf hf => ?_) fun _ _ z => z)))
      exact wpAny_pure (wpAny_pure ⟨rfl, hf⟩)
theorem sc2_start1 {s : Shared} (h0 : codeAny (model prg w) A (.compLoop (sc2 elt t0 i0 t1 i1 f0 f1 sco pos) 1 it acc env) R s)
    (h : wpAny (model prg w) A (pyIter it) (fun jt s' => codeAny (model prg w) A (.compLoop (sc2 elt t0 i0 t1 i1 f0 f1 sco pos) 1 jt acc env) R s') (offs prg w A env R) s) :
    codeAny (model prg w) A (.compStart (sc2 elt t0 i0 t1 i1 f0 f1 sco pos) 1 it acc env) R s := by
  refine codeAny_of_tree ?_
  show wpAny _ _ ((compStart (sc2 elt t0 i0 t1 i1 f0 f1 sco pos) 1 it acc env).onRaise (fun x => do noteFrame x env; standAt theWindowsPlace)) _ _ s
  refine wpAny_notedAt ?_
  unfold compStart
  show wpAny _ _ (ask >>= _) _ _ s
  refine wpAny_bind (wpAny_askSetting (wpAny_ite ?_))
  have hb : wpAny (model prg w) A (pyIter it) (fun jt s' => wpAny (model prg w) A (pure jt) (fun jt s' => codeAny (model prg w) A (.compLoop (sc2 elt t0 i0 t1 i1 f0 f1 sco pos) 1 jt acc env) R s') (offs prg w A env R) s') (offs prg w A env R) s := wpAny_mono h (fun _ _ z => wpAny_pure z) fun _ _ z => z
  split
  · first
      | exact wpAny_bind (wpAny_pure (wpAny_pure ⟨rfl, h0⟩))
      | exact wpAny_pure ⟨rfl, h0⟩
  · refine wpAny_bind (wpAny_rule ?_)
    first
      | exact wpAny_bind (wpAny_standAt (wpAny_bind (wpAny_mono h (fun _ _ z => wpAny_pure ⟨rfl, z⟩) fun _ _ z => z)))
      | (show wpAny _ _ (standAt i1.pos >>= _) _ _ s; exact wpAny_bind (wpAny_standAt (wpAny_bind (wpAny_mono h (fun _ _ z => wpAny_pure ⟨rfl, z⟩) fun _ _ z => z))))
end
/-- the second for, to the end of its list; D the set that is filled -/
def InS (w : World) (g1 : TG) (tt1 : TT) (te : TE) (vs1 : List Nat) (σ2 : L2.St) (D : Addr) (N : Hp → Prop) (J1 : It) (H4 : Hp) : Prop := ∃ W1 : Nat → Nat → Hp → Prop, (∃ m, W1 0 m H4) ∧ ∀ j k H, W1 j k H → (J1.stop j H ∧ N H) ∨
  (J1.go j H ∧ ∃ M : Hp → Prop, (∀ H', M H' → ∃ k', k' < k ∧ W1 (j + 1) k' H') ∧ ∀ x H', J1.yld j H x H' → g1 x (wipe σ2 vs1) H' fun σ3 H5 => wipe σ3 vs1 = wipe σ2 vs1 ∧ tt1 σ3 H5 fun b H6 =>
    if b = true then te σ3 H6 fun y H7 => ∃ (c : Int) (S : Int → Bool) (n : Nat), y = .int c ∧ H7 D = some (SetO w D S n) ∧ n + 1 < scanBound ∧ M (upd H7 D (SetO w D (fun j => S j || decide (j = c)) (if S c = true then n else n + 1))) else M H6)
def Sc2End (w : World) (g : TG) (tt : TT) (wi1 : TI) (g1 : TG) (tt1 : TT) (te : TE) (vs vs1 : List Nat) (σ : L2.St) (Q : VK) (J : It) (H1 : Hp) : Prop := ∀ D, H1 D = none → ∃ W : Nat → Nat → Hp → Prop, (∃ m, W 0 m (upd H1 D (SetO w D (fun _ => false) 0))) ∧ ∀ i m H, W i m H → (J.stop i H ∧ Q (.ref D) H) ∨
  (J.go i H ∧ ∃ M : Hp → Prop, (∀ H', M H' → ∃ m', m' < m ∧ W (i + 1) m' H') ∧ ∀ x H', J.yld i H x H' → g x (wipe σ vs) H' fun σ2 H2 => wipe σ2 vs = wipe σ vs ∧ tt σ2 H2 fun b H3 => if b = true then wi1 σ2 H3 (InS w g1 tt1 te vs1 σ2 D M) else M H3)
def tSc2 (w : World) (wi : TI) (g : TG) (tt : TT) (wi1 : TI) (g1 : TG) (tt1 : TT) (te : TE) (vs vs1 : List Nat) : TE := fun σ H Q => wi σ H (Sc2End w g tt wi1 g1 tt1 te vs vs1 σ Q)
section
variable {X : Cx} {elt t0 i0 t1 i1 : Expr} {f0 f1 : List Expr} {sco : Scope} {own : List (Str × Nat)} {vs1 : List Nat} {pos : Pos} {wi wi1 : TI} {g g1 : TG} {tt tt1 : TT} {te : TE}
theorem pe_sc2 (hc : X.calm = true) (hN : X.N.Nodup) (hi : PI X t0 i0 wi) (ok : BlkOk X.N X.env.scope sco own) (hv : ∀ i ∈ vs1, i ∈ own.map (·.2))
    (hg : ∀ (s : Shared) (H : Hp) (C : Addr) (cl : List (Str × Addr)) (fp : List Addr), PG (X.blk s H sco (compEnvC sco cl C X.env) fp) t0 g)
    (ht : ∀ (s : Shared) (H : Hp) (C : Addr) (cl : List (Str × Addr)) (fp : List Addr), PTs (X.blk s H sco (compEnvC sco cl C X.env) fp) f0 tt)
    (hi1 : ∀ (s : Shared) (H : Hp) (C : Addr) (cl : List (Str × Addr)) (fp : List Addr), PI (X.blk s H sco (compEnvC sco cl C X.env) fp) t1 i1 wi1)
    (hg1 : ∀ (s : Shared) (H : Hp) (C : Addr) (cl : List (Str × Addr)) (fp : List Addr), PG (X.blk s H sco (compEnvC sco cl C X.env) fp) t1 g1)
    (ht1 : ∀ (s : Shared) (H : Hp) (C : Addr) (cl : List (Str × Addr)) (fp : List Addr), PTs (X.blk s H sco (compEnvC sco cl C X.env) fp) f1 tt1)
    (he : ∀ (s : Shared) (H : Hp) (C : Addr) (cl : List (Str × Addr)) (fp : List Addr), PE (X.blk s H sco (compEnvC sco cl C X.env) fp) elt te)
    (hs : ∀ x, foldedSetIterable i0 X.env x = pure x := by intro _; rfl) (hs1 : ∀ env x, foldedSetIterable i1 env x = pure x := by intro _ _; rfl) :
    PE X (sc2 elt t0 i0 t1 i1 f0 f1 sco pos) (tSc2 X.w wi g tt wi1 g1 tt1 te (own.map (·.2)) vs1) := by
  refine ⟨fun pins s σ H Q I h => ?_⟩
  rw [PpSet.eval_SetComp]
  have hfree : ∀ y ∈ sco.names, y.2 = .free → ∃ c, X.env.cells.lookup y.1 = some c := fun y hy e => (ok.free y hy e).elim (fun k => I.ok.has _ (.inl k)) (fun k => I.ok.has _ (.inr k))
  refine wpAny_comprehension_free (use := none) rfl hs (closure_ok hfree) ok.kind (fun y hy e => by rw [ok.uniq y hy, e]) ?_
  refine thn (hi.run pins s σ H _ I h) fun xv sa hx => thn hx fun itv sb hb => ?_
  obtain ⟨it, fp, tn, J, Hb, e, Ib, T, stb, fb, q⟩ := hb
  subst e
  refine PpSet.newSet_ok (newEnv_comp ?_)
  generalize hD : sb.heap.objs.size = D
  obtain ⟨W, ⟨m0, w0⟩, turn⟩ := q D (Ib.hok.fresh (Nat.le_of_eq hD))
  generalize hE : SetO X.w D (fun _ => false) 0 = eo at w0
  have hDb : Hb D = none := Ib.hok.fresh (Nat.le_of_eq hD)
  generalize hsc : ({ sb with heap := sb.heap.push { cls := .type "set", dict := none, data := .set #[] 0 (.fresh 0 0 (!X.w.params.followText "set-order")) } } : Shared) = sc
  have hpush : sc.heap = sb.heap.push { cls := .type "set", dict := none, data := .set #[] 0 (.fresh 0 0 (!X.w.params.followText "set-order")) } := by rw [← hsc]
  have old : ∀ b o, sb.heap.get? b = some o → sc.heap.get? b = some o := fun b o e => by rw [hpush]; exact Heap.get?_push_of_some _ e
  have Ic : Inv X pins σ (upd Hb D eo) sc := by
    rw [← hsc, ← hE]
    refine Ib.laid (t' := sb.toks) (fun b o e => Heap.get?_push_of_some _ e) (Nat.le_of_eq hD) ?_
    rw [← hD]
    exact setO_new (setR_fresh X.w)
  have below : ∀ b ∈ fp, b < sb.heap.objs.size := fun b hb => by
    obtain ⟨o, e, _⟩ := T.obj _ _ stb b hb
    exact Heap.lt_size e
  have fc : ∀ b ∈ fp, FpOk X pins (upd Hb D eo) b ∧ b < sc.heap.objs.size := fun b hb => by
    have lt := below b hb
    have ne : b ≠ D := by rw [← hD]; exact Nat.ne_of_lt lt
    exact ⟨⟨by rw [upd_ne ne]; exact (fb b hb).1, (fb b hb).2⟩, by rw [hpush, Heap.size_push]; exact Nat.lt_succ_of_lt lt⟩
  have stc : tn 0 sc.heap := T.keep _ _ _ stb fun b _ o e => old b o e
  have Id := block_start Ic ok hN fc
  generalize hHc : upd Hb D eo = Hc at w0 Ic Id fc
  generalize hcl : cellsFrom (sc.heap.objs.size + 1) sco.names (cloFrom X.env.cells sco.names []) = cl at Id
  have pg := hg sc Hc sc.heap.objs.size cl fp
  have pt := ht sc Hc sc.heap.objs.size cl fp
  have pe := he sc Hc sc.heap.objs.size cl fp
  have pi1 := hi1 sc Hc sc.heap.objs.size cl fp
  have pg1 := hg1 sc Hc sc.heap.objs.size cl fp
  have pt1 := ht1 sc Hc sc.heap.objs.size cl fp
  show codeAny _ _ (.compStart (sc2 elt t0 i0 t1 i1 f0 f1 sco pos) 0 (.ref it) (.ref D) (compEnvC sco cl sc.heap.objs.size X.env)) (compPost (model X.prog X.w) X.A X.xe none (EP X pins σ Q) (.ref D) sc.heap.objs.size) { sc with heap := pushCells (sc.heap.push { cls := .type "dict", data := .dict #[] }) sco.names }
  generalize hen : compEnvC sco cl sc.heap.objs.size X.env = en at Id pg pt pe pi1 pg1 pt1 ⊢
  have enL : en.locals = sc.heap.objs.size := by subst hen; rfl
  generalize hsd : ({ sc with heap := pushCells (sc.heap.push { cls := .type "dict", data := .dict #[] }) sco.names } : Shared) = sd at Id ⊢
  have std : tn 0 sd.heap := T.keep _ _ _ stc fun b _ o e => by rw [← hsd]; exact pushCells_keeps _ _ _ _ (Heap.get?_push_of_some _ e)
  have at0 : ∀ {σ' : L2.St} {H' : Hp} {s' : Shared}, Inv (X.blk sc Hc sco en fp) [] σ' H' s' → (∀ b ∈ fp, H' b = none) → ∀ b ∈ fp, FpOk (X.blk sc Hc sco en fp) [] H' b := by
    intro σ' H' s' I' hn b hb
    have x1 := I'.ok.exf b hb
    refine ⟨hn b hb, x1.1, I'.ok.exfs b hb, .inl hb, fun x c e => x1.2 x c e, fun p hp => ?_⟩
    exact absurd hp (by simp)
  generalize hw : wipe σ (own.map (·.2)) = σw at Id turn
  have lw : σw.length = σ.length := by rw [← hw, wipe_length]
  have main : codeAny (model X.prog X.w) X.A (.compLoop (sc2 elt t0 i0 t1 i1 f0 f1 sco pos) 0 (.ref it) (.ref D) en) (compPost (model X.prog X.w) X.A X.xe none (EP X pins σ Q) (.ref D) sc.heap.objs.size) sd := by
    refine sc2_loop0 (hs1 en) (fun n s' => ∃ i H', Inv (X.blk sc Hc sco en fp) [] σw H' s' ∧ tn i s'.heap ∧ (∀ b ∈ fp, H' b = none) ∧ W i n H') ?_ m0 ⟨0, Hc, Id, std, fun b hb => (fc b hb).1.1, w0⟩
    rintro n s5 ⟨i, H5, I5, st5, n5, w5⟩
    rcases turn i n H5 w5 with ⟨stop, qq⟩ | ⟨go, M, hM, step⟩
    · refine thnF (T.done (X.blk sc Hc sco en fp) rfl rfl rfl hc i [] s5 _ H5 (fun _ _ => False) I5 (at0 I5 n5) st5 stop) fun r s6 ⟨hr, I6⟩ => ?_
      subst hr
      have I7 : Inv X pins σ H5 s6 := by
        refine Ic.call' (ch := fp) I6.os I6.base I6.hok I6.bare fun b hb => ?_
        obtain ⟨_, y1, y2, y3, y4, y5⟩ := (fc b hb).1
        exact ⟨y3, y1, y4, y5⟩
      have nC : H5 sc.heap.objs.size = none := by
        have z : H5 en.locals = none := I6.free
        rw [enL] at z
        exact z
      obtain ⟨m, hn, _⟩ := I6.loc
      have hn2 : s6.heap.Ns en.locals m := hn
      rw [enL] at hn2
      refine ⟨m, hn2, fun h'' eb => ?_⟩
      obtain ⟨y0, y1, y2, y3, y4, y5⟩ := Ic.fpOk (Nat.le_refl _) nC
      exact ⟨.ref D, H5, I7.turned (t' := s6.toks) (fun b o hb e => (eb.2 b hb).trans e) y0 y1 y3 y4 y5, rfl, qq⟩
    · refine thnF (T.item (X.blk sc Hc sco en fp) rfl rfl rfl hc i [] s5 _ H5 (fun _ _ => False) I5 (at0 I5 n5) st5 go) fun r s6 ⟨u, hr, h6⟩ => ?_
      subst hr
      refine thnF h6 fun _ s7 ⟨x, H7, I7, r7, y7, st7, n7⟩ => ?_
      refine thnF (pg.run _ s7 _ H7 x u _ (I7.pinned (at0 I7 n7) (T.obj _ _ st7)) r7 (step x H7 y7)) fun _ s8 ⟨σ8, H8, I8, hw8, q8⟩ => ?_
      refine thnF (pt.run _ s8 σ8 H8 _ I8 q8) fun b s9 ⟨H9, I9, q9⟩ => ?_
      have l8 : σw.length = σ8.length := by rw [lw, ← wipe_length σ (own.map (·.2)), hw, ← hw8, wipe_length]
      have k8 : ∀ (j : Nat) v, σw[j]? = some (some v) → σ8[j]? = some (some v) := fun j v e => by
        rw [← hw8] at e
        exact (wipe_some e).1
      -- behind a turn: what the outer loop knows
      have back : ∀ {σ9 : L2.St} {s' : Shared} {H' : Hp}, Inv (X.blk sc Hc sco en fp) ([] ++ pinsAt fp s7.heap) σ9 H' s' → σw.length = σ9.length → (∀ (j : Nat) v, σw[j]? = some (some v) → σ9[j]? = some (some v)) → M H' →
          ∃ m, m < n ∧ ∃ i H', Inv (X.blk sc Hc sco en fp) [] σw H' s' ∧ tn i s'.heap ∧ (∀ b ∈ fp, H' b = none) ∧ W i m H' := by
        intro σ9 s' H' I' hl hk nx
        obtain ⟨m', hm, w'⟩ := hM H' nx
        have stay : ∀ b ∈ fp, ∀ o, s7.heap.get? b = some o → s'.heap.get? b = some o ∧ H' b = none := by
          intro b hb o e
          have z := I'.pin (b, o) (List.mem_append_right _ (List.mem_append_right _ (mem_pinsAt hb e)))
          exact ⟨z.1, z.2.1⟩
        refine ⟨m', hm, i + 1, H', (I'.unpinned (pins := [])).weak hl hk, ?_, fun b hb => ?_, w'⟩
        · exact T.keep _ _ _ st7 fun b hb o e => (stay b hb o e).1
        · obtain ⟨o, e, _⟩ := T.obj _ _ st7 b hb
          exact (stay b hb o e).2
      match b, q9 with
      | false, q9 => exact back I9 l8 k8 q9
      | true, q9 =>
        refine thnF (pi1.run _ s9 σ8 H9 _ I9 q9) fun xv s10 hx => thnF hx fun jv s11 h11 => ?_
        obtain ⟨jt, fq, tq, J1, H11, e1, I11, T1, st11, f11, W1, ⟨m1, w1⟩, turn1⟩ := h11
        subst e1
        have k9 : ∀ (j : Nat) v, σw[j]? = some (some v) → (wipe σ8 vs1)[j]? = some (some v) := fun j v e => by
          rw [← hw8] at e
          obtain ⟨e1, e2⟩ := wipe_some e
          rw [wipe_out fun z => e2 (hv j z)]
          exact e1
        have at1 : ∀ {H' : Hp}, (∀ b ∈ fq, H' b = none) → ∀ b ∈ fq, FpOk (X.blk sc Hc sco en fp) ([] ++ pinsAt fp s7.heap) H' b := fun hn b hb => ⟨hn b hb, (f11 b hb).2⟩
        have inner : codeAny (model X.prog X.w) X.A (.compLoop (sc2 elt t0 i0 t1 i1 f0 f1 sco pos) 1 (.ref jt) (.ref D) en) (fun r s' => match r with
              | .ok _ => ∃ m, m < n ∧ ∃ i H', Inv (X.blk sc Hc sco en fp) [] σw H' s' ∧ tn i s'.heap ∧ (∀ b ∈ fp, H' b = none) ∧ W i m H'
              | .error _ => False) s11 := by
          refine sc2_loop1 (fun k s' => ∃ j H', Inv (X.blk sc Hc sco en fp) ([] ++ pinsAt fp s7.heap) (wipe σ8 vs1) H' s' ∧ tq j s'.heap ∧ (∀ b ∈ fq, H' b = none) ∧ W1 j k H') ?_ m1 ⟨0, H11, I11.weak (wipe_length _ _) (fun j v e => (wipe_some e).1), st11, fun b hb => (f11 b hb).1, w1⟩
          rintro k s12 ⟨j, H12, I12, st12, n12, w12⟩
          rcases turn1 j k H12 w12 with ⟨stop1, nx1⟩ | ⟨go1, M1, hM1, step1⟩
          · refine thnF (T1.done (X.blk sc Hc sco en fp) rfl rfl rfl hc j _ s12 (wipe σ8 vs1) H12 (fun _ _ => False) I12 (at1 n12) st12 stop1) fun r s13 ⟨hr, I13⟩ => ?_
            subst hr
            exact back I13 (l8.trans (wipe_length σ8 vs1).symm) k9 nx1
          · refine thnF (T1.item (X.blk sc Hc sco en fp) rfl rfl rfl hc j _ s12 (wipe σ8 vs1) H12 (fun _ _ => False) I12 (at1 n12) st12 go1) fun r s13 ⟨u1, hr, h13⟩ => ?_
            subst hr
            refine thnF h13 fun _ s14 ⟨x1, H14, I14, r14, y14, st14, n14⟩ => ?_
            refine thnF (pg1.run _ s14 (wipe σ8 vs1) H14 x1 u1 _ (I14.pinned (at1 n14) (T1.obj _ _ st14)) r14 (step1 x1 H14 y14)) fun _ s15 ⟨σ15, H15, I15, hw15, q15⟩ => ?_
            refine thnF (pt1.run _ s15 σ15 H15 _ I15 q15) fun b1 s16 ⟨H16, I16, q16⟩ => ?_
            have back1 : ∀ {s' : Shared} {H' : Hp}, Inv (X.blk sc Hc sco en fp) (([] ++ pinsAt fp s7.heap) ++ pinsAt fq s14.heap) σ15 H' s' → M1 H' → ∃ m, m < k ∧ ∃ j H', Inv (X.blk sc Hc sco en fp) ([] ++ pinsAt fp s7.heap) (wipe σ8 vs1) H' s' ∧ tq j s'.heap ∧ (∀ b ∈ fq, H' b = none) ∧ W1 j m H' := by
              intro s' H' I' nx
              obtain ⟨m', hm, w'⟩ := hM1 H' nx
              have stay : ∀ b ∈ fq, ∀ o, s14.heap.get? b = some o → s'.heap.get? b = some o ∧ H' b = none := by
                intro b hb o e
                have z := I'.pin (b, o) (List.mem_append_right _ (List.mem_append_right _ (mem_pinsAt hb e)))
                exact ⟨z.1, z.2.1⟩
              refine ⟨m', hm, j + 1, H', I'.unpinned.weak (by rw [← hw15, wipe_length]) (fun j v e => by rw [← hw15] at e; exact (wipe_some e).1), ?_, fun b hb => ?_, w'⟩
              · exact T1.keep _ _ _ st14 fun b hb o e => (stay b hb o e).1
              · obtain ⟨o, e, _⟩ := T1.obj _ _ st14 b hb
                exact (stay b hb o e).2
            match b1, q16 with
            | false, q16 => exact back1 I16 q16
            | true, q16 =>
              refine thnF (pe.run _ s16 σ15 H16 _ I16 q16) fun z s17 ⟨yv, H17, I17, r17, cv, S0, n0, ey, hD17, hz17, nx⟩ => ?_
              subst ey
              have add := mt_sadd (X := X.blk sc Hc sco en fp) _ s17 σ15 H17 (.ref D) [.int cv] (.ref D) [z] (fun v H' => v = .non ∧ M1 H') I17 rfl (.cons r17 .nil) ⟨D, cv, S0, n0, rfl, rfl, hD17, hz17, rfl, nx⟩
              exact thnF add fun v s18 ⟨v', H18, I18, _, _, nx18⟩ => back1 I18 nx18
        exact sc2_start1 inner (T1.self X.A 0 _ _ _ st11 inner)
  exact PpSet.codeAny_compStart_set main (T.self X.A 0 _ _ _ std main)
end
end Wd
/-! set(xs) of a list of whole numbers. -/
namespace Wd
open PySem PySem.Spec PyProof.Rows L2
/-- a set that has just been made -/
abbrev setFresh (w : World) : Obj := { cls := .type "set", dict := none, data := .set #[] 0 (.fresh 0 0 (!w.params.followText "set-order")) }
section
variable {P : Program} {w : World} {A : Around} {E : Value → Shared → Prop} {s : Shared}
/-- what set(xs) leaves: the set of the numbers, at a new place -/
def SetMade (w : World) (s : Shared) (ns : List Int) (Q : Value → Shared → Prop) : Prop := ∀ (h' : Heap) (tk c : Nat), SetR w h' s.heap.objs.size (fun j => decide (j ∈ ns)) c → c ≤ ns.length → (∀ b o, s.heap.get? b = some o → h'.get? b = some o) → Q (.ref s.heap.objs.size) { s with heap := h', toks := tk }
/-- the filling of the new set -/
def SetFilled (w : World) (s : Shared) (ns : List Int) (r : Value) (s₂ : Shared) : Prop := r = .none ∧ ∃ h' tk c, s₂ = { s with heap := h', toks := tk } ∧ SetR w h' s.heap.objs.size (fun j => decide (j ∈ ns)) c ∧ c ≤ ns.length ∧ (∀ b o, s.heap.get? b = some o → h'.get? b = some o)
set_option maxHeartbeats 3200000 in
theorem set_filled {l : Addr} {items : Array Value} (ns : List Int) (hh : A.handled = none) (hl : s.heap.IsList l items) (hit : IntsAre items.toList ns) (hb : ns.length + 1 < scanBound) :
    wpAny (model P w) A.in1.in1 (Builtin.«set.__init__» ⟨[.ref s.heap.objs.size, .ref l], []⟩) (fun f s₂ => match f with
      | .done f => wants (SetFilled w s ns) E (.ok f) s₂
      | .again c' => c'.quiet = true ∧ codeAny (model P w) A.in1 c' (wants (SetFilled w s ns) E) s₂) (fun e s₂ => wants (SetFilled w s ns) E (.error e) s₂) { s with heap := s.heap.push (setFresh w) } := by
  have cnt : items.size = ns.length := by
    have q := IntsAre.length hit
    rw [Array.length_toList] at q
    exact q
  obtain ⟨ob, hob, hcl, nl, hdl⟩ := hl
  obtain ⟨obc, obd, obx, obs⟩ := ob
  simp only at hcl hdl
  subst hcl hdl
  have lS : l < s.heap.objs.size := Heap.lt_size hob
  generalize hh1 : s.heap.push (setFresh w) = h1
  have atN : h1.get? s.heap.objs.size = some (setFresh w) := by rw [← hh1]; exact Heap.get?_push_size _ rfl
  have old1 : ∀ b o, s.heap.get? b = some o → h1.get? b = some o := fun b o e => by rw [← hh1]; exact Heap.get?_push_of_some _ e
  have sz1 : h1.objs.size = s.heap.objs.size + 1 := by rw [← hh1]; exact Heap.size_push ..
  have q1 := F.sub_list_set
  have q2 := F.sub_list_frozenset
  have q3 : (Value.type "list" == Value.type "dict") = false := by decide
  have hob1 := old1 _ _ hob
  have lst1 : h1.IsList l items := ⟨_, hob1, rfl, nl, rfl⟩
  unfold Builtin.«set.__init__» noKeywords Builtin.Frozenset.updateFrom
  generalize hPI : pyIter = PI
  wp_walk
  subst hPI
  refine wpAny_pyIter_list lst1 (wpAny_bind (wpAny_runValue ?_))
  have un : A.in1.in1.in1.handled = none := by simp [hh]
  have nI : l ≠ h1.objs.size := by rw [sz1]; exact Nat.ne_of_lt (Nat.lt_succ_of_lt lS)
  have notin : s.heap.objs.size ∉ [h1.objs.size, l] := by
    rw [sz1]
    simp only [List.mem_cons, List.not_mem_nil, or_false, not_or]
    exact ⟨Nat.ne_of_lt (Nat.lt_succ_self _), Nat.ne_of_gt lS⟩
  refine set_update_ints ((Walks.list un _ l nI items).toS) s.heap.objs.size notin ns cnt hb (fun i v hv => ?_) (items.size - 0) 0 _ (by omega) (Nat.zero_le _) ⟨⟨_, Heap.get?_push_size _ rfl, rfl, rfl⟩, lst1.push _⟩ ⟨0, Nat.le_refl 0, setR_new_at (Heap.get?_push_of_some _ atN)⟩ fun s' c mv cle R => ?_
  · have hi : i < ns.length := by rw [← cnt]; exact (Array.getElem?_eq_some_iff.mp hv).1
    obtain ⟨t, e⟩ := PyProof.Rows.IntsAre.int_at hit i v (by rw [Array.getElem?_toList]; exact hv)
    refine ⟨ns[i], t, List.getElem?_eq_getElem hi, ?_⟩
    rw [e, List.getD_eq_getElem?_getD, List.getElem?_eq_getElem hi] <;> rfl
  · obtain ⟨g1, g2, g3, g4, g5⟩ := s'
    obtain rfl : g2 = s.gens := mv.gens
    obtain rfl : g3 = s.drawn := mv.drawn
    obtain rfl : g5 = s.os := mv.os
    refine wpAny_pure ?_
    show wpAny _ _ (ret Value.none) _ _ _
    rw [cnt] at cle
    refine wpAny_pure ⟨rfl, g1, g4, c, rfl, R, cle, fun b o e => ?_⟩
    have lb := Heap.lt_size e
    refine mv.heap b o ?_ (Heap.get?_push_of_some _ (old1 b o e))
    rw [sz1]
    simp only [List.mem_cons, List.not_mem_nil, or_false, not_or]
    exact ⟨Nat.ne_of_lt lb, Nat.ne_of_lt (Nat.lt_succ_of_lt lb)⟩
set_option maxHeartbeats 3200000 in
theorem set_of_list {l : Addr} {items : Array Value} (ns : List Int) {Q : Value → Shared → Prop} (hh : A.handled = none) (hl : s.heap.IsList l items) (hit : IntsAre items.toList ns) (hb : ns.length + 1 < scanBound) (h : SetMade w s ns Q) :
    wpAny (model P w) A (call (.type "set") [.ref l]) Q E s := by
  have C := F.called_set
  obtain ⟨m0, ml, mro⟩ := C.mro
  have e1 := C.made
  have e2 := C.sub
  have e3 := C.notType
  have e4 := C.canCreate
  have e5 := F.typeCall_set_1 (.ref l)
  refine wpAny_call (codeAny_of_tree ?_)
  show wpAny _ _ (callAny (.type "set") _) _ _ _
  refine wpAny_pure ⟨Code.quiet_builtin _ (by decide +kernel), codeAny_builtin F.entry_type_call ?_⟩
  rw [Around.under_plain (weight_type_call_type "set" [.ref l] []) rfl]
  repeat (any_goals (first | assumption | wp_step))
  refine codeAny_mono (code_set_led1 (.ref l) (E := E) (Q₁ := fun ob s₁ => ob = .ref s.heap.objs.size ∧ s₁ = { s with heap := s.heap.push (setFresh w) }) ⟨rfl, rfl⟩) fun r s₁ hr => ?_
  match r, hr with
  | .error _, hr => exact hr
  | .ok (.ret ob), hr =>
    obtain ⟨rfl, rfl⟩ := hr
    have tyN : Shared.TypeIs { s with heap := s.heap.push (setFresh w) } (.ref s.heap.objs.size) "set" := ⟨_, Heap.get?_push_size _ rfl, rfl⟩
    have i1 := C.init.lookup
    have i2 := C.init.bind (.ref s.heap.objs.size)
    repeat (any_goals (first | assumption | wp_step))
    refine codeAny_mono (codeAny_call_builtin (R := wants (SetFilled w s ns) E) C.init.plain F.entry_set_init (check_set_init_1 tyN ?_)) fun r₂ s₂ hr₂ => ?_
    · exact set_filled ns hh hl hit hb
    · match r₂, hr₂ with
      | .error _, hr₂ => exact hr₂
      | .ok (.ret _), hr₂ =>
        obtain ⟨rfl, h', tk, c, rfl, R, cle, old⟩ := hr₂
        repeat (any_goals (first | assumption | wp_step))
        exact h _ _ _ R cle old
end
/-- set(xs), xs a list of whole numbers -/
def rSetOf (K : PySem.W.Frag) (w : World) : List V → Hp → VK → Prop := fun vs H Q => ∃ (a : Addr) (ns : List Int), vs = [.ref a] ∧ SqL K H a (ns.map V.int) ∧ ns.length ≤ 1000 ∧ ∀ p c (es : List Int), H p = none → es.Nodup → (∀ k, k ∈ es ↔ k ∈ ns) → es.length = c → Q (.ref p) (upd H p (SetO w p (fun j => decide (j ∈ ns)) c))
theorem cr_setOf {X : Cx} (hc : X.calm = true) : CallR X (.type "set") (rSetOf X.K X.w) := by
  intro pins s σ H vs us Q I r h
  obtain ⟨a, ns, rfl, hs, hl, q⟩ := h
  obtain ⟨its, rv, hi, _⟩ := I.list hs
  rw [Vals.ref1 r]
  refine set_of_list ns (I.ok.hd hc) hi.isList rv.ints (by unfold scanBound; omega) fun h' tk c R cle old => ?_
  refine ⟨.ref _, upd H s.heap.objs.size (SetO X.w s.heap.objs.size (fun j => decide (j ∈ ns)) c), I.laid (t' := tk) old (Nat.le_refl _) (setO_new R), rfl, ?_⟩
  obtain ⟨o, es, ep, t, _, _, _, _, nd, hm, _, _, hn, _⟩ := R
  refine q _ c (es.toList.map keyOf) (I.hok.fresh (Nat.le_refl _)) nd (fun k => ?_) (by rw [List.length_map, Array.length_toList]; exact hn)
  rw [← hm k, decide_eq_true_iff]
/-- a for over range(lo, n) -/
theorem w_range2 {σ : L2.St} {H : Hp} {a : L2.St → Hp → Prop} {b : VK} {g : TG} {tb : TS} {lo n : Int} (h1 : -(2 ^ 62) ≤ lo ∧ lo < 2 ^ 62 ∧ -(2 ^ 62) ≤ n ∧ n < 2 ^ 62) (Pv : Nat → L2.St → Hp → Prop) (h0 : Pv 0 σ H)
    (hs : ∀ i σ H, i < (n - lo).toNat → Pv i σ H → g (.int (lo + i)) σ H fun σ2 H2 => tb ⟨Pv (i + 1), b, a, Pv (i + 1)⟩ σ2 H2) (hd : ∀ σ H, Pv (n - lo).toNat σ H → a σ H) :
    ∃ i j : Int, [V.int lo, .int n] = [.int i, .int j] ∧ (-(2 ^ 62) ≤ i ∧ i < 2 ^ 62 ∧ -(2 ^ 62) ≤ j ∧ j < 2 ^ 62) ∧ ForEnd g tb a b σ (Itr i (j - i).toNat) H :=
  ⟨lo, n, rfl, h1, for_range (D := ⟨a, b, fun _ _ => False, fun _ _ => False⟩) Pv h0 hs hd⟩
end Wd
namespace K10
open PySem PySem.Spec PyProof.Rows L2 Wd
def top (i : Nat) : Stmt := PySem.Challenge.pw_windowdog_k10_whole_safe_with_the_fewest.main.body.getD i (.Pass ⟨0, 0, 0, 0⟩)
/-- the built-in names that the text calls -/
structure Txt (K : PySem.W.Frag) (mg : Str → Option Value) : Prop where
  n_isinstance : mg "isinstance" = none
  n_len : mg "len" = none
  n_int : mg "int" = none
  n_bool : mg "bool" = none
  n_range : mg "range" = none
  n_list : mg "list" = none
  n_tuple : mg "tuple" = none
  n_str : mg "str" = none
  n_sum : mg "sum" = none
section
variable {P : Program} {w : World} {K : PySem.W.Frag} {mg : Str → Option Value} {base : Heap}
abbrev s_law_start : Stmt := top 52
theorem sc_law_start : FnScope ["_law_script", "_law_mixed", "_law_cell"] ["_law_script"] (C8.fnScope s_law_start) := C8.fnScope_by (by decide +kernel)
def sp_start (K : PySem.W.Frag) : Sp := fun vs H Q _ => ∃ (B : Hp) (sc : Addr) (ns : List Int), vs = [.ref sc] ∧ SqL K B sc (ns.map V.int) ∧ Same B H ∧ ns.length ≤ 63 ∧ ∀ H' S, H S = none → Same H H' → Dst K B H' S → Q (.ref S) H'
theorem ok_start (T : Txt K mg) {f : Addr} {fd : FuncData} (D : C8.Def K mg "_law_start" s_law_start f fd) (b : Binds K fd ["_law_script"] []) : C8.Cal P w K mg base 1 "_law_start" (sp_start K) [] := by
  refine C8.cal0 D b .nil sc_law_start (fun vs H Q E h => ?_) fun cdv A outer s H vs Q E hr h => ?_
  · obtain ⟨B, sc, ns, rfl, _⟩ := h; rfl
  · obtain ⟨B, sc, ns, rfl, hB, sB, hl, q⟩ := h
    have hS := list_same sB hB
    have nd := sc_law_start.nd
    refine ⟨_, (pss_cons (ps_set (i := 1) nd rfl (Or.inl rfl) pe_int)
      (pss_cons (ps_for PassesOwn.never rfl (pi_list (pv 0)) (pg_name (i := 2) nd rfl (Or.inl rfl)) (pss_one (ps_set (i := 1) nd rfl (Or.inl rfl) (pe_op op_mod (pe_op op_add (pe_op op_add (pe_op op_mulW (pv 1) pe_int) (pv 2)) pe_int) pe_int))))
      (pss_one (ps_ret (pe_lst (pa_cons (pv 0) (pa_cons pe_int (pa_cons (pv 1) (pa_cons pe_int pa_nil))))))))), ?_⟩
    walk_at "go"
    refine w_list (xs := ns.map V.int) (fun i σ H' => H' = H ∧ ∃ (m : Int) (v : Option V), σ = [some (.ref sc), some (.int m), v] ∧ 0 ≤ m ∧ m < 2147483647) ?_ ?_ ?_ ?_
    · exact ⟨rfl, 1, none, rfl, by decide, by decide⟩
    · rintro i σ H' _ ⟨rfl, _⟩; exact hS
    · rintro i x σ H' hx ⟨rfl, m, v, rfl, h1, h2⟩
      obtain ⟨c, hc, rfl⟩ := map_at hx
      walk_at "go"
      refine g_I (mulW_small h1 (by omega) (by decide) (by decide)) ?_
      walk_at "go"
      refine g_I (show (0 : Int) < 2147483647 by decide) ?_
      walk_at "go"
      exact ⟨rfl, _, _, rfl, by omega, by omega⟩
    · rintro σ H' ⟨rfl, m, v, rfl, h1, h2⟩
      walk_at "go"
      intro S hn
      exact q _ S hn (same_new hn) ⟨sc, ns, 0, m, 0, upd_same, .of hB (fun _ _ h => h) (Same.back sB hn), .of (sB.trans (same_new hn)), hl, by decide, h1, h2⟩

abbrev s_law_drawn : Stmt := top 53
theorem sc_law_drawn : FnScope ["_law_state", "_law_many", "_law_found", "_law_cell"] ["_law_state", "_law_many"] (C8.fnScope s_law_drawn) := C8.fnScope_by (by decide +kernel)
def sp_drawn (K : PySem.W.Frag) : Sp := fun vs H Q _ => ∃ (B : Hp) (S : Addr) (n : Int), vs = [.ref S, .int n] ∧ Dst K B H S ∧ 0 < n ∧ n < 10 ^ 38 ∧ ∀ H' v, Frm S H H' → Dst K B H' S → 0 ≤ v → v < n → Q (.int v) H'
theorem ok_drawn (T : Txt K mg) {f : Addr} {fd : FuncData} (D : C8.Def K mg "_law_drawn" s_law_drawn f fd) (b : Binds K fd ["_law_state", "_law_many"] []) : C8.Cal P w K mg base 1 "_law_drawn" (sp_drawn K) [] := by
  refine C8.cal0 D b .nil sc_law_drawn (fun vs H Q E h => ?_) fun cdv A outer s H vs Q E hr h => ?_
  · obtain ⟨B, S, n, rfl, _⟩ := h; rfl
  · obtain ⟨B, S, n, rfl, ⟨sc, ns, c, m, r, hS, hsB, fB, hl, c0, m0, m1⟩, n0, n1, q⟩ := h
    have hsc := hsB.frm fB
    have nd := sc_law_drawn.nd
    refine ⟨_, (pss_cons (ps_if (pt_cmpR op_gt (pe_ix (r := rIxL K) ix_list (pv 0) pe_int (fun _ _ => rfl)) pe_int (nomark _)) (pss_cons (ps_set (i := 2) nd rfl (Or.inl rfl) (pe_op op_mod (pe_ix (r := rIxL K) ix_list (pv 0) pe_int (fun _ _ => rfl)) (pv 1)))
      (pss_cons (ps_asg (pe_op op_fdivW (pe_ix (r := rIxL K) ix_list (pv 0) pe_int (fun _ _ => rfl)) (pv 1)) (pg_sub (pv 0) pe_int set_list))
      (pss_one (ps_ret (pv 2))))) pss_nil)
      (pss_cons (ps_asg (pe_op op_add (pe_ix (r := rIxL K) ix_list (pv 0) pe_int (fun _ _ => rfl)) pe_int) (pg_sub (pv 0) pe_int set_list))
      (pss_cons (ps_if (pt_cmpR op_le (pe_ix (r := rIxL K) ix_list (pv 0) pe_int (fun _ _ => rfl)) (pe_callB (r := Wd.rLen K) call_len1 (by rfl) T.n_len PySem.boot_len (pa_cons (pe_ix (r := rIxL K) ix_list (pv 0) pe_int (fun _ _ => rfl)) pa_nil)) (nomark _)) (pss_cons (ps_set (i := 3) nd rfl (Or.inl rfl) (pe_ix (r := rIxL K) ix_list (pe_ix (r := rIxL K) ix_list (pv 0) pe_int (fun _ _ => rfl)) (pe_op op_sub (pe_ix (r := rIxL K) ix_list (pv 0) pe_int (fun _ _ => rfl)) pe_int) (fun _ _ => rfl)))
      (pss_cons (ps_asg (pe_ifExp (pt_cmpR op_ge (pv 3) (pe_op op_pow pe_int pe_int) (nomark _)) (pe_op op_fdivW (pv 3) (pv 1)) pe_int) (pg_sub (pv 0) pe_int set_list))
      (pss_one (ps_ret (pe_op op_mod (pv 3) (pv 1)))))) pss_nil)
      (pss_cons (ps_asg (pe_op op_mod (pe_op op_add (pe_op op_mulW (pe_ix (r := rIxL K) ix_list (pv 0) pe_int (fun _ _ => rfl)) pe_int) pe_int) pe_int) (pg_sub (pv 0) pe_int set_list))
      (pss_one (ps_ret (pe_op op_mod (pe_op op_fdivW (pe_ix (r := rIxL K) ix_list (pv 0) pe_int (fun _ _ => rfl)) pe_int) (pv 1)))))))), ?_⟩
    walk_at "go"
    refine g_ixL (SqL.of hS) rfl ?_
    walk_at "go"
    refine g_ite (fun hr0 => ?_) (fun hr0 => ?_)
    · walk_at "go"
      refine g_ixL (SqL.of hS) rfl ?_
      walk_at "go"
      refine g_I n0 ?_
      walk_at "go"
      refine g_ixL (SqL.of hS) rfl ?_
      walk_at "go"
      refine g_I (divW_small n0 n1) ?_
      walk_at "go"
      refine g_setL hS rfl ?_
      walk_at "go"
      exact q _ _ .set ⟨sc, ns, c, m, r / n, upd_same, hsB, fB.trans .set, hl, c0, m0, m1⟩ (Int.emod_nonneg _ (by omega)) (Int.emod_lt_of_pos _ n0)
    · walk_at "go"
      refine g_ixL (SqL.of hS) rfl ?_
      walk_at "go"
      refine g_setL hS rfl ?_
      walk_at "go"
      refine g_ixL (SqL.of upd_same) rfl ?_
      walk_at "go"
      refine g_ixL (SqL.of upd_same) rfl ?_
      walk_at "go"
      refine g_len (.inl (hsc.frm .set).sq) ?_
      walk_at "go"
      rw [List.length_map]
      refine g_ite (fun hc => ?_) (fun hc => ?_)
      · walk_at "go"
        refine g_ixL (SqL.of upd_same) rfl ?_
        walk_at "go"
        refine g_ixL (SqL.of upd_same) rfl ?_
        walk_at "go"
        have hcl : c.toNat < ns.length := by omega
        refine g_ixL (hsc.frm .set).sq (at_of (j := c.toNat) (v := V.int (ns[c.toNat]'hcl)) (by omega) (by rw [List.getElem?_map, List.getElem?_eq_getElem hcl]; rfl)) ?_
        generalize ns[c.toNat]'hcl = z
        walk_at "go"
        refine g_I (pow_small (by decide) (by decide) (by decide)) ?_
        walk_at "go"
        have fin : ∀ x : Int, Frm S H (upd (upd H S (HO.lst [V.ref sc, V.int (c + 1), V.int m, V.int r])) S (HO.lst [V.ref sc, V.int (c + 1), V.int m, V.int x])) ∧ Dst K B (upd (upd H S (HO.lst [V.ref sc, V.int (c + 1), V.int m, V.int r])) S (HO.lst [V.ref sc, V.int (c + 1), V.int m, V.int x])) S := fun x =>
          ⟨Frm.set.trans .set, sc, ns, c + 1, m, x, upd_same, hsB, (fB.trans .set).trans .set, hl, by omega, m0, m1⟩
        refine g_ite (fun hz => ?_) (fun hz => ?_)
        · walk_at "go"
          refine g_I (divW_small n0 n1) ?_
          walk_at "go"
          refine g_setL upd_same rfl ?_
          walk_at "go"
          refine g_I n0 ?_
          exact q _ _ (fin _).1 (fin _).2 (Int.emod_nonneg _ (by omega)) (Int.emod_lt_of_pos _ n0)
        · walk_at "go"
          refine g_setL upd_same rfl ?_
          walk_at "go"
          refine g_I n0 ?_
          exact q _ _ (fin _).1 (fin _).2 (Int.emod_nonneg _ (by omega)) (Int.emod_lt_of_pos _ n0)
      · walk_at "go"
        refine g_ixL (SqL.of upd_same) rfl ?_
        walk_at "go"
        refine g_I (mulW_small m0 (by omega) (by decide) (by decide)) ?_
        walk_at "go"
        refine g_I (show (0 : Int) < 2147483647 by decide) ?_
        walk_at "go"
        refine g_setL upd_same rfl ?_
        walk_at "go"
        refine g_ixL (SqL.of upd_same) rfl ?_
        walk_at "go"
        refine g_I (divW_small (by decide) (by decide)) ?_
        walk_at "go"
        refine g_I n0 ?_
        exact q _ _ (Frm.set.trans .set) ⟨sc, ns, c + 1, _, r, upd_same, hsB, (fB.trans .set).trans .set, hl, by omega, Int.emod_nonneg _ (by decide), Int.emod_lt_of_pos _ (by decide)⟩ (Int.emod_nonneg _ (by omega)) (Int.emod_lt_of_pos _ n0)
theorem use_drawn {B H : Hp} {S : Addr} {n : Int} {Q : VK} {E : XK} (d : Dst K B H S) (h0 : 0 < n) (h1 : n < 10 ^ 38) (k : ∀ H' v, Frm S H H' → Dst K B H' S → 0 ≤ v → v < n → Q (.int v) H') : sp_drawn K ([.ref S, .int n] ++ []) H Q E := ⟨B, S, n, rfl, d, h0, h1, k⟩
end
end K10
namespace K10
open PySem PySem.Spec PyProof.Rows L2 Wd
/-! ### a plan done: its pats, the delays left, the moment behind it -/
abbrev Res := Option (List Int × List Int × Int)
def seqR (r : Res) (k : List Int → Int → Res) : Res := match r with
  | none => none
  | some (a, ds, t) => match k ds t with
    | none => none
    | some (b, ds', t') => some (a ++ b, ds', t')
def iter (f : List Int → Int → Res) : Nat → List Int → Int → Res
  | 0, ds, t => some ([], ds, t)
  | n + 1, ds, t => seqR (f ds t) (iter f n)
mutual
def rn : Pl → List Int → Int → Res
  | .pat, ds, t => some ([t], ds, t)
  | .work _ _, [], _ => none
  | .work a b, d :: ds, t => if a ≤ d ∧ d ≤ b then some ([], ds, t + d) else none
  | .row ps, ds, t => rns ps ds t
  | .either _, [], _ => none
  | .either ps, d :: ds, t => if 0 ≤ d then rnAt ps d.toNat ds t else none
  | .loop _ _ _, [], _ => none
  | .loop a b p, d :: ds, t => if a ≤ d ∧ d ≤ b then iter (rn p) d.toNat ds t else none
def rns : List Pl → List Int → Int → Res
  | [], ds, t => some ([], ds, t)
  | p :: ps, ds, t => seqR (rn p ds t) (rns ps)
def rnAt : List Pl → Nat → List Int → Int → Res
  | [], _, _, _ => none
  | p :: _, 0, ds, t => rn p ds t
  | _ :: ps, n + 1, ds, t => rnAt ps n ds t
end
theorem seqR_some {a ds : List Int} {t : Int} {k : List Int → Int → Res} {b ds' : List Int} {t' : Int} (h : k ds t = some (b, ds', t')) : seqR (some (a, ds, t)) k = some (a ++ b, ds', t') := by
  unfold seqR; simp only [h]
theorem seqR_inv {r : Res} {k : List Int → Int → Res} {x ds' : List Int} {t' : Int} (h : seqR r k = some (x, ds', t')) : ∃ a ds t b, r = some (a, ds, t) ∧ k ds t = some (b, ds', t') ∧ x = a ++ b := by
  unfold seqR at h
  match r, h with
  | some (a, ds, t), h =>
    simp only at h
    cases e : k ds t with
    | none => rw [e] at h; cases h
    | some z =>
      obtain ⟨b, d2, t2⟩ := z
      rw [e] at h
      cases h
      exact ⟨a, ds, t, b, rfl, e, rfl⟩
theorem iter_rep (p : Pl) : ∀ (n : Nat) (ds : List Int) (t : Int), iter (rn p) n ds t = rns (List.replicate n p) ds t
  | 0, ds, t => by simp only [iter, List.replicate_zero, rns]
  | n + 1, ds, t => by
    have e : iter (rn p) n = rns (List.replicate n p) := funext fun a => funext fun b => iter_rep p n a b
    simp only [iter, List.replicate_succ, rns, e]
theorem rnAt_at : ∀ {ps : List Pl} {n : Nat} {p : Pl}, ps[n]? = some p → ∀ ds t, rnAt ps n ds t = rn p ds t
  | _ :: _, 0, _, e, ds, t => by cases e; simp only [rnAt]
  | _ :: ps, n + 1, _, e, ds, t => by simp only [rnAt]; exact rnAt_at (ps := ps) e ds t
theorem rnAt_some : ∀ {ps : List Pl} {n : Nat} {ds : List Int} {t : Int} {r : List Int × List Int × Int}, rnAt ps n ds t = some r → ∃ p, ps[n]? = some p ∧ rn p ds t = some r
  | [], _, _, _, _, h => by simp only [rnAt] at h; cases h
  | p :: _, 0, ds, t, r, h => by simp only [rnAt] at h; exact ⟨p, rfl, h⟩
  | _ :: ps, n + 1, ds, t, r, h => by simp only [rnAt] at h; exact rnAt_some (ps := ps) h
/-- delays that are used up -/
def Val (f : List Int → Int → Res) (ds : List Int) : Prop := ∀ rest t, ∃ np t', f (ds ++ rest) t = some (np, rest, t')
theorem val_nil : Val (rns []) [] := fun rest t => ⟨[], t, by simp only [List.nil_append, rns]⟩
theorem val_snoc : ∀ {ps : List Pl} {ds : List Int} {p : Pl} {d : List Int}, Val (rns ps) ds → Val (rn p) d → Val (rns (ps ++ [p])) (ds ++ d)
  | [], ds, p, d, h, hp => fun rest t => by
    obtain ⟨np, t1, e⟩ := h (d ++ rest) t
    simp only [rns] at e
    obtain ⟨rfl, e2, rfl⟩ : np = [] ∧ ds ++ (d ++ rest) = d ++ rest ∧ t = t1 := by
      have := Option.some.inj e
      simp only [Prod.mk.injEq] at this
      exact ⟨this.1.symm, this.2.1, this.2.2⟩
    obtain ⟨np2, t2, e3⟩ := hp rest t
    refine ⟨np2 ++ [], t2, ?_⟩
    rw [List.append_assoc, e2]
    simp only [List.nil_append, rns]
    rw [e3]
    exact seqR_some (by simp only [rns])
  | q :: ps, ds, p, d, h, hp => fun rest t => by
    obtain ⟨np, t1, e⟩ := h (d ++ rest) t
    simp only [rns] at e
    obtain ⟨a, ds1, s1, b, e1, e2, e3⟩ := seqR_inv e
    -- the rest of the parts, from what the first leaves
    obtain ⟨np2, t2, e4⟩ := hp rest t1
    have app : ∀ (ps : List Pl) (x : List Int) (s : Int) (b y : List Int) (s' : Int), rns ps x s = some (b, y, s') → ∀ (c z : List Int) (s'' : Int), rn p y s' = some (c, z, s'') → rns (ps ++ [p]) x s = some (b ++ c, z, s'') := by
      intro ps
      induction ps with
      | nil =>
        intro x s b y s' h1 c z s'' h2
        simp only [rns] at h1
        cases h1
        simp only [List.nil_append, rns, h2]
        have := seqR_some (a := c) (k := rns []) (ds := z) (t := s'') (b := []) (ds' := z) (t' := s'') (by simp only [rns])
        rw [List.append_nil] at this
        exact this
      | cons r ps ih =>
        intro x s b y s' h1 c z s'' h2
        simp only [rns] at h1
        obtain ⟨a1, x1, u1, b1, g1, g2, rfl⟩ := seqR_inv h1
        simp only [List.cons_append, rns, g1]
        rw [List.append_assoc]
        exact seqR_some (ih x1 u1 b1 y s' g2 c z s'' h2)
    refine ⟨a ++ (b ++ np2), t2, ?_⟩
    rw [List.append_assoc]
    simp only [List.cons_append, rns, e1]
    exact seqR_some (app ps ds1 s1 b (d ++ rest) t1 e2 np2 rest t2 e4)
mutual
/-- how many delays at the most -/
def mx : Pl → Nat
  | .pat => 0
  | .work _ _ => 1
  | .row ps => mxs ps
  | .either ps => 1 + mxs ps
  | .loop _ _ p => 1 + 9 * mx p
def mxs : List Pl → Nat
  | [] => 0
  | p :: ps => mx p + mxs ps
end
theorem ten_pos (l : Nat) : 1 ≤ 10 ^ l := Nat.pow_pos (by decide)
mutual
theorem mx_le : ∀ (p : Pl) (d l : Nat), okP d l p → mx p ≤ Wd.cnt p * 10 ^ l
  | .pat, d, l, h => Nat.zero_le _
  | .work _ _, d, l, h => by simp only [mx, Wd.cnt, Nat.one_mul]; exact ten_pos l
  | .row ps, 0, l, h => by unfold okP at h; exact h.elim
  | .row ps, d + 1, l, h => by
    unfold okP at h
    have := mxs_le ps d l h.2.2
    simp only [mx, Wd.cnt, Nat.add_mul]
    omega
  | .either ps, 0, l, h => by unfold okP at h; exact h.elim
  | .either ps, d + 1, l, h => by
    unfold okP at h
    have := mxs_le ps d l h.2.2
    have h1 : 1 ≤ 10 ^ l := ten_pos l
    simp only [mx, Wd.cnt, Nat.add_mul]
    omega
  | .loop a b p, 0, l, h => by unfold okP at h; exact h.elim
  | .loop a b p, d + 1, 0, h => by unfold okP at h; exact h.elim
  | .loop a b p, d + 1, l + 1, h => by
    unfold okP at h
    have := mx_le p d l h.2.2.2
    have h1 : 1 ≤ 10 ^ l := ten_pos l
    simp only [mx, Wd.cnt, Nat.add_mul, Nat.pow_succ]
    have e : Wd.cnt p * (10 ^ l * 10) = 10 * (Wd.cnt p * 10 ^ l) := by rw [← Nat.mul_assoc, Nat.mul_comm]
    omega
theorem mxs_le : ∀ (ps : List Pl) (d l : Nat), okPs d l ps → mxs ps ≤ Wd.cnts ps * 10 ^ l
  | [], d, l, h => Nat.zero_le _
  | p :: ps, d, l, h => by
    unfold okPs at h
    have h1 := mx_le p d l h.1
    have h2 := mxs_le ps d l h.2
    simp only [mxs, Wd.cnts, Nat.add_mul]
    omega
end
theorem mxs_take {ps : List Pl} {i : Nat} {p : Pl} (h : ps[i]? = some p) : mxs (ps.take i) + mx p ≤ mxs ps ∧ mxs (ps.take (i + 1)) = mxs (ps.take i) + mx p := by
  induction ps generalizing i with
  | nil => cases h
  | cons q ps ih =>
    match i, h with
    | 0, h => cases h; simp only [List.take_zero, List.take_succ_cons, mxs]; omega
    | i + 1, h =>
      have := ih (i := i) h
      simp only [List.take_succ_cons, mxs]
      omega
theorem mx_at {ps : List Pl} {i : Nat} {p : Pl} (h : ps[i]? = some p) : mx p ≤ mxs ps := by have := (mxs_take h).1; omega
end K10
namespace K10
open PySem PySem.Spec PyProof.Rows L2 Wd
/-- .. and what the program's own text names -/
structure TxtP (K : PySem.W.Frag) (mg : Str → Option Value) : Prop extends Txt K mg where
  k_LONGEST_WORK : ∃ t, mg "LONGEST_WORK" = some (.int 1000 t)
  k_MOST_TIMES : ∃ t, mg "MOST_TIMES" = some (.int 9 t)
  k_LONGEST_ROW : ∃ t, mg "LONGEST_ROW" = some (.int 20 t)
  k_MOST_PLANS : ∃ t, mg "MOST_PLANS" = some (.int 30 t)
  k_MOST_DEEP : ∃ t, mg "MOST_DEEP" = some (.int 6 t)
  k_MOST_LOOPS : ∃ t, mg "MOST_LOOPS" = some (.int 2 t)
section
variable {P : Program} {w : World} {K : PySem.W.Frag} {mg : Str → Option Value} {base : Heap}
theorem g_truT {H : Hp} {p : Addr} {xs : List V} {QB : Bool → Hp → Prop} (h : SqT K H p xs) (q : QB (!xs.isEmpty) H) : ∃ k, TruV K (.ref p) H k ∧ QB k H := ⟨_, .inr (.inl ⟨xs, h, rfl⟩), q⟩
theorem g_truL {H : Hp} {p : Addr} {xs : List V} {QB : Bool → Hp → Prop} (h : SqL K H p xs) (q : QB (!xs.isEmpty) H) : ∃ k, TruV K (.ref p) H k ∧ QB k H := ⟨_, .inl ⟨xs, h, rfl⟩, q⟩
abbrev s_is_number : Stmt := top 12
theorem sc_is_number : FnScope ["value"] ["value"] (C8.fnScope s_is_number) := C8.fnScope_by (by decide +kernel)
def sp_is_number : Sp := fun vs H Q _ => ∃ i : Int, vs = [.int i] ∧ Q (.bl true) H
theorem ok_is_number (T : TxtP K mg) {f : Addr} {fd : FuncData} (D : C8.Def K mg "is_number" s_is_number f fd) (b : Binds K fd ["value"] []) : C8.Cal P w K mg base 1 "is_number" sp_is_number [] := by
  refine C8.cal0 D b .nil sc_is_number (fun vs H Q E h => ?_) fun cdv A outer s H vs Q E hr h => ?_
  · obtain ⟨i, rfl, _⟩ := h; rfl
  · obtain ⟨i, rfl, q⟩ := h
    have nd := sc_is_number.nd
    refine ⟨_, (pss_one (ps_ret (pe_and (pe_callB (r := rIsi K) call_isi (by rfl) T.n_isinstance (by decide +kernel) (pa_cons (pv 0) (pa_cons (pe_bltn (v := .ty "int") (by rfl) T.n_int (by decide +kernel) rfl) pa_nil))) (pe_one (pe_not (pe_callB (r := rIsi K) call_isi (by rfl) T.n_isinstance (by decide +kernel) (pa_cons (pv 0) (pa_cons (pe_bltn (v := .ty "bool") (by rfl) T.n_bool (by decide +kernel) rfl) pa_nil)))))))), ?_⟩
    walk_at "go"
    refine g_isi (.ty "int") (.base (.int i)) (kit_ty (r := true) (by decide +kernel)) ?_
    walk_at "go"
    refine g_isi (.ty "bool") (.base (.int i)) (kit_ty (r := false) (by decide +kernel)) ?_
    walk_at "go"
    exact q

abbrev s_is_range : Stmt := top 13
theorem sc_is_range : FnScope ["least", "most", "limit"] ["least", "most", "limit"] (C8.fnScope s_is_range) := C8.fnScope_by (by decide +kernel)
def sp_is_range : Sp := fun vs H Q _ => ∃ i j k : Int, vs = [.int i, .int j, .int k] ∧ (0 ≤ i ∧ i ≤ j ∧ j ≤ k) ∧ Q (.bl true) H
theorem ok_is_range (T : TxtP K mg) {f : Addr} {fd : FuncData} (D : C8.Def K mg "is_range" s_is_range f fd) (b : Binds K fd ["least", "most", "limit"] []) (g_is_number : C8.Cal P w K mg base 1 "is_number" sp_is_number []) : C8.Cal P w K mg base 2 "is_range" sp_is_range [] := by
  refine C8.cal0 D b .nil sc_is_range (fun vs H Q E h => ?_) fun cdv A outer s H vs Q E hr h => ?_
  · obtain ⟨i, j, k, rfl, _⟩ := h; rfl
  · obtain ⟨i, j, k, rfl, ⟨h1, h2, h3⟩, q⟩ := h
    have nd := sc_is_range.nd
    refine ⟨_, (pss_one (ps_ret (pe_and (C8.pe_c g_is_number hr (by first | decide | exact Nat.le_refl _ | omega) (by rfl) (pa_cons (pv 0) pa_nil)) (pe_and (C8.pe_c g_is_number hr (by first | decide | exact Nat.le_refl _ | omega) (by rfl) (pa_cons (pv 1) pa_nil)) (pe_one (pe_chain3 op_le op_le op_le pe_int (pv 0) (pv 1) (pv 2))))))), ?_⟩
    walk_at "go"
    refine ⟨i, rfl, ?_⟩
    walk_at "go"
    refine ⟨j, rfl, ?_⟩
    walk_at "go"
    refine g_ite (fun _ => ?_) (fun h => absurd h1 h)
    walk_at "go"
    refine g_ite (fun _ => ?_) (fun h => absurd h2 h)
    walk_at "go"
    rw [decide_eq_true h3]
    exact q

abbrev s_has_form : Stmt := top 21
theorem sc_has_form : FnScope ["plan", "word"] ["plan"] (C8.fnScope s_has_form) := C8.fnScope_by (by decide +kernel)
def sp_has_form (K : PySem.W.Frag) : Sp := fun vs H Q _ => ∃ (v : V) (p : Pl) (d l : Nat), vs = [v] ∧ PlA H v p ∧ okP d l p ∧ Q (.bl true) H
theorem ok_has_form (T : TxtP K mg) {f : Addr} {fd : FuncData} (D : C8.Def K mg "has_form" s_has_form f fd) (b : Binds K fd ["plan"] []) (g_is_range : C8.Cal P w K mg base 2 "is_range" sp_is_range []) : C8.Cal P w K mg base 3 "has_form" (sp_has_form K) [] := by
  refine C8.cal0 D b .nil sc_has_form (fun vs H Q E h => ?_) fun cdv A outer s H vs Q E hr h => ?_
  · obtain ⟨v, p, d, l, rfl, _⟩ := h; rfl
  · obtain ⟨v, p, d, l, rfl, hp, ok, q⟩ := h
    have nd := sc_has_form.nd
    obtain ⟨_, c_LONGEST_WORK⟩ := T.k_LONGEST_WORK
    obtain ⟨_, c_MOST_TIMES⟩ := T.k_MOST_TIMES
    obtain ⟨_, c_LONGEST_ROW⟩ := T.k_LONGEST_ROW
    refine ⟨_, (pss_cons (ps_if (PW.pt (pw_or (pt_not (pt_val (pe_callB (r := rIsi K) call_isi (by rfl) T.n_isinstance (by decide +kernel) (pa_cons (pv 0) (pa_cons (pe_bltn (v := .ty "tuple") (by rfl) T.n_tuple (by decide +kernel) rfl) pa_nil))))) (pw_or1 (pt_not (pt_truth (pv 0) (by intro _; rfl)))))) (pss_one (ps_ret pe_bl)) pss_nil)
      (pss_cons (ps_set (i := 1) nd rfl (Or.inl rfl) (pe_ix (r := rIxT K) ix_tup (pv 0) pe_int (fun _ _ => rfl)))
      (pss_cons (ps_if (pt_cmpR op_eq (pv 1) pe_str (nomark _)) (pss_one (ps_ret (pe_cmpR op_eq (pe_callB (r := Wd.rLen K) call_len1 (by rfl) T.n_len PySem.boot_len (pa_cons (pv 0) pa_nil)) pe_int (nomark _)))) pss_nil)
      (pss_cons (ps_if (pt_cmpR op_eq (pv 1) pe_str (nomark _)) (pss_one (ps_ret (pe_and (pe_cmpR op_eq (pe_callB (r := Wd.rLen K) call_len1 (by rfl) T.n_len PySem.boot_len (pa_cons (pv 0) pa_nil)) pe_int (nomark _)) (pe_one (C8.pe_c g_is_range hr (by first | decide | exact Nat.le_refl _ | omega) (by rfl) (pa_cons (pe_ix (r := rIxT K) ix_tup (pv 0) pe_int (fun _ _ => rfl)) (pa_cons (pe_ix (r := rIxT K) ix_tup (pv 0) pe_int (fun _ _ => rfl)) (pa_cons (pe_glob (v := .int 1000) rfl c_LONGEST_WORK ⟨_, rfl⟩) pa_nil)))))))) pss_nil)
      (pss_cons (ps_if (PW.pt (pw_or (pt_cmpR op_eq (pv 1) pe_str (nomark _)) (pw_or1 (pt_cmpR op_eq (pv 1) pe_str (nomark _))))) (pss_one (ps_ret (pe_and (pe_cmpR op_eq (pe_callB (r := Wd.rLen K) call_len1 (by rfl) T.n_len PySem.boot_len (pa_cons (pv 0) pa_nil)) pe_int (nomark _)) (pe_and (pe_callB (r := rIsi K) call_isi (by rfl) T.n_isinstance (by decide +kernel) (pa_cons (pe_ix (r := rIxT K) ix_tup (pv 0) pe_int (fun _ _ => rfl)) (pa_cons (pe_bltn (v := .ty "tuple") (by rfl) T.n_tuple (by decide +kernel) rfl) pa_nil))) (pe_one (pe_chain op_le op_le pe_int (pe_callB (r := Wd.rLen K) call_len1 (by rfl) T.n_len PySem.boot_len (pa_cons (pe_ix (r := rIxT K) ix_tup (pv 0) pe_int (fun _ _ => rfl)) pa_nil)) (pe_glob (v := .int 20) rfl c_LONGEST_ROW ⟨_, rfl⟩))))))) pss_nil)
      (pss_cons (ps_if (pt_cmpR op_eq (pv 1) pe_str (nomark _)) (pss_one (ps_ret (pe_and (pe_cmpR op_eq (pe_callB (r := Wd.rLen K) call_len1 (by rfl) T.n_len PySem.boot_len (pa_cons (pv 0) pa_nil)) pe_int (nomark _)) (pe_one (C8.pe_c g_is_range hr (by first | decide | exact Nat.le_refl _ | omega) (by rfl) (pa_cons (pe_ix (r := rIxT K) ix_tup (pv 0) pe_int (fun _ _ => rfl)) (pa_cons (pe_ix (r := rIxT K) ix_tup (pv 0) pe_int (fun _ _ => rfl)) (pa_cons (pe_glob (v := .int 9) rfl c_MOST_TIMES ⟨_, rfl⟩) pa_nil)))))))) pss_nil)
      (pss_one (ps_ret pe_bl)))))))), ?_⟩
    cases hp with
    | pat ha =>
      walk_at "go"
      refine g_isiB (.ty _) (ty_tup (SqT.of ha)) (b := true) (by decide +kernel) ?_
      walk_at "go"
      refine ⟨_, .inr (.inl ⟨_, SqT.of ha, rfl⟩), ?_⟩
      walk_at "go"
      refine g_ixT (SqT.of ha) rfl ?_
      walk_at "go"
      refine g_len (.inr (SqT.of ha)) ?_
      walk_at "go"
      exact q
    | @work a x y ha =>
      unfold okP at ok
      walk_at "go"
      refine g_isiB (.ty _) (ty_tup (SqT.of ha)) (b := true) (by decide +kernel) ?_
      walk_at "go"
      refine ⟨_, .inr (.inl ⟨_, SqT.of ha, rfl⟩), ?_⟩
      walk_at "go"
      refine g_ixT (SqT.of ha) rfl ?_
      walk_at "go"
      refine g_len (.inr (SqT.of ha)) ?_
      walk_at "go"
      refine g_ixT (SqT.of ha) rfl ?_
      walk_at "go"
      refine g_ixT (SqT.of ha) rfl ?_
      walk_at "go"
      exact ⟨x, y, 1000, rfl, ok, q⟩
    | @row a c vs ps ha hc hps =>
      match d, ok with
      | 0, ok => unfold okP at ok; exact ok.elim
      | d + 1, ok =>
      unfold okP at ok
      have ln := hps.len
      walk_at "go"
      refine g_isiB (.ty _) (ty_tup (SqT.of ha)) (b := true) (by decide +kernel) ?_
      walk_at "go"
      refine ⟨_, .inr (.inl ⟨_, SqT.of ha, rfl⟩), ?_⟩
      walk_at "go"
      refine g_ixT (SqT.of ha) rfl ?_
      walk_at "go"
      refine g_len (.inr (SqT.of ha)) ?_
      walk_at "go"
      refine g_ixT (SqT.of ha) rfl ?_
      walk_at "go"
      refine g_isiB (.ty _) (ty_tup (SqT.of hc)) (b := true) (by decide +kernel) ?_
      walk_at "go"
      refine g_ixT (SqT.of ha) rfl ?_
      walk_at "go"
      refine g_len (.inr (SqT.of hc)) ?_
      walk_at "go"
      refine g_ite (fun _ => ?_) (fun h => absurd (by omega) h)
      walk_at "go"
      rw [decide_eq_true (by omega)]
      exact q
    | @either a c vs ps ha hc hps =>
      match d, ok with
      | 0, ok => unfold okP at ok; exact ok.elim
      | d + 1, ok =>
      unfold okP at ok
      have ln := hps.len
      walk_at "go"
      refine g_isiB (.ty _) (ty_tup (SqT.of ha)) (b := true) (by decide +kernel) ?_
      walk_at "go"
      refine ⟨_, .inr (.inl ⟨_, SqT.of ha, rfl⟩), ?_⟩
      walk_at "go"
      refine g_ixT (SqT.of ha) rfl ?_
      walk_at "go"
      refine g_len (.inr (SqT.of ha)) ?_
      walk_at "go"
      refine g_ixT (SqT.of ha) rfl ?_
      walk_at "go"
      refine g_isiB (.ty _) (ty_tup (SqT.of hc)) (b := true) (by decide +kernel) ?_
      walk_at "go"
      refine g_ixT (SqT.of ha) rfl ?_
      walk_at "go"
      refine g_len (.inr (SqT.of hc)) ?_
      walk_at "go"
      refine g_ite (fun _ => ?_) (fun h => absurd (by omega) h)
      walk_at "go"
      rw [decide_eq_true (by omega)]
      exact q
    | @loop a x y u p ha hu =>
      match d, ok with
      | 0, ok => unfold okP at ok; exact ok.elim
      | d + 1, ok =>
      match l, ok with
      | 0, ok => unfold okP at ok; exact ok.elim
      | l + 1, ok =>
      unfold okP at ok
      walk_at "go"
      refine g_isiB (.ty _) (ty_tup (SqT.of ha)) (b := true) (by decide +kernel) ?_
      walk_at "go"
      refine ⟨_, .inr (.inl ⟨_, SqT.of ha, rfl⟩), ?_⟩
      walk_at "go"
      refine g_ixT (SqT.of ha) rfl ?_
      walk_at "go"
      refine g_len (.inr (SqT.of ha)) ?_
      walk_at "go"
      refine g_ixT (SqT.of ha) rfl ?_
      walk_at "go"
      refine g_ixT (SqT.of ha) rfl ?_
      walk_at "go"
      exact ⟨x, y, 9, rfl, ⟨ok.1, ok.2.1, ok.2.2.1⟩, q⟩
end
end K10
namespace K10
open PySem PySem.Spec PyProof.Rows L2 Wd
theorem take_snoc {α : Type} {l : List α} {i : Nat} {x : α} (h : l[i]? = some x) : l.take (i + 1) = l.take i ++ [x] := by
  rw [List.take_succ, h]; rfl
theorem cnts_app : ∀ ps qs : List Pl, cnts (ps ++ qs) = cnts ps + cnts qs
  | [], qs => by simp only [List.nil_append, Wd.cnts]; omega
  | p :: ps, qs => by have ih := cnts_app ps qs; simp only [List.cons_append, Wd.cnts, ih]; omega
section
variable {P : Program} {w : World} {K : PySem.W.Frag} {mg : Str → Option Value} {base : Heap}
/-- the plans that a plan is made of -/
def kids : Pl → List Pl
  | .row ps => ps
  | .either ps => ps
  | .loop _ _ p => [p]
  | _ => []
abbrev s_plans_in : Stmt := top 22
theorem sc_plans_in : FnScope ["plan"] ["plan"] (C8.fnScope s_plans_in) := C8.fnScope_by (by decide +kernel)
def sp_plans_in (K : PySem.W.Frag) : Sp := fun vs H Q _ => ∃ (v : V) (p : Pl), vs = [v] ∧ PlA H v p ∧ ∀ H' t us, Same H H' → H' t = some (.tup us) → PlAs H' us (kids p) → Q (.ref t) H'
theorem ok_plans_in (T : TxtP K mg) {f : Addr} {fd : FuncData} (D : C8.Def K mg "plans_in" s_plans_in f fd) (b : Binds K fd ["plan"] []) : C8.Cal P w K mg base 1 "plans_in" (sp_plans_in K) [] := by
  refine C8.cal0 D b .nil sc_plans_in (fun vs H Q E h => ?_) fun cdv A outer s H vs Q E hr h => ?_
  · obtain ⟨v, p, rfl, _⟩ := h; rfl
  · obtain ⟨v, p, rfl, hp, q⟩ := h
    have nd := sc_plans_in.nd
    refine ⟨_, (pss_cons (ps_if (PW.pt (pw_or (pt_cmpR op_eq (pe_ix (r := rIxT K) ix_tup (pv 0) pe_int (fun _ _ => rfl)) pe_str (nomark _)) (pw_or1 (pt_cmpR op_eq (pe_ix (r := rIxT K) ix_tup (pv 0) pe_int (fun _ _ => rfl)) pe_str (nomark _))))) (pss_one (ps_ret (pe_ix (r := rIxT K) ix_tup (pv 0) pe_int (fun _ _ => rfl)))) pss_nil)
      (pss_cons (ps_if (pt_cmpR op_eq (pe_ix (r := rIxT K) ix_tup (pv 0) pe_int (fun _ _ => rfl)) pe_str (nomark _)) (pss_one (ps_ret (pe_tup (pa_cons (pe_ix (r := rIxT K) ix_tup (pv 0) pe_int (fun _ _ => rfl)) pa_nil)))) pss_nil)
      (pss_one (ps_ret (pe_tup pa_nil))))), ?_⟩
    cases hp with
    | pat ha =>
      walk_at "go"
      refine g_ixT (SqT.of ha) rfl ?_
      walk_at "go"
      refine g_ixT (SqT.of ha) rfl ?_
      walk_at "go"
      refine g_ixT (SqT.of ha) rfl ?_
      walk_at "go"
      intro t ht
      exact q _ t [] (same_new ht) upd_same .nil
    | work ha =>
      walk_at "go"
      refine g_ixT (SqT.of ha) rfl ?_
      walk_at "go"
      refine g_ixT (SqT.of ha) rfl ?_
      walk_at "go"
      refine g_ixT (SqT.of ha) rfl ?_
      walk_at "go"
      intro t ht
      exact q _ t [] (same_new ht) upd_same .nil
    | row ha hc hps =>
      walk_at "go"
      refine g_ixT (SqT.of ha) rfl ?_
      walk_at "go"
      refine g_ixT (SqT.of ha) rfl ?_
      walk_at "go"
      exact q _ _ _ (fun _ _ h => h) hc hps
    | either ha hc hps =>
      walk_at "go"
      refine g_ixT (SqT.of ha) rfl ?_
      walk_at "go"
      refine g_ixT (SqT.of ha) rfl ?_
      walk_at "go"
      refine g_ixT (SqT.of ha) rfl ?_
      walk_at "go"
      exact q _ _ _ (fun _ _ h => h) hc hps
    | @loop a x y u p ha hu =>
      walk_at "go"
      refine g_ixT (SqT.of ha) rfl ?_
      walk_at "go"
      refine g_ixT (SqT.of ha) rfl ?_
      walk_at "go"
      refine g_ixT (SqT.of ha) rfl ?_
      walk_at "go"
      refine g_ixT (SqT.of ha) rfl ?_
      walk_at "go"
      intro t ht
      exact q _ t _ (same_new ht) upd_same (.cons (PlA_keep (keepT_same (same_new ht)) _ _ hu) .nil)

/-- what waits to be looked at: of each its depth and its loops; n plans in all -/
inductive Wa (H : Hp) : List V → Nat → Prop
  | nil : Wa H [] 0
  | snoc {vs : List V} {n : Nat} {t : Addr} {v : V} {p : Pl} {deep loops : Int} {d l : Nat} : Wa H vs n → H t = some (.tup [v, .int deep, .int loops]) → PlA H v p → okP d l p → deep + d ≤ 6 → loops + l ≤ 2 → Wa H (vs ++ [.ref t]) (n + Wd.cnt p)
theorem Wa.keep {H H' : Hp} (e : KeepT H H') {vs : List V} {n : Nat} (h : Wa H vs n) : Wa H' vs n := by
  induction h with
  | nil => exact .nil
  | snoc _ h1 h2 h3 h4 h5 ih => exact .snoc ih (e _ _ h1) (PlA_keep e _ _ h2) h3 h4 h5
theorem Wa.len {H : Hp} {vs : List V} {n : Nat} (h : Wa H vs n) : vs.length ≤ n := by
  induction h with
  | nil => exact Nat.le_refl _
  | @snoc vs n t v p deep loops d l _ _ _ _ _ _ ih => rw [List.length_append, List.length_singleton]; have := cnt_pos p; omega
theorem cnt_kids : ∀ p : Pl, Wd.cnt p = 1 + Wd.cnts (kids p)
  | .pat => rfl
  | .work _ _ => rfl
  | .row _ => by simp only [Wd.cnt, kids]
  | .either _ => by simp only [Wd.cnt, kids]
  | .loop _ _ _ => by simp only [Wd.cnt, kids, Wd.cnts, Nat.add_zero]
theorem cnts_take {ps : List Pl} {i : Nat} {p : Pl} (h : ps[i]? = some p) : Wd.cnts (ps.take (i + 1)) = Wd.cnts (ps.take i) + Wd.cnt p := by
  rw [take_snoc h, cnts_app]; simp only [Wd.cnts, Nat.add_zero]
theorem Wa.inv {H : Hp} {xs : List V} {n : Nat} (h : Wa H xs n) : (xs = [] ∧ n = 0) ∨ ∃ (vs : List V) (m : Nat) (t : Addr) (v : V) (p : Pl) (deep loops : Int) (d l : Nat), xs = vs ++ [.ref t] ∧ n = m + Wd.cnt p ∧ Wa H vs m ∧ H t = some (.tup [v, .int deep, .int loops]) ∧ PlA H v p ∧ okP d l p ∧ deep + d ≤ 6 ∧ loops + l ≤ 2 := by
  cases h with
  | nil => exact .inl ⟨rfl, rfl⟩
  | snoc h1 h2 h3 h4 h5 h6 => exact .inr ⟨_, _, _, _, _, _, _, _, _, rfl, rfl, h1, h2, h3, h4, h5, h6⟩
theorem cnts_take_le : ∀ (ps : List Pl) (i : Nat), Wd.cnts (ps.take i) ≤ Wd.cnts ps
  | [], i => by rw [List.take_nil]; exact Nat.le_refl _
  | p :: ps, 0 => Nat.zero_le _
  | p :: ps, i + 1 => by have := cnts_take_le ps i; simp only [List.take_succ_cons, Wd.cnts]; omega
def word : Pl → Str
  | .pat => "pat"
  | .work _ _ => "work"
  | .row _ => "row"
  | .either _ => "either"
  | .loop _ _ _ => "loop"
def lp : Pl → Nat
  | .loop _ _ _ => 1
  | _ => 0
theorem word_at {H : Hp} {v : V} {p : Pl} (h : PlA H v p) : ∃ a xs, v = .ref a ∧ H a = some (.tup (.str (word p) :: xs)) := by
  cases h with
  | pat h => exact ⟨_, _, rfl, h⟩
  | work h => exact ⟨_, _, rfl, h⟩
  | row h _ _ => exact ⟨_, _, rfl, h⟩
  | either h _ _ => exact ⟨_, _, rfl, h⟩
  | loop h _ => exact ⟨_, _, rfl, h⟩
theorem lp_yes {p : Pl} (h : word p = "loop") : lp p = 1 := by
  cases p with
  | loop _ _ _ => rfl
  | pat => exact absurd h (by decide)
  | work _ _ => exact absurd h (by decide : ¬ (Str.ofString "work" = Str.ofString "loop"))
  | row _ => exact absurd h (by decide : ¬ (Str.ofString "row" = Str.ofString "loop"))
  | either _ => exact absurd h (by decide : ¬ (Str.ofString "either" = Str.ofString "loop"))
theorem lp_no {p : Pl} (h : ¬ word p = "loop") : lp p = 0 := by
  cases p with
  | loop _ _ _ => exact absurd rfl h
  | pat => rfl
  | work _ _ => rfl
  | row _ => rfl
  | either _ => rfl
theorem kids_ok : ∀ {p : Pl} {d l : Nat}, okP d l p → lp p ≤ l ∧ (kids p = [] ∨ ∃ d', d = d' + 1 ∧ okPs d' (l - lp p) (kids p))
  | .pat, _, _, _ => ⟨Nat.zero_le _, .inl rfl⟩
  | .work _ _, _, _, _ => ⟨Nat.zero_le _, .inl rfl⟩
  | .row _, 0, _, h => by unfold okP at h; exact h.elim
  | .row ps, d + 1, l, h => by unfold okP at h; exact ⟨Nat.zero_le _, .inr ⟨d, rfl, h.2.2⟩⟩
  | .either _, 0, _, h => by unfold okP at h; exact h.elim
  | .either ps, d + 1, l, h => by unfold okP at h; exact ⟨Nat.zero_le _, .inr ⟨d, rfl, h.2.2⟩⟩
  | .loop _ _ _, 0, _, h => by unfold okP at h; exact h.elim
  | .loop _ _ _, d + 1, 0, h => by unfold okP at h; exact h.elim
  | .loop _ _ p, d + 1, l + 1, h => by unfold okP at h; exact ⟨Nat.le_add_left _ _, .inr ⟨d, rfl, by show okPs d l [p]; unfold okPs; exact ⟨h.2.2.2, by unfold okPs; trivial⟩⟩⟩
abbrev s_check_plan : Stmt := top 23
theorem sc_check_plan : FnScope ["plan", "waiting", "many", "part", "deep", "loops", "inner"] ["plan"] (C8.fnScope s_check_plan) := C8.fnScope_by (by decide +kernel)
def sp_check_plan (K : PySem.W.Frag) : Sp := fun vs H Q _ => ∃ (v : V) (p : Pl) (d l : Nat), vs = [v] ∧ PlA H v p ∧ okP d l p ∧ d ≤ 5 ∧ l ≤ 2 ∧ cnt p ≤ 30 ∧ ∀ H', Same H H' → Q .non H'
theorem ok_check_plan (T : TxtP K mg) {f : Addr} {fd : FuncData} (D : C8.Def K mg "check_plan" s_check_plan f fd) (b : Binds K fd ["plan"] []) (g_has_form : C8.Cal P w K mg base 3 "has_form" (sp_has_form K) []) (g_plans_in : C8.Cal P w K mg base 1 "plans_in" (sp_plans_in K) []) :
    C8.Cal P w K mg base 4 "check_plan" (sp_check_plan K) [] := by
  refine C8.cal0 D b .nil sc_check_plan (fun vs H Q E h => ?_) fun cdv A outer s H vs Q E hr h => ?_
  · obtain ⟨v, p, d, l, rfl, _⟩ := h; rfl
  · obtain ⟨v, p0, d, l, rfl, hp, ok, hd, hl, hc, q⟩ := h
    have nd := sc_check_plan.nd
    obtain ⟨_, c_MOST_PLANS⟩ := T.k_MOST_PLANS
    obtain ⟨_, c_MOST_DEEP⟩ := T.k_MOST_DEEP
    obtain ⟨_, c_MOST_LOOPS⟩ := T.k_MOST_LOOPS
    refine ⟨_, (pss_cons (ps_set (i := 1) nd rfl (Or.inl rfl) (pe_lst (pa_cons (pe_tup (pa_cons (pv 0) (pa_cons pe_int (pa_cons pe_int pa_nil)))) pa_nil)))
      (pss_cons (ps_set (i := 2) nd rfl (Or.inl rfl) pe_int)
      (pss_one (ps_while PassesOwn.never (pt_truth (pv 1) (by intro _; rfl)) (pss_cons (ps_asg (pe_bm0K (K := K) rfl PySem.F.plainAttrs_list PySem.F.slot_list_pop PySem.F.type_list_pop mt_pop (pv 1)) (pg_tup rfl (pgs_cons (pg_name (i := 3) nd rfl (Or.inl rfl)) (pgs_cons (pg_name (i := 4) nd rfl (Or.inl rfl)) (pgs_cons (pg_name (i := 5) nd rfl (Or.inl rfl)) pgs_nil)))))
      (pss_cons (ps_aug (i := 2) nd rfl (Or.inl rfl) pe_int ip_add)
      (pss_cons (ps_if (PW.pt (pw_or (pt_cmpR op_gt (pv 2) (pe_glob (v := .int 30) rfl c_MOST_PLANS ⟨_, rfl⟩) (nomark _)) (pw_or (pt_cmpR op_gt (pv 4) (pe_glob (v := .int 6) rfl c_MOST_DEEP ⟨_, rfl⟩) (nomark _)) (pw_or1 (pt_not (pt_val (C8.pe_c g_has_form hr (by first | decide | exact Nat.le_refl _ | omega) (by rfl) (pa_cons (pv 3) pa_nil)))))))) (pss_one ps_never) pss_nil)
      (pss_cons (ps_if (pt_cmpR op_eq (pe_ix (r := rIxT K) ix_tup (pv 3) pe_int (fun _ _ => rfl)) pe_str (nomark _)) (pss_one (ps_aug (i := 5) nd rfl (Or.inl rfl) pe_int ip_add)) pss_nil)
      (pss_cons (ps_if (pt_cmpR op_gt (pv 5) (pe_glob (v := .int 2) rfl c_MOST_LOOPS ⟨_, rfl⟩) (nomark _)) (pss_one ps_never) pss_nil)
      (pss_one (ps_for PassesOwn.never rfl (pi_tup (C8.pe_c g_plans_in hr (by first | decide | exact Nat.le_refl _ | omega) (by rfl) (pa_cons (pv 3) pa_nil))) (pg_name (i := 6) nd rfl (Or.inl rfl)) (pss_one (ps_expr (pe_bmK (K := K) rfl PySem.F.plainAttrs_list PySem.F.slot_list_append PySem.F.type_list_append mt_append (pv 1) (pa_cons (pe_tup (pa_cons (pv 6) (pa_cons (pe_op op_add (pv 4) pe_int) (pa_cons (pv 5) pa_nil)))) pa_nil))))))))))))))), ?_⟩
    walk_at "go"
    intro t ht
    walk_at "go"
    intro W hW
    walk_at "go"
    have hW0 : H W = none := by
      by_cases e : W = t
      · rw [e]; exact ht
      · rwa [upd_ne e] at hW
    obtain ⟨a0, xs0, rfl, _⟩ := word_at hp
    have sm0 : Same H (upd (upd H t (.tup [.ref a0, .int 1, .int 0])) W (.lst [.ref t])) := (same_new ht).trans (same_new hW)
    have hp0 : ∀ H', Same H H' → PlA H' (.ref a0) p0 := fun H' s => PlA_keep (keepT_same s) _ _ hp
    refine w_loop (fun m σ H' => ∃ (xs : List V) (many : Int) (v3 v4 v5 v6 : Option V), σ = [some (.ref a0), some (.ref W), some (.int many), v3, v4, v5, v6] ∧ Same H H' ∧ PlA H' (.ref a0) p0 ∧ H' W = some (.lst xs) ∧ Wa H' xs m ∧ 0 ≤ many ∧ many + m ≤ 30) (0 + Wd.cnt p0) ?_ ?_
    · exact ⟨_, 0, _, _, _, _, rfl, sm0, hp0 _ sm0, upd_same, .snoc (vs := []) .nil (same_new hW _ _ upd_same) (hp0 _ sm0) ok (by omega) (by omega), by decide, by omega⟩
    · rintro m σ H' ⟨xs, many, v3, v4, v5, v6, rfl, sm, hp', hWx, wa, le0, le⟩
      walk_at "go"
      rcases wa.inv with ⟨rfl, rfl⟩ | ⟨vs, n, tt0, v, p, deep, loops, d, l, rfl, rfl, wa, hE, pv, okk0, h6, h7⟩
      · refine ⟨false, .inl ⟨[], SqL.of hWx, rfl⟩, ?_⟩
        walk_at "go"
        exact q _ sm
      refine ⟨true, .inl ⟨_, SqL.of hWx, by cases vs <;> rfl⟩, ?_⟩
      refine L2.iteT ?_
      refine ⟨fun σ' H'' => ∃ m', m' < n + Wd.cnt p ∧ ∃ (xs : List V) (many : Int) (v3 v4 v5 v6 : Option V), σ' = [some (.ref a0), some (.ref W), some (.int many), v3, v4, v5, v6] ∧ Same H H'' ∧ PlA H'' (.ref a0) p0 ∧ H'' W = some (.lst xs) ∧ Wa H'' xs m' ∧ 0 ≤ many ∧ many + m' ≤ 30, fun _ _ h => h, ?_⟩
      obtain ⟨lpl, kok⟩ := kids_ok okk0
      have ck := cnt_kids p
      have len1 := wa.len
      walk_at "go"
      refine g_tyL hWx ?_
      refine g_pop hWx (y := .ref tt0) (by rw [List.length_append, List.length_singleton, Nat.add_sub_cancel, List.getElem?_append_right (Nat.le_refl _), Nat.sub_self]; rfl) ?_
      rw [List.dropLast_concat]
      have k1 : KeepT H' (upd H' W (.lst vs)) := keepT_lst hWx
      have sm1 : Same H (upd H' W (.lst vs)) := Wd.Same.mut sm hW0
      have hW1 : upd H' W (.lst vs) W = some (.lst vs) := upd_same
      have wa1 := wa.keep k1
      have pv := PlA_keep k1 _ _ pv
      refine g_gtup (SqT.of (k1 _ _ hE)) rfl ?_
      walk_at "go"
      refine ⟨_, rfl, ?_⟩
      walk_at "go"
      refine ⟨_, _, rfl, rfl, ?_⟩
      walk_at "go"
      refine g_ite (fun hx => absurd (show 30 < many + 1 from hx) (by omega)) (fun _ => ?_)
      walk_at "go"
      refine g_ite (fun hx => absurd hx (by omega)) (fun _ => ?_)
      walk_at "go"
      refine ⟨v, p, d, l, rfl, pv, okk0, ?_⟩
      walk_at "go"
      obtain ⟨av, xv, rfl, hav⟩ := word_at pv
      refine g_ixT (v := .str (word p)) (SqT.of hav) (at_of (j := 0) rfl rfl) ?_
      walk_at "go"
      generalize hv : V.ref av = v at pv ⊢
      refine g_ite (fun hw => ?_) (fun hw => ?_)
      · have lp1 := lp_yes hw
        walk_at "go"
        refine ⟨_, rfl, ?_⟩
        walk_at "go"
        refine ⟨_, _, rfl, rfl, ?_⟩
        walk_at "go"
        refine g_ite (fun hx => absurd (show 2 < loops + 1 from hx) (by omega)) (fun _ => ?_)
        walk_at "go"
        refine ⟨v, p, rfl, pv, fun H4 tt us s4 hT pk => ?_⟩
        have hW4 := s4 _ _ hW1
        have sm4 : Same H H4 := sm1.trans s4
        refine w_tup (xs := us) (fun i σ H' => ∃ (v6 : Option V) (xs : List V), σ = [some (.ref a0), some (.ref W), some (.int (many + 1)), some v, some (.int deep), some (.int (loops + 1)), v6] ∧ Same H H' ∧ H' tt = some (.tup us) ∧ PlAs H' us (kids p) ∧ H' W = some (.lst xs) ∧ Wa H' xs (n + Wd.cnts ((kids p).take i))) ?_ ?_ ?_ ?_
        · exact ⟨_, vs, rfl, sm4, hT, pk, hW4, by simpa only [List.take_zero, Wd.cnts, Nat.add_zero] using wa1.keep (keepT_same s4)⟩
        · rintro i σ H' _ ⟨v6, xs, _, _, hT', _⟩
          exact SqT.of hT'
        · rintro i u σ H' hu ⟨v6, xs, rfl, sm5, hT5, pk5, hW5, wa5⟩
          obtain ⟨q1, hq, pu⟩ := pk5.at hu
          obtain ⟨d', rfl, okk⟩ := kok.resolve_left (fun e => by rw [e] at hq; cases hq)
          have l5 := wa5.len
          have c5 := cnts_take hq
          have c6 : Wd.cnts ((kids p).take (i + 1)) ≤ Wd.cnts (kids p) := cnts_take_le _ _
          walk_at "go"
          refine g_tyL hW5 ?_
          walk_at "go"
          intro e he
          have s6 := same_new (o := .tup [u, .int (deep + 1), .int (loops + 1)]) he
          walk_at "go"
          refine g_append (s6 _ _ hW5) (by omega) ?_
          have k6 : KeepT H' (upd (upd H' e (.tup [u, .int (deep + 1), .int (loops + 1)])) W (.lst (xs ++ [.ref e]))) := (keepT_same s6).trans (keepT_lst (s6 _ _ hW5))
          walk_at "go"
          refine ⟨_, xs ++ [.ref e], rfl, Wd.Same.mut (sm5.trans s6) hW0, ?_, PlAs_keep k6 _ _ pk5, upd_same, ?_⟩
          · exact k6 _ _ hT5
          · rw [c5, ← Nat.add_assoc]
            exact .snoc (wa5.keep k6) (keepT_lst (s6 _ _ hW5) _ _ upd_same) (PlA_keep k6 _ _ pu) (okPs_at okk hq) (by omega) (by omega)
        · rintro σ H' ⟨v6, xs, rfl, sm5, hT5, pk5, hW5, wa5⟩
          rw [pk5.len, List.take_length] at wa5
          walk_at "go"
          exact ⟨_, by omega, xs, _, _, _, _, _, rfl, sm5, hp0 _ sm5, hW5, wa5, (show 0 ≤ many + 1 by omega), (show many + 1 + ((n + Wd.cnts (kids p) : Nat) : Int) ≤ 30 by omega)⟩
      · have lp0 := lp_no hw
        walk_at "go"
        refine g_ite (fun hx => absurd (show 2 < loops from hx) (by omega)) (fun _ => ?_)
        walk_at "go"
        refine ⟨v, p, rfl, pv, fun H4 tt us s4 hT pk => ?_⟩
        have hW4 := s4 _ _ hW1
        have sm4 : Same H H4 := sm1.trans s4
        refine w_tup (xs := us) (fun i σ H' => ∃ (v6 : Option V) (xs : List V), σ = [some (.ref a0), some (.ref W), some (.int (many + 1)), some v, some (.int deep), some (.int loops), v6] ∧ Same H H' ∧ H' tt = some (.tup us) ∧ PlAs H' us (kids p) ∧ H' W = some (.lst xs) ∧ Wa H' xs (n + Wd.cnts ((kids p).take i))) ?_ ?_ ?_ ?_
        · exact ⟨_, vs, rfl, sm4, hT, pk, hW4, by simpa only [List.take_zero, Wd.cnts, Nat.add_zero] using wa1.keep (keepT_same s4)⟩
        · rintro i σ H' _ ⟨v6, xs, _, _, hT', _⟩
          exact SqT.of hT'
        · rintro i u σ H' hu ⟨v6, xs, rfl, sm5, hT5, pk5, hW5, wa5⟩
          obtain ⟨q1, hq, pu⟩ := pk5.at hu
          obtain ⟨d', rfl, okk⟩ := kok.resolve_left (fun e => by rw [e] at hq; cases hq)
          have l5 := wa5.len
          have c5 := cnts_take hq
          have c6 : Wd.cnts ((kids p).take (i + 1)) ≤ Wd.cnts (kids p) := cnts_take_le _ _
          walk_at "go"
          refine g_tyL hW5 ?_
          walk_at "go"
          intro e he
          have s6 := same_new (o := .tup [u, .int (deep + 1), .int loops]) he
          walk_at "go"
          refine g_append (s6 _ _ hW5) (by omega) ?_
          have k6 : KeepT H' (upd (upd H' e (.tup [u, .int (deep + 1), .int loops])) W (.lst (xs ++ [.ref e]))) := (keepT_same s6).trans (keepT_lst (s6 _ _ hW5))
          walk_at "go"
          refine ⟨_, xs ++ [.ref e], rfl, Wd.Same.mut (sm5.trans s6) hW0, ?_, PlAs_keep k6 _ _ pk5, upd_same, ?_⟩
          · exact k6 _ _ hT5
          · rw [c5, ← Nat.add_assoc]
            exact .snoc (wa5.keep k6) (keepT_lst (s6 _ _ hW5) _ _ upd_same) (PlA_keep k6 _ _ pu) (okPs_at okk hq) (by omega) (by omega)
        · rintro σ H' ⟨v6, xs, rfl, sm5, hT5, pk5, hW5, wa5⟩
          rw [pk5.len, List.take_length] at wa5
          walk_at "go"
          exact ⟨_, by omega, xs, _, _, _, _, _, rfl, sm5, hp0 _ sm5, hW5, wa5, (show 0 ≤ many + 1 by omega), (show many + 1 + ((n + Wd.cnts (kids p) : Nat) : Int) ≤ 30 by omega)⟩
end
end K10
namespace K10
open PySem PySem.Spec PyProof.Rows L2 Wd
/-! ### a run -/
structure TxtR (K : PySem.W.Frag) (CR : Addr) : Prop where
  c : Cls K CR
  nD : NoAttr K CR "delays"
  nU : NoAttr K CR "used"
  nN : NoAttr K CR "now"
  nP : NoAttr K CR "pats"
section
variable {P : Program} {w : World} {K : PySem.W.Frag} {mg : Str → Option Value} {base : Heap} {CR : Addr}
abbrev runF (LA PA : Addr) (u t : Int) : List (Str × V) := [("delays", .ref LA), ("used", .int u), ("now", .int t), ("pats", .ref PA)]
theorem lk_d {LA PA : Addr} {u t : Int} : (runF LA PA u t).lookup ("delays" : Str) = some (.ref LA) := rfl
theorem lk_u {LA PA : Addr} {u t : Int} : (runF LA PA u t).lookup ("used" : Str) = some (.int u) := rfl
theorem lk_n {LA PA : Addr} {u t : Int} : (runF LA PA u t).lookup ("now" : Str) = some (.int t) := rfl
theorem lk_p {LA PA : Addr} {u t : Int} : (runF LA PA u t).lookup ("pats" : Str) = some (.ref PA) := rfl
theorem lk_take {LA PA : Addr} {u t : Int} : (runF LA PA u t).lookup ("take" : Str) = none := rfl
theorem lk_follow {LA PA : Addr} {u t : Int} : (runF LA PA u t).lookup ("follow" : Str) = none := rfl
theorem put_u {LA PA : Addr} {u t z : Int} : putF ("used" : Str) (.int z) (runF LA PA u t) = runF LA PA z t := rfl
theorem put_n {LA PA : Addr} {u t z : Int} : putF ("now" : Str) (.int z) (runF LA PA u t) = runF LA PA u z := rfl
abbrev s_Run_init : Stmt := (C8.clsBody (top 24)).getD 0 (.Pass ⟨0, 0, 0, 0⟩)
abbrev s_Run_take : Stmt := (C8.clsBody (top 24)).getD 1 (.Pass ⟨0, 0, 0, 0⟩)
abbrev s_Run_follow : Stmt := (C8.clsBody (top 24)).getD 2 (.Pass ⟨0, 0, 0, 0⟩)
theorem sc_Run_take : FnScope ["self", "least", "most", "at", "delay"] ["self", "least", "most"] (C8.fnScope s_Run_take) := C8.fnScope_by (by decide +kernel)
def sp_take (K : PySem.W.Frag) (CR : Addr) : Sp := fun vs H Q _ => ∃ (R dx LA PA : Addr) (u : Nat) (t lo hi d : Int) (ds : List Int), vs = [.ref R, .int lo, .int hi] ∧ H R = some (.ins CR dx (runF LA PA u t)) ∧ SqL K H LA (ds.map V.int) ∧ ds[u]? = some d ∧ lo ≤ d ∧ d ≤ hi ∧
  Q (.int d) (upd H R (.ins CR dx (runF LA PA (u + 1 : Nat) t)))
theorem ok_take (T : TxtP K mg) (TR : TxtR K CR) {f : Addr} {fd : FuncData} (me : Meth K CR "take" f) (F : C8.Fun K "take" "Run.take" s_Run_take f fd) (b : Binds K fd ["self", "least", "most"] []) (g_is_number : C8.Cal P w K mg base 1 "is_number" sp_is_number []) : C8.Met P w K mg base 2 CR "take" (sp_take K CR) [] := by
  refine C8.met0 TR.c me F b sc_Run_take (fun vs H Q E h => ?_) fun cdv A outer s H vs Q E hr h => ?_
  · obtain ⟨R, dx, LA, PA, u, t, lo, hi, d, ds, rfl, _⟩ := h; rfl
  · obtain ⟨R, dx, LA, PA, u, t, lo, hi, d, ds, rfl, hR, hL, hd, h1, h2, q⟩ := h
    have nd := sc_Run_take.nd
    have hu : u < ds.length := (List.getElem?_eq_some_iff.mp hd).1
    refine ⟨_, (pss_cons (ps_set (i := 3) nd rfl (Or.inl rfl) (pe_fld (pv 0) rfl))
      (pss_cons (ps_if (pt_cmpR op_eq (pv 3) (pe_callB (r := Wd.rLen K) call_len1 (by rfl) T.n_len PySem.boot_len (pa_cons (pe_fld (pv 0) rfl) pa_nil)) (nomark _)) (pss_one ps_never) pss_nil)
      (pss_cons (ps_set (i := 4) nd rfl (Or.inl rfl) (pe_ix (r := rIxL K) ix_list (pe_fld (pv 0) rfl) (pv 3) (fun _ _ => rfl)))
      (pss_cons (ps_if (PW.pt (pw_or (pt_not (pt_val (C8.pe_c g_is_number hr (by first | decide | exact Nat.le_refl _ | omega) (by rfl) (pa_cons (pv 4) pa_nil)))) (pw_or1 (pt_not (pt_chain op_le op_le (pv 1) (pv 4) (pv 2)))))) (pss_one ps_never) pss_nil)
      (pss_cons (ps_fldaug (pv 0) pe_int in_add)
      (pss_one (ps_ret (pv 4)))))))), ?_⟩
    walk_at "go"
    refine ⟨_, rfl, R, CR, dx, _, _, rfl, hR, TR.c, TR.nU, lk_u, ?_⟩
    walk_at "go"
    refine ⟨_, rfl, R, CR, dx, _, _, rfl, hR, TR.c, TR.nD, lk_d, ?_⟩
    walk_at "go"
    refine g_len (.inl hL) ?_
    walk_at "go"
    rw [List.length_map]
    refine g_ite (fun h => absurd h (by omega)) (fun _ => ?_)
    walk_at "go"
    refine ⟨_, rfl, R, CR, dx, _, _, rfl, hR, TR.c, TR.nD, lk_d, ?_⟩
    walk_at "go"
    refine g_ixL hL (at_of (j := u) (v := .int d) rfl (by rw [List.getElem?_map, hd]; rfl)) ?_
    walk_at "go"
    refine ⟨d, rfl, ?_⟩
    walk_at "go"
    refine g_ite (fun _ => ?_) (fun h => absurd h1 h)
    walk_at "go"
    refine g_iteN (fun h => absurd h2 h) (fun _ => ?_)
    walk_at "go"
    refine ⟨_, rfl, R, CR, dx, _, _, rfl, hR, TR.c, TR.nU, lk_u, ?_⟩
    walk_at "go"
    refine ⟨_, _, rfl, rfl, ?_⟩
    refine ⟨_, _, hR, by show 4 < 1000; decide, ?_⟩
    walk_at "go"
    exact q

end
end K10
namespace K10
open PySem PySem.Spec PyProof.Rows L2 Wd
def Frm2 (S F : Addr) (H H' : Hp) : Prop := ∀ b o, b ≠ S → b ≠ F → H b = some o → H' b = some o
theorem Frm2.refl (S F : Addr) (H : Hp) : Frm2 S F H H := fun _ _ _ _ h => h
theorem Frm2.trans {S F : Addr} {H H1 H2 : Hp} (a : Frm2 S F H H1) (b : Frm2 S F H1 H2) : Frm2 S F H H2 := fun c o n1 n2 h => b c o n1 n2 (a c o n1 n2 h)
theorem Frm2.of1 {S F : Addr} {H H' : Hp} (f : Frm S H H') : Frm2 S F H H' := fun b o n _ h => f b o n h
theorem Frm2.set {S F : Addr} {H : Hp} {o : HO} : Frm2 S F H (upd H F o) := fun b u _ n h => by rw [upd_ne n]; exact h
theorem drop_at {α : Type} : ∀ {l : List α} {i : Nat} {x : α}, l[i]? = some x → l.drop i = x :: l.drop (i + 1)
  | _ :: _, 0, _, e => by cases e; rfl
  | _ :: l, i + 1, _, e => drop_at (l := l) (i := i) e
theorem keepT_of_frm {H H' : Hp} {PA : Addr} {xs : List V} (hP : H PA = some (.lst xs)) (f : Frm PA H H') : KeepT H H' := fun b ys h => f b _ (ne_of h hP (fun z => nomatch z)) h
section
variable {P : Program} {w : World} {K : PySem.W.Frag} {mg : Str → Option Value} {base : Heap} {CR : Addr}
theorem Frm2.setS {S F : Addr} {H : Hp} {o : HO} : Frm2 S F H (upd H S o) := fun b u n _ h => by rw [upd_ne n]; exact h
theorem keep2 {H H' : Hp} {R PA dx : Addr} {fs : List (Str × V)} {xs : List V} (hR : H R = some (.ins CR dx fs)) (hP : H PA = some (.lst xs)) (f : Frm2 R PA H H') : KeepT H H' := fun b ys h => f b _ (ne_of h hR (fun z => nomatch z)) (ne_of h hP (fun z => nomatch z)) h
theorem drop_cons {ds : List Int} {u : Nat} {d0 : Int} {rest : List Int} (e : ds.drop u = d0 :: rest) : ds[u]? = some d0 ∧ rest = ds.drop (u + 1) ∧ u + 1 ≤ ds.length := by
  have h1 : ds[u]? = some d0 := by
    have := congrArg (fun l => l[0]?) e
    simpa using this
  have hl := (List.getElem?_eq_some_iff.mp h1).1
  refine ⟨h1, ?_, hl⟩
  rw [drop_at h1] at e
  exact (List.cons.inj e).2.symm
theorem sc_Run_follow : FnScope ["self", "plan", "word", "part", "which", "times", "turn"] ["self", "plan"] (C8.fnScope s_Run_follow) := C8.fnScope_by (by decide +kernel)
def sp_follow (K : PySem.W.Frag) (CR : Addr) : Nat → Sp
  | 0 => fun _ _ _ _ => False
  | d + 1 => fun vs H Q _ => ∃ (R dx LA PA : Addr) (u : Nat) (t : Int) (v : V) (p : Pl) (l : Nat) (ds ps nq ds' : List Int) (t' : Int), vs = [.ref R, v] ∧ PlA H v p ∧ okP d l p ∧ H R = some (.ins CR dx (runF LA PA u t)) ∧ H LA = some (.lst (ds.map V.int)) ∧ LA ≠ PA ∧ H PA = some (.lst (ps.map V.int)) ∧
    u ≤ ds.length ∧ rn p (ds.drop u) t = some (nq, ds', t') ∧ ps.length + nq.length ≤ 10000000 ∧
    ∀ H' (u' : Nat), Frm2 R PA H H' → u' ≤ ds.length → ds' = ds.drop u' → H' R = some (.ins CR dx (runF LA PA u' t')) → H' PA = some (.lst ((ps ++ nq).map V.int)) → Q .non H'
theorem follow_step (T : TxtP K mg) (TR : TxtR K CR) {d : Nat} {f : Addr} {fd : FuncData} (me : Meth K CR "follow" f) (F : C8.Fun K "follow" "Run.follow" s_Run_follow f fd) (b : Binds K fd ["self", "plan"] []) (m_take : C8.Met P w K mg base 2 CR "take" (sp_take K CR) [])
    (m_follow : C8.Met P w K mg base (d + 2) CR "follow" (sp_follow K CR d) []) : C8.Met P w K mg base (d + 3) CR "follow" (sp_follow K CR (d + 1)) [] := by
  refine C8.met0 TR.c me F b sc_Run_follow (fun vs H Q E h => ?_) fun cdv A outer s H vs Q E hr h => ?_
  · obtain ⟨R, dx, LA, PA, u, t, v, p, l, ds, ps, nq, ds', t', rfl, _⟩ := h; rfl
  · obtain ⟨R, dx, LA, PA, u, t, v, p, l, ds, ps, nq, ds', t', rfl, hp, ok, hR, hL, ne, hP, hu, r, sz, q⟩ := h
    have nd := sc_Run_follow.nd
    have nRP : R ≠ PA := ne_of hR hP (fun z => nomatch z)
    have nLR : LA ≠ R := ne_of hL hR (fun z => nomatch z)
    have hr : Room (d + 2) _ := hr
    refine ⟨_, (pss_cons (ps_set (i := 2) nd rfl (Or.inl rfl) (pe_ix (r := rIxT K) ix_tup (pv 1) pe_int (fun _ _ => rfl)))
      (pss_one (ps_if (pt_cmpR op_eq (pv 2) pe_str (nomark _)) (pss_one (ps_expr (pe_bmK (K := K) rfl PySem.F.plainAttrs_list PySem.F.slot_list_append PySem.F.type_list_append mt_append (pe_fld (pv 0) rfl) (pa_cons (pe_fld (pv 0) rfl) pa_nil)))) (pss_one (ps_if (pt_cmpR op_eq (pv 2) pe_str (nomark _)) (pss_one (ps_fldaug (pv 0) (C8.pe_mt m_take hr (by first | decide | exact Nat.le_refl _ | omega) (pv 0) (pa_cons (pe_ix (r := rIxT K) ix_tup (pv 1) pe_int (fun _ _ => rfl)) (pa_cons (pe_ix (r := rIxT K) ix_tup (pv 1) pe_int (fun _ _ => rfl)) pa_nil))) in_add)) (pss_one (ps_if (pt_cmpR op_eq (pv 2) pe_str (nomark _)) (pss_one (ps_for PassesOwn.never rfl (pi_tup (pe_ix (r := rIxT K) ix_tup (pv 1) pe_int (fun _ _ => rfl))) (pg_name (i := 3) nd rfl (Or.inl rfl)) (pss_one (ps_expr (C8.pe_mt m_follow hr (by first | decide | exact Nat.le_refl _ | omega) (pv 0) (pa_cons (pv 3) pa_nil)))))) (pss_one (ps_if (pt_cmpR op_eq (pv 2) pe_str (nomark _)) (pss_cons (ps_set (i := 4) nd rfl (Or.inl rfl) (C8.pe_mt m_take hr (by first | decide | exact Nat.le_refl _ | omega) (pv 0) (pa_cons pe_int (pa_cons (pe_op op_sub (pe_callB (r := Wd.rLen K) call_len1 (by rfl) T.n_len PySem.boot_len (pa_cons (pe_ix (r := rIxT K) ix_tup (pv 1) pe_int (fun _ _ => rfl)) pa_nil)) pe_int) pa_nil))))
      (pss_one (ps_expr (C8.pe_mt m_follow hr (by first | decide | exact Nat.le_refl _ | omega) (pv 0) (pa_cons (pe_ix (r := rIxT K) ix_tup (pe_ix (r := rIxT K) ix_tup (pv 1) pe_int (fun _ _ => rfl)) (pv 4) (fun _ _ => rfl)) pa_nil))))) (pss_cons (ps_set (i := 5) nd rfl (Or.inl rfl) (C8.pe_mt m_take hr (by first | decide | exact Nat.le_refl _ | omega) (pv 0) (pa_cons (pe_ix (r := rIxT K) ix_tup (pv 1) pe_int (fun _ _ => rfl)) (pa_cons (pe_ix (r := rIxT K) ix_tup (pv 1) pe_int (fun _ _ => rfl)) pa_nil))))
      (pss_one (ps_for PassesOwn.never rfl (pi_range1 rfl T.n_range (pa_cons (pv 5) pa_nil)) (pg_name (i := 6) nd rfl (Or.inl rfl)) (pss_one (ps_expr (C8.pe_mt m_follow hr (by first | decide | exact Nat.le_refl _ | omega) (pv 0) (pa_cons (pe_ix (r := rIxT K) ix_tup (pv 1) pe_int (fun _ _ => rfl)) pa_nil)))))))))))))))), ?_⟩
    cases hp with
    | pat ha =>
      walk_at "go"
      refine g_ixT (SqT.of ha) rfl ?_
      walk_at "go"
      refine ⟨_, rfl, R, CR, dx, _, _, rfl, hR, TR.c, TR.nP, lk_p, ?_⟩
      refine g_tyL hP ?_
      walk_at "go"
      refine ⟨_, rfl, R, CR, dx, _, _, rfl, hR, TR.c, TR.nN, lk_n, ?_⟩
      walk_at "go"
      simp only [rn, Option.some.injEq, Prod.mk.injEq] at r
      obtain ⟨rfl, rfl, rfl⟩ := r
      have lp : ps.length < 16000000 := by omega
      refine ⟨_, _, _, rfl, rfl, hP, by rw [List.length_map]; exact Nat.lt_of_lt_of_le lp (by decide), ?_⟩
      walk_at "go"
      exact q _ u .set hu rfl (by rw [upd_ne nRP]; exact hR) (by rw [upd_same, List.map_append]; rfl)
    | @work a x y ha =>
      cases e : ds.drop u with
      | nil => rw [e] at r; simp only [rn] at r; cases r
      | cons d0 rest =>
      rw [e] at r
      obtain ⟨hd, er, hu1⟩ := drop_cons e
      simp only [rn] at r
      split at r
      case isFalse => cases r
      rename_i bd
      simp only [Option.some.injEq, Prod.mk.injEq] at r
      obtain ⟨rfl, rfl, rfl⟩ := r
      walk_at "go"
      refine g_ixT (SqT.of ha) rfl ?_
      walk_at "go"
      refine ⟨_, rfl, R, CR, dx, _, _, rfl, hR, TR.c, TR.nN, lk_n, ?_⟩
      refine ⟨_, rfl, R, dx, _, rfl, hR, lk_take, ?_⟩
      walk_at "go"
      refine g_ixT (SqT.of ha) rfl ?_
      walk_at "go"
      refine g_ixT (SqT.of ha) rfl ?_
      walk_at "go"
      refine ⟨R, dx, LA, PA, u, t, x, y, d0, ds, rfl, hR, SqL.of hL, hd, bd.1, bd.2, ?_⟩
      refine ⟨_, _, rfl, rfl, dx, _, upd_same, by show 4 < 1000; decide, ?_⟩
      walk_at "go"
      exact q _ (u + 1) (Frm2.setS.trans .setS) hu1 er upd_same (by rw [upd_ne nRP.symm, upd_ne nRP.symm, List.append_nil]; exact hP)
    | @row a c vs ps' ha hc hps =>
      match d, ok, m_follow with
      | 0, ok, _ => unfold okP at ok; exact ok.elim
      | d + 1, ok, m_follow =>
      unfold okP at ok
      have ln := hps.len
      simp only [rn] at r
      walk_at "go"
      refine g_ixT (SqT.of ha) rfl ?_
      walk_at "go"
      refine g_ixT (SqT.of ha) rfl ?_
      walk_at "go"
      refine w_tup (xs := vs) (fun i σ H' => ∃ (v3 v4 v5 v6 : Option V) (u1 : Nat) (np : List Int) (t1 : Int), σ = [some (.ref R), some (.ref a), some (.str "row"), v3, v4, v5, v6] ∧ Frm2 R PA H H' ∧ u1 ≤ ds.length ∧ H' R = some (.ins CR dx (runF LA PA u1 t1)) ∧ H' PA = some (.lst ((ps ++ np).map V.int)) ∧
        ∃ np2, rns (ps'.drop i) (ds.drop u1) t1 = some (np2, ds', t') ∧ np ++ np2 = nq) ?_ ?_ ?_ ?_
      · exact ⟨_, _, _, _, u, [], t, rfl, .refl _ _ _, hu, hR, by rw [List.append_nil]; exact hP, nq, by rw [List.drop_zero]; exact r, rfl⟩
      · rintro i σ H' _ ⟨v3, v4, v5, v6, u1, np, t1, _, f, _⟩
        exact SqT.of (keep2 hR hP f _ _ hc)
      · rintro i v σ H' hv ⟨v3, v4, v5, v6, u1, np, t1, rfl, f, hu1, hR1, hP1, np2, r2, e2⟩
        obtain ⟨q1, hq, pv⟩ := hps.at hv
        rw [drop_at hq, rns] at r2
        obtain ⟨a2, d2, t2, b2, g1, g2, rfl⟩ := seqR_inv r2
        have le2 : (ps ++ np).length + a2.length ≤ 10000000 := by
          rw [← e2, List.length_append, List.length_append] at sz
          rw [List.length_append]
          omega
        walk_at "go"
        refine ⟨_, rfl, R, dx, _, rfl, hR1, lk_follow, ?_⟩
        walk_at "go"
        refine ⟨R, dx, LA, PA, u1, t1, v, q1, _, ds, ps ++ np, a2, d2, t2, rfl, PlA_keep (keep2 hR hP f) _ _ pv, okPs_at ok.2.2 hq, hR1, f _ _ nLR ne hL, ne, hP1, hu1, g1, le2, fun H2 u2 f2 hu2 eu2 hR2 hP2 => ?_⟩
        subst eu2
        walk_at "go"
        exact ⟨_, _, _, _, u2, np ++ a2, t2, rfl, f.trans f2, hu2, hR2, by rw [← List.append_assoc]; exact hP2, b2, g2, by rw [List.append_assoc]; exact e2⟩
      · rintro σ H' ⟨v3, v4, v5, v6, u1, np, t1, rfl, f, hu1, hR1, hP1, np2, r2, e2⟩
        rw [ln, List.drop_length, rns] at r2
        simp only [Option.some.injEq, Prod.mk.injEq] at r2
        obtain ⟨rfl, rfl, rfl⟩ := r2
        rw [List.append_nil] at e2
        subst e2
        walk_at "go"
        exact q _ u1 f hu1 rfl hR1 hP1
    | @either a c vs ps' ha hc hps =>
      match d, ok, m_follow with
      | 0, ok, _ => unfold okP at ok; exact ok.elim
      | d + 1, ok, m_follow =>
      unfold okP at ok
      have ln := hps.len
      cases e : ds.drop u with
      | nil => rw [e] at r; simp only [rn] at r; cases r
      | cons d0 rest =>
      rw [e] at r
      obtain ⟨hd, er, hu1⟩ := drop_cons e
      simp only [rn] at r
      split at r
      case isFalse => cases r
      rename_i d00
      obtain ⟨p, hpp, r⟩ := rnAt_some r
      have hi : d0.toNat < vs.length := by rw [ln]; exact (List.getElem?_eq_some_iff.mp hpp).1
      have hv0 : vs[d0.toNat]? = some vs[d0.toNat] := List.getElem?_eq_getElem hi
      obtain ⟨p', hp', pv⟩ := hps.at hv0
      cases hpp.symm.trans hp'
      walk_at "go"
      refine g_ixT (SqT.of ha) rfl ?_
      walk_at "go"
      refine ⟨_, rfl, R, dx, _, rfl, hR, lk_take, ?_⟩
      walk_at "go"
      refine g_ixT (SqT.of ha) rfl ?_
      walk_at "go"
      refine g_len (.inr (SqT.of hc)) ?_
      walk_at "go"
      refine ⟨R, dx, LA, PA, u, t, 0, _, d0, ds, rfl, hR, SqL.of hL, hd, d00, by omega, ?_⟩
      have f1 : Frm2 R PA H (upd H R (.ins CR dx (runF LA PA (u + 1 : Nat) t))) := .setS
      have k1 := keep2 hR hP f1
      walk_at "go"
      refine ⟨_, rfl, R, dx, _, rfl, upd_same, lk_follow, ?_⟩
      walk_at "go"
      refine g_ixT (SqT.of (k1 _ _ ha)) rfl ?_
      walk_at "go"
      refine g_ixT (v := vs[d0.toNat]) (SqT.of (k1 _ _ hc)) (at_of (j := d0.toNat) (by omega) hv0) ?_
      walk_at "go"
      refine ⟨R, dx, LA, PA, u + 1, t, _, p, _, ds, ps, nq, ds', t', rfl, PlA_keep k1 _ _ pv, okPs_at ok.2.2 hpp, upd_same, f1 _ _ nLR ne hL, ne, by rw [upd_ne nRP.symm]; exact hP, hu1, by rw [← er]; exact r, sz, fun H2 u2 f2 hu2 eu2 hR2 hP2 => ?_⟩
      walk_at "go"
      exact q _ u2 (f1.trans f2) hu2 eu2 hR2 hP2
    | @loop a x y w0 p ha hw =>
      match d, ok, m_follow with
      | 0, ok, _ => unfold okP at ok; exact ok.elim
      | d + 1, ok, m_follow =>
      match l, ok with
      | 0, ok => unfold okP at ok; exact ok.elim
      | l + 1, ok =>
      unfold okP at ok
      cases e : ds.drop u with
      | nil => rw [e] at r; simp only [rn] at r; cases r
      | cons d0 rest =>
      rw [e] at r
      obtain ⟨hd, er, hu1⟩ := drop_cons e
      simp only [rn] at r
      split at r
      case isFalse => cases r
      rename_i bd
      rw [iter_rep] at r
      walk_at "go"
      refine g_ixT (SqT.of ha) rfl ?_
      walk_at "go"
      refine ⟨_, rfl, R, dx, _, rfl, hR, lk_take, ?_⟩
      walk_at "go"
      refine g_ixT (SqT.of ha) rfl ?_
      walk_at "go"
      refine g_ixT (SqT.of ha) rfl ?_
      walk_at "go"
      refine ⟨R, dx, LA, PA, u, t, x, y, d0, ds, rfl, hR, SqL.of hL, hd, bd.1, bd.2, ?_⟩
      have f1 : Frm2 R PA H (upd H R (.ins CR dx (runF LA PA (u + 1 : Nat) t))) := .setS
      walk_at "go"
      refine w_range (by omega) (by omega) (fun i σ H' => ∃ (v3 v4 v6 : Option V) (u1 : Nat) (np : List Int) (t1 : Int), σ = [some (.ref R), some (.ref a), some (.str "loop"), v3, v4, some (.int d0), v6] ∧ Frm2 R PA H H' ∧ u1 ≤ ds.length ∧ H' R = some (.ins CR dx (runF LA PA u1 t1)) ∧ H' PA = some (.lst ((ps ++ np).map V.int)) ∧
        ∃ np2, rns (List.replicate (d0.toNat - i) p) (ds.drop u1) t1 = some (np2, ds', t') ∧ np ++ np2 = nq) ?_ ?_ ?_
      · exact ⟨_, _, _, u + 1, [], t, rfl, f1, hu1, upd_same, by rw [upd_ne nRP.symm, List.append_nil]; exact hP, nq, by rw [Nat.sub_zero, ← er]; exact r, rfl⟩
      · rintro i σ H' hi ⟨v3, v4, v6, u1, np, t1, rfl, f, hu2, hR1, hP1, np2, r2, e2⟩
        have es : d0.toNat - i = (d0.toNat - (i + 1)) + 1 := by omega
        rw [es, List.replicate_succ, rns] at r2
        obtain ⟨a2, d2, t2, b2, g1, g2, rfl⟩ := seqR_inv r2
        have le2 : (ps ++ np).length + a2.length ≤ 10000000 := by
          rw [← e2, List.length_append, List.length_append] at sz
          rw [List.length_append]
          omega
        walk_at "go"
        refine ⟨_, rfl, R, dx, _, rfl, hR1, lk_follow, ?_⟩
        walk_at "go"
        refine g_ixT (SqT.of (keep2 hR hP f _ _ ha)) rfl ?_
        walk_at "go"
        refine ⟨R, dx, LA, PA, u1, t1, _, p, _, ds, ps ++ np, a2, d2, t2, rfl, PlA_keep (keep2 hR hP f) _ _ hw, ok.2.2.2, hR1, f _ _ nLR ne hL, ne, hP1, hu2, g1, le2, fun H2 u3 f2 hu3 eu2 hR2 hP2 => ?_⟩
        subst eu2
        walk_at "go"
        exact ⟨_, _, _, u3, np ++ a2, t2, rfl, f.trans f2, hu3, hR2, by rw [← List.append_assoc]; exact hP2, b2, g2, by rw [List.append_assoc]; exact e2⟩
      · rintro σ H' ⟨v3, v4, v6, u1, np, t1, rfl, f, hu2, hR1, hP1, np2, r2, e2⟩
        rw [Nat.sub_self, List.replicate_zero, rns] at r2
        simp only [Option.some.injEq, Prod.mk.injEq] at r2
        obtain ⟨rfl, rfl, rfl⟩ := r2
        rw [List.append_nil] at e2
        subst e2
        walk_at "go"
        exact q _ u1 f hu2 rfl hR1 hP1
theorem ok_follow (T : TxtP K mg) (TR : TxtR K CR) {f : Addr} {fd : FuncData} (me : Meth K CR "follow" f) (F : C8.Fun K "follow" "Run.follow" s_Run_follow f fd) (b : Binds K fd ["self", "plan"] []) (m_take : C8.Met P w K mg base 2 CR "take" (sp_take K CR) []) : ∀ n : Nat, C8.Met P w K mg base (n + 2) CR "follow" (sp_follow K CR n) []
  | 0 => ⟨f, fd, ["self", "plan"], [], TR.c, me, ⟨fun _ _ _ _ h => h.elim, fun _ _ _ _ _ _ _ _ _ _ _ _ _ h => h.elim⟩, b, .nil⟩
  | n + 1 => follow_step T TR me F b m_take (ok_follow T TR me F b m_take n)
end
end K10
namespace K10
open PySem PySem.Spec PyProof.Rows L2 Wd
section
variable {P : Program} {w : World} {K : PySem.W.Frag} {mg : Str → Option Value} {base : Heap} {CR : Addr}
theorem sc_Run_init : FnScope ["self", "delays"] ["self", "delays"] (C8.fnScope s_Run_init) := C8.fnScope_by (by decide +kernel)
def sp_init (CR : Addr) : Sp := fun vs H Q _ => ∃ (R dx LA : Addr), vs = [.ref R, .ref LA] ∧ H R = some (.ins CR dx []) ∧ ∀ H' PA, Frm R H H' → H PA = none → H' R = some (.ins CR dx (runF LA PA 0 0)) → H' PA = some (.lst []) → Q .non H'
theorem ok_init (T : TxtP K mg) (TR : TxtR K CR) {f : Addr} {fd : FuncData} (M : Mk K CR f) (hm : mg "Run" = some (.ref CR)) (F : C8.Fun K "__init__" "Run.__init__" s_Run_init f fd) (b : Binds K fd ["self", "delays"] []) : C8.Mak P w K mg base 1 "Run" CR (sp_init CR) [] := by
  refine C8.mak0 M hm F b .nil sc_Run_init (fun vs H Q E h => ?_) fun cdv A outer s H vs Q E hr h => ?_
  · obtain ⟨R, dx, LA, rfl, _⟩ := h; rfl
  · obtain ⟨R, dx, LA, rfl, hR, q⟩ := h
    have nd := sc_Run_init.nd
    refine ⟨_, (pss_cons (ps_fld (pv 0) (pv 1) rfl)
      (pss_cons (ps_fld (pv 0) pe_int rfl)
      (pss_cons (ps_fld (pv 0) pe_int rfl)
      (pss_one (ps_fld (pv 0) (pe_lst pa_nil) rfl))))), ?_⟩
    walk_at "go"
    refine ⟨_, rfl, _, rfl, R, CR, dx, _, rfl, hR, TR.c, TR.nD, by decide, ?_⟩
    walk_at "go"
    refine ⟨_, rfl, R, CR, dx, _, rfl, upd_same, TR.c, TR.nU, by show 1 < 1000; decide, ?_⟩
    walk_at "go"
    refine ⟨_, rfl, R, CR, dx, _, rfl, upd_same, TR.c, TR.nN, by show 2 < 1000; decide, ?_⟩
    walk_at "go"
    refine ⟨Nat.zero_le _, fun PA hPA => ⟨_, rfl, R, CR, dx, _, rfl, same_new hPA _ _ upd_same, TR.c, TR.nP, by show 3 < 1000; decide, ?_⟩⟩
    have f3 : Frm R H (upd (upd (upd H R (HO.ins CR dx (putF ("delays" : Str) (V.ref LA) []))) R (HO.ins CR dx (putF ("used" : Str) (V.int 0) (putF ("delays" : Str) (V.ref LA) [])))) R
      (HO.ins CR dx (putF ("now" : Str) (V.int 0) (putF ("used" : Str) (V.int 0) (putF ("delays" : Str) (V.ref LA) []))))) := (Frm.set.trans .set).trans .set
    have nPR : PA ≠ R := fun z => by rw [z, upd_same] at hPA; cases hPA
    walk_at "go"
    exact q _ PA ((f3.trans (.new hPA)).trans .set) (f3.back nPR hPA) upd_same (by rw [upd_ne nPR, upd_same])

end
end K10
namespace K10
open PySem PySem.Spec PyProof.Rows L2 Wd
local macro_rules | `(tactic| walk_at "gs") => `(tactic| repeat (first
  | with_reducible refine Wd.g_seq ?_
  | ((with_reducible show L2.Ends.nx _ _ _); (with_reducible refine Wd.g_nx ?_))
  | with_reducible refine Wd.g_asg ?_
  | ((with_reducible refine' Wd.g_var ?h1 ?_); (case h1 => exact rfl))
  | with_reducible refine Wd.g_c ?_
  | with_reducible refine Wd.g_op ?_
  | with_reducible refine Wd.g_un ?_
  | with_reducible refine Wd.g_I0 ?_
  | with_reducible refine Wd.g_U ?_
  | with_reducible refine Wd.g_eqI ?_
  | with_reducible refine Wd.g_neI ?_
  | with_reducible refine Wd.g_eqS ?_
  | with_reducible refine Wd.g_neS ?_
  | with_reducible refine Wd.g_eqB ?_
  | with_reducible refine Wd.g_neB ?_
  | with_reducible refine Wd.g_isN ?_
  | with_reducible refine Wd.g_notN ?_
  | with_reducible refine Wd.g_lc ?_
  | with_reducible refine Wd.g_yes ?_
  | with_reducible refine Wd.g_test ?_
  | with_reducible refine Wd.g_tB ?_
  | with_reducible refine Wd.g_bl ?_
  | with_reducible refine Wd.g_blI ?_
  | with_reducible refine Wd.g_and ?_
  | with_reducible refine Wd.g_or ?_
  | with_reducible refine Wd.g_not ?_
  | with_reducible refine Wd.g_andV ?_
  | with_reducible refine Wd.g_orV ?_
  | with_reducible refine Wd.g_notV ?_
  | with_reducible refine Wd.g_if ?_
  | with_reducible refine Wd.g_chain ?_
  | with_reducible refine Wd.g_chain3 ?_
  | with_reducible refine Wd.g_nil ?_
  | with_reducible refine Wd.g_cons ?_
  | with_reducible refine Wd.g_tup ?_
  | with_reducible refine Wd.g_lst ?_
  | with_reducible refine Wd.g_CB ?_
  | with_reducible refine Wd.g_call ?_
  | with_reducible refine Wd.g_callS ?_
  | with_reducible refine Wd.g_bm ?_
  | with_reducible refine Wd.g_bm0 ?_
  | with_reducible refine Wd.g_sl ?_
  | with_reducible refine Wd.g_part ?_
  | with_reducible refine Wd.g_part1 ?_
  | with_reducible refine Wd.g_noPart ?_
  | with_reducible refine Wd.g_next ?_
  | with_reducible refine Wd.g_name ?_
  | with_reducible refine Wd.g_sub ?_
  | with_reducible refine Wd.g_gnil ?_
  | with_reducible refine Wd.g_gcons ?_
  | with_reducible refine Wd.g_drop ?_
  | with_reducible refine Wd.g_ret ?_
  | with_reducible refine Wd.g_retN ?_
  | with_reducible refine Wd.g_brk ?_
  | with_reducible refine Wd.g_cont ?_
  | ((with_reducible show L2.Ends.bk _ _ _); (with_reducible refine Wd.g_bk ?_))
  | ((with_reducible show L2.Ends.ct _ _ _); (with_reducible refine Wd.g_ct ?_))
  | ((with_reducible show L2.Ends.rt _ _ _); (with_reducible refine Wd.g_rt ?_))
  | with_reducible refine Wd.g_for ?_
  | with_reducible refine Wd.g_rng1 ?_
  | with_reducible refine Wd.g_rng2 ?_
  | with_reducible refine Wd.g_iList ?_
  | with_reducible refine Wd.g_iTup ?_
  | ((with_reducible refine Wd.g_fit ?h1 ?_); (case h1 => exact rfl))
  | with_reducible refine Wd.g_max2 ?_
  | with_reducible refine Wd.g_min2 ?_
  | with_reducible refine Wd.g_int1B ?_
  | with_reducible refine L2.iteT ?_
  | with_reducible refine L2.iteF ?_
  | ((with_reducible refine Wd.g_itT ?h1 ?_); (case h1 => exact rfl))
  | ((with_reducible refine Wd.g_itF ?h1 ?_); (case h1 => exact rfl))))
theorem bit_eq (z g : Nat) : decide ((((z >>> g) &&& 1 : Nat) : Int) = 1) = z.testBit g := by
  have e : (z >>> g) &&& 1 = (z >>> g) % 2 := Nat.and_one_is_mod _
  have t : z.testBit g = decide ((z >>> g) % 2 = 1) := by
    rw [Nat.testBit, Nat.and_comm, Nat.and_one_is_mod]
    have := Nat.mod_two_eq_zero_or_one (z >>> g)
    rcases this with h | h <;> rw [h] <;> rfl
  rw [e, t]
  exact decide_eq_decide.mpr ⟨fun h => by omega, fun h => by omega⟩
theorem spread_below {z d y b : Nat} (h : Spread z d y) (hb : Below b z) : Below (b + d) y := fun i hi => by
  obtain ⟨k, h1, h2, h3⟩ := (h i).mp hi
  have := hb _ h3
  omega
structure TxtJ (K : PySem.W.Frag) (mg : Str → Option Value) : Prop extends TxtP K mg where
  n_min : mg "min" = none
  n_reversed : mg "reversed" = none
section
variable {P : Program} {w : World} {K : PySem.W.Frag} {mg : Str → Option Value} {base : Heap}
abbrev s_holds : Stmt := top 38
theorem sc_holds : FnScope ["gaps", "gap"] ["gaps", "gap"] (C8.fnScope s_holds) := C8.fnScope_by (by decide +kernel)
def sp_holds : Sp := fun vs H Q _ => ∃ z g : Nat, vs = [.int z, .int g] ∧ Q (.bl (z.testBit g)) H
theorem ok_holds {f : Addr} {fd : FuncData} (D : C8.Def K mg "holds" s_holds f fd) (b : Binds K fd ["gaps", "gap"] []) : C8.Cal P w K mg base 1 "holds" sp_holds [] := by
  refine C8.cal0 D b .nil sc_holds (fun vs H Q E h => ?_) fun cdv A outer s H vs Q E hr h => ?_
  · obtain ⟨z, g, rfl, _⟩ := h; rfl
  · obtain ⟨z, g, rfl, q⟩ := h
    have nd := sc_holds.nd
    refine ⟨_, (pss_one (ps_ret (pe_cmpR op_eq (pe_op (r := rAndB) op_andB (pe_op (r := rShrB) op_shrB (pv 0) (pv 1)) pe_int) pe_int (nomark _)))), ?_⟩
    walk_at "go"
    refine ⟨z, g, rfl, rfl, ?_⟩
    walk_at "go"
    refine ⟨z >>> g, 1, rfl, rfl, ?_⟩
    walk_at "go"
    rw [bit_eq]
    exact q
abbrev s_spread : Stmt := top 39
theorem sc_spread : FnScope ["gaps", "most", "done", "step"] ["gaps", "most"] (C8.fnScope s_spread) := C8.fnScope_by (by decide +kernel)
def sp_spread : Sp := fun vs H Q _ => ∃ z m b : Nat, vs = [.int z, .int m] ∧ Below b z ∧ b ≤ 5000 ∧ m ≤ 2000 ∧ ∀ s, Spread z m s → Below (b + m) s → Q (.int (s : Nat)) H
theorem ok_spread (T : TxtJ K mg) {f : Addr} {fd : FuncData} (D : C8.Def K mg "spread" s_spread f fd) (b : Binds K fd ["gaps", "most"] []) : C8.Cal P w K mg base 1 "spread" sp_spread [] := by
  refine C8.cal0 D b .nil sc_spread (fun vs H Q E h => ?_) fun cdv A outer s H vs Q E hr h => ?_
  · obtain ⟨z, m, b, rfl, _⟩ := h; rfl
  · obtain ⟨z, m, b, rfl, hb, b5, m2, q⟩ := h
    have nd := sc_spread.nd
    refine ⟨_, (pss_cons (ps_set (i := 2) nd rfl (Or.inl rfl) pe_int)
      (pss_cons (ps_while PassesOwn.never (pt_cmpR op_lt (pv 2) (pv 1) (nomark _)) (pss_cons (ps_set (i := 3) nd rfl (Or.inl rfl) (pe_callB (call_min1 rfl) (by rfl) T.n_min (by decide +kernel) (pa_cons (pe_op op_add (pv 2) pe_int) (pa_cons (pe_op op_sub (pv 1) (pv 2)) pa_nil))))
      (pss_cons (ps_set (i := 0) nd rfl (Or.inl rfl) (pe_op (r := rOrB) op_orB (pv 0) (pe_op (r := rShlB) op_shlB (pv 0) (pv 3))))
      (pss_one (ps_aug (i := 2) nd rfl (Or.inl rfl) (pv 3) ip_add)))))
      (pss_one (ps_ret (pv 0))))), ?_⟩
    walk_at "go"
    refine w_loop (fun k σ H' => ∃ (y d : Nat) (v3 : Option V), σ = [some (.int (y : Nat)), some (.int (m : Nat)), some (.int (d : Nat)), v3] ∧ H' = H ∧ Spread z d y ∧ d ≤ m ∧ k = m - d) m ?_ ?_
    · exact ⟨z, 0, _, rfl, rfl, spread_zero z, Nat.zero_le _, rfl⟩
    · rintro k σ H' ⟨y, d, v3, rfl, rfl, sp, dm, rfl⟩
      have yb := spread_below sp hb
      walk_at "go"
      by_cases c : d < m
      · rw [if_pos (decide_eq_true (by omega))]
        refine ⟨fun σ' H'' => ∃ (y' d' : Nat) (v3 : Option V), σ' = [some (.int (y' : Nat)), some (.int (m : Nat)), some (.int (d' : Nat)), v3] ∧ H'' = H' ∧ Spread z d' y' ∧ d' ≤ m ∧ d < d', fun σ' H'' ⟨y', d', v, e, h1, h2, h3, h4⟩ => ⟨m - d', by omega, y', d', v, e, h1, h2, h3, rfl⟩, ?_⟩
        walk_at "go"
        obtain ⟨st, est, s1, s2, s3⟩ : ∃ st : Nat, (if (m : Int) - d < d + 1 then (m : Int) - d else d + 1) = (st : Int) ∧ 1 ≤ st ∧ st ≤ d + 1 ∧ d + st ≤ m := by
          by_cases c2 : (m : Int) - d < d + 1
          · exact ⟨m - d, by rw [if_pos c2]; omega, by omega, by omega, by omega⟩
          · exact ⟨d + 1, by rw [if_neg c2]; omega, by omega, by omega, by omega⟩
        rw [est]
        walk_at "go"
        refine ⟨y, st, rfl, rfl, Nat.lt_of_lt_of_le (below_lt yb) (Nat.pow_le_pow_right (by decide) (by omega)), by omega, ?_⟩
        refine ⟨y, y <<< st, rfl, rfl, ?_⟩
        walk_at "go"
        refine ⟨_, rfl, _, rfl, ⟨_, _, rfl, rfl, ?_⟩⟩
        exact ⟨y ||| (y <<< st), d + st, _, rfl, rfl, spread_step sp s2, s3, by omega⟩
      · rw [if_neg (by rw [decide_eq_false (by omega)]; exact Bool.false_ne_true)]
        have e : d = m := by omega
        subst e
        walk_at "go"
        exact q y sp yb
end
end K10
namespace K10
open PySem PySem.Spec PyProof.Rows L2 Wd
theorem g_sfld {K : PySem.W.Frag} {to te : TE} {y : Str} {D : Ends} {σ : L2.St} {H : Hp} (h : te σ H fun x H1 => to σ H1 fun o H2 => ∃ R C dx fs, o = .ref R ∧ H2 R = some (.ins C dx fs) ∧ Cls K C ∧ NoAttr K C y ∧ fs.length < 1000 ∧ D.nx σ (upd H2 R (.ins C dx (putF y x fs)))) : sFld K to te y D σ H := h
theorem g_fldV {K : PySem.W.Frag} {i : Nat} {f : Str} {R C dx : Addr} {fs : List (Str × V)} {v : V} {σ : L2.St} {H : Hp} {Q : VK} (hs : σ[i]? = some (some (.ref R))) (hR : H R = some (.ins C dx fs)) (c : Cls K C) (n : NoAttr K C f) (l : fs.lookup f = some v) (q : Q v H) : tFld K (tVar i) f σ H Q :=
  ⟨_, hs, R, C, dx, fs, v, rfl, hR, c, n, l, q⟩
theorem one_lt_big : (1 : Nat) < 2 ^ 100000 := Nat.one_lt_two_pow (by decide)
theorem sub_nat {a b : Nat} (h : b ≤ a) : ((a : Nat) : Int) - ((b : Nat) : Int) = ((a - b : Nat) : Int) := (Int.ofNat_sub h).symm
structure TxtWt (K : PySem.W.Frag) (CWt : Addr) : Prop where
  c : Cls K CWt
  nL : NoAttr K CWt "low"
  nH : NoAttr K CWt "high"
  nB : NoAttr K CWt "bitten"
  nI : NoAttr K CWt "bite"
  nS : NoAttr K CWt "too_soon"
  nT : NoAttr K CWt "timely"
section
variable {P : Program} {w : World} {K : PySem.W.Frag} {mg : Str → Option Value} {base : Heap} {CWt : Addr}
abbrev watF (lo hi : Nat) : List (Str × V) := [("low", .int (lo : Nat)), ("high", .int (hi : Nat)), ("bitten", .int ((hi + 1 : Nat) : Int)), ("bite", .int ((2 ^ (hi + 1) : Nat) : Int)), ("too_soon", .int ((2 ^ lo - 1 : Nat) : Int)), ("timely", .int ((2 ^ (hi + 1) - 2 ^ lo : Nat) : Int))]
abbrev s_Watcher_init : Stmt := (C8.clsBody (top 40)).getD 0 (.Pass ⟨0, 0, 0, 0⟩)
abbrev s_Watcher_gap_behind_pat : Stmt := (C8.clsBody (top 40)).getD 1 (.Pass ⟨0, 0, 0, 0⟩)
abbrev s_Watcher_gap_behind_work : Stmt := (C8.clsBody (top 40)).getD 2 (.Pass ⟨0, 0, 0, 0⟩)
abbrev s_Watcher_gaps_ahead_of_pat : Stmt := (C8.clsBody (top 40)).getD 3 (.Pass ⟨0, 0, 0, 0⟩)
abbrev s_Watcher_gaps_ahead_of_work : Stmt := (C8.clsBody (top 40)).getD 4 (.Pass ⟨0, 0, 0, 0⟩)
theorem sc_Watcher_init : FnScope ["self", "window"] ["self", "window"] (C8.fnScope s_Watcher_init) := C8.fnScope_by (by decide +kernel)
def sp_winit (K : PySem.W.Frag) (CWt : Addr) : Sp := fun vs H Q _ => ∃ (R dx W : Addr) (lo hi : Nat), vs = [.ref R, .ref W] ∧ H R = some (.ins CWt dx []) ∧ SqT K H W [.int (lo : Nat), .int (hi : Nat)] ∧ lo ≤ hi ∧ hi ≤ 1000 ∧ ∀ H', Frm R H H' → H' R = some (.ins CWt dx (watF lo hi)) → Q .non H'
theorem ok_winit (T : TxtWt K CWt) {f : Addr} {fd : FuncData} (M : Mk K CWt f) (hm : mg "Watcher" = some (.ref CWt)) (F : C8.Fun K "__init__" "Watcher.__init__" s_Watcher_init f fd) (b : Binds K fd ["self", "window"] []) : C8.Mak P w K mg base 1 "Watcher" CWt (sp_winit K CWt) [] := by
  refine C8.mak0 M hm F b .nil sc_Watcher_init (fun vs H Q E h => ?_) fun cdv A outer s H vs Q E hr h => ?_
  · obtain ⟨R, dx, W, lo, hi, rfl, _⟩ := h; rfl
  · obtain ⟨R, dx, W, lo, hi, rfl, hR, hW, h1, h2, q⟩ := h
    have nd := sc_Watcher_init.nd
    refine ⟨_, (pss_cons (ps_asg (pv 1) (pg_tup rfl (pgs_cons (pg_att (pv 0)) (pgs_cons (pg_att (pv 0)) pgs_nil))))
      (pss_cons (ps_fld (pv 0) (pe_op op_add (pe_fld (pv 0) rfl) pe_int) rfl)
      (pss_cons (ps_fld (pv 0) (pe_op (r := rShlB) op_shlB pe_int (pe_fld (pv 0) rfl)) rfl)
      (pss_cons (ps_fld (pv 0) (pe_op op_sub (pe_op (r := rShlB) op_shlB pe_int (pe_fld (pv 0) rfl)) pe_int) rfl)
      (pss_one (ps_fld (pv 0) (pe_op op_sub (pe_fld (pv 0) rfl) (pe_op (r := rShlB) op_shlB pe_int (pe_fld (pv 0) rfl))) rfl)))))), ?_⟩
    walk_at "go"
    refine g_gtup hW rfl ?_
    walk_at "go"
    refine ⟨_, rfl, R, CWt, dx, _, rfl, hR, T.c, T.nL, by decide, ?_⟩
    walk_at "go"
    refine ⟨_, rfl, R, CWt, dx, _, rfl, upd_same, T.c, T.nH, by show 1 < 1000; decide, ?_⟩
    walk_at "go"
    refine g_sfld ?_
    walk_at "go"
    refine ⟨_, rfl, R, CWt, dx, _, _, rfl, upd_same, T.c, T.nH, rfl, ?_⟩
    walk_at "go"
    refine ⟨R, CWt, dx, _, rfl, upd_same, T.c, T.nB, by show 2 < 1000; decide, ?_⟩
    walk_at "go"
    refine g_sfld ?_
    walk_at "go"
    refine ⟨_, rfl, R, CWt, dx, _, _, rfl, upd_same, T.c, T.nB, rfl, ?_⟩
    refine ⟨1, hi + 1, rfl, rfl, one_lt_big, by omega, ?_⟩
    rw [Nat.one_shiftLeft]
    walk_at "go"
    refine ⟨R, CWt, dx, _, rfl, upd_same, T.c, T.nI, by show 3 < 1000; decide, ?_⟩
    walk_at "go"
    refine g_sfld ?_
    walk_at "go"
    refine ⟨_, rfl, R, CWt, dx, _, _, rfl, upd_same, T.c, T.nL, rfl, ?_⟩
    refine ⟨1, lo, rfl, rfl, one_lt_big, by omega, ?_⟩
    rw [Nat.one_shiftLeft]
    walk_at "go"
    rw [show (1 : Int) = ((1 : Nat) : Int) from rfl, sub_nat (Nat.one_le_two_pow (n := lo))]
    refine ⟨R, CWt, dx, _, rfl, upd_same, T.c, T.nS, by show 4 < 1000; decide, ?_⟩
    walk_at "go"
    refine g_sfld ?_
    walk_at "go"
    refine ⟨_, rfl, R, CWt, dx, _, _, rfl, upd_same, T.c, T.nI, rfl, ?_⟩
    walk_at "go"
    refine ⟨_, rfl, R, CWt, dx, _, _, rfl, upd_same, T.c, T.nL, rfl, ?_⟩
    refine ⟨1, lo, rfl, rfl, one_lt_big, by omega, ?_⟩
    rw [Nat.one_shiftLeft]
    walk_at "go"
    rw [sub_nat (Nat.pow_le_pow_right (by decide) (by omega) : 2 ^ lo ≤ 2 ^ (hi + 1))]
    refine ⟨R, CWt, dx, _, rfl, upd_same, T.c, T.nT, by show 5 < 1000; decide, ?_⟩
    exact q _ (((((Frm.set.trans .set).trans .set).trans .set).trans .set).trans .set) upd_same
theorem sc_gap_behind_pat : FnScope ["self", "gap"] ["self", "gap"] (C8.fnScope s_Watcher_gap_behind_pat) := C8.fnScope_by (by decide +kernel)
/-- a watcher -/
def IsWt (H : Hp) (CWt R : Addr) (lo hi : Nat) : Prop := ∃ dx, H R = some (.ins CWt dx (watF lo hi))
def sp_gbp (CWt : Addr) : Sp := fun vs H Q _ => ∃ (R : Addr) (lo hi g : Nat), vs = [.ref R, .int (g : Nat)] ∧ IsWt H CWt R lo hi ∧ Q (.int ((gP lo hi g : Nat) : Int)) H
theorem ok_gbp (T : TxtWt K CWt) {f : Addr} {fd : FuncData} (me : Meth K CWt "gap_behind_pat" f) (F : C8.Fun K "gap_behind_pat" "Watcher.gap_behind_pat" s_Watcher_gap_behind_pat f fd) (b : Binds K fd ["self", "gap"] []) : C8.Met P w K mg base 1 CWt "gap_behind_pat" (sp_gbp CWt) [] := by
  refine C8.met0 T.c me F b sc_gap_behind_pat (fun vs H Q E h => ?_) fun cdv A outer s H vs Q E hr h => ?_
  · obtain ⟨R, lo, hi, g, rfl, _⟩ := h; rfl
  · obtain ⟨R, lo, hi, g, rfl, ⟨dx, hR⟩, q⟩ := h
    have nd := sc_gap_behind_pat.nd
    refine ⟨_, (pss_cons (ps_if (pt_chain op_le op_le (pe_fld (pv 0) rfl) (pv 1) (pe_fld (pv 0) rfl)) (pss_one (ps_ret pe_int)) pss_nil)
      (pss_one (ps_ret (pe_fld (pv 0) rfl)))), ?_⟩
    walk_at "go"
    refine g_fldV rfl hR T.c T.nL rfl ?_
    walk_at "go"
    unfold gP at q
    refine g_ite (fun h1 => ?_) (fun h1 => ?_)
    · have c1 : lo ≤ g := by have : (lo : Int) ≤ (g : Int) := h1; omega
      refine g_fldV rfl hR T.c T.nH rfl ?_
      walk_at "go"
      by_cases c2 : g ≤ hi
      · rw [if_pos ⟨c1, c2⟩] at q
        refine g_ite (fun _ => ?_) (fun z => absurd (show (g : Int) ≤ (hi : Int) by omega) z)
        walk_at "go"
        exact q
      · rw [if_neg (fun z => c2 z.2)] at q
        refine g_ite (fun z => absurd (show (g : Int) ≤ (hi : Int) from z) (by omega)) (fun _ => ?_)
        walk_at "go"
        refine g_fldV rfl hR T.c T.nB rfl ?_
        exact q
    · rw [if_neg (fun z => h1 (show (lo : Int) ≤ (g : Int) by have := z.1; omega))] at q
      walk_at "go"
      refine g_fldV rfl hR T.c T.nB rfl ?_
      exact q
theorem sc_gap_behind_work : FnScope ["self", "gap", "delay"] ["self", "gap", "delay"] (C8.fnScope s_Watcher_gap_behind_work) := C8.fnScope_by (by decide +kernel)
def sp_gbw (CWt : Addr) : Sp := fun vs H Q _ => ∃ (R : Addr) (lo hi g d : Nat), vs = [.ref R, .int (g : Nat), .int (d : Nat)] ∧ IsWt H CWt R lo hi ∧ Q (.int ((gW hi g d : Nat) : Int)) H
theorem ok_gbw (TW : TxtWt K CWt) (T : TxtJ K mg) {f : Addr} {fd : FuncData} (me : Meth K CWt "gap_behind_work" f) (F : C8.Fun K "gap_behind_work" "Watcher.gap_behind_work" s_Watcher_gap_behind_work f fd) (b : Binds K fd ["self", "gap", "delay"] []) : C8.Met P w K mg base 1 CWt "gap_behind_work" (sp_gbw CWt) [] := by
  refine C8.met0 TW.c me F b sc_gap_behind_work (fun vs H Q E h => ?_) fun cdv A outer s H vs Q E hr h => ?_
  · obtain ⟨R, lo, hi, g, d, rfl, _⟩ := h; rfl
  · obtain ⟨R, lo, hi, g, d, rfl, ⟨dx, hR⟩, q⟩ := h
    have nd := sc_gap_behind_work.nd
    refine ⟨_, (pss_one (ps_ret (pe_callB (call_min1 rfl) (by rfl) T.n_min (by decide +kernel) (pa_cons (pe_op op_add (pv 1) (pv 2)) (pa_cons (pe_fld (pv 0) rfl) pa_nil))))), ?_⟩
    walk_at "go"
    refine g_fldV rfl hR TW.c TW.nB rfl ?_
    walk_at "go"
    have e : (if ((hi + 1 : Nat) : Int) < (g : Int) + (d : Int) then ((hi + 1 : Nat) : Int) else (g : Int) + (d : Int)) = ((gW hi g d : Nat) : Int) := by
      unfold gW
      split <;> omega
    rw [e]
    exact q
end
end K10
namespace K10
open PySem PySem.Spec PyProof.Rows L2 Wd
local macro_rules | `(tactic| walk_at "gs") => `(tactic| repeat (first
  | with_reducible refine Wd.g_seq ?_
  | ((with_reducible show L2.Ends.nx _ _ _); (with_reducible refine Wd.g_nx ?_))
  | with_reducible refine Wd.g_asg ?_
  | ((with_reducible refine' Wd.g_var ?h1 ?_); (case h1 => exact rfl))
  | with_reducible refine Wd.g_c ?_
  | with_reducible refine Wd.g_op ?_
  | with_reducible refine Wd.g_un ?_
  | with_reducible refine Wd.g_I0 ?_
  | with_reducible refine Wd.g_U ?_
  | with_reducible refine Wd.g_eqI ?_
  | with_reducible refine Wd.g_neI ?_
  | with_reducible refine Wd.g_eqS ?_
  | with_reducible refine Wd.g_neS ?_
  | with_reducible refine Wd.g_eqB ?_
  | with_reducible refine Wd.g_neB ?_
  | with_reducible refine Wd.g_isN ?_
  | with_reducible refine Wd.g_notN ?_
  | with_reducible refine Wd.g_lc ?_
  | with_reducible refine Wd.g_yes ?_
  | with_reducible refine Wd.g_test ?_
  | with_reducible refine Wd.g_tB ?_
  | with_reducible refine Wd.g_bl ?_
  | with_reducible refine Wd.g_blI ?_
  | with_reducible refine Wd.g_and ?_
  | with_reducible refine Wd.g_or ?_
  | with_reducible refine Wd.g_not ?_
  | with_reducible refine Wd.g_andV ?_
  | with_reducible refine Wd.g_orV ?_
  | with_reducible refine Wd.g_notV ?_
  | with_reducible refine Wd.g_if ?_
  | with_reducible refine Wd.g_chain ?_
  | with_reducible refine Wd.g_chain3 ?_
  | with_reducible refine Wd.g_nil ?_
  | with_reducible refine Wd.g_cons ?_
  | with_reducible refine Wd.g_tup ?_
  | with_reducible refine Wd.g_lst ?_
  | with_reducible refine Wd.g_CB ?_
  | with_reducible refine Wd.g_call ?_
  | with_reducible refine Wd.g_callS ?_
  | with_reducible refine Wd.g_bm ?_
  | with_reducible refine Wd.g_bm0 ?_
  | with_reducible refine Wd.g_sl ?_
  | with_reducible refine Wd.g_part ?_
  | with_reducible refine Wd.g_part1 ?_
  | with_reducible refine Wd.g_noPart ?_
  | with_reducible refine Wd.g_next ?_
  | with_reducible refine Wd.g_name ?_
  | with_reducible refine Wd.g_sub ?_
  | with_reducible refine Wd.g_gnil ?_
  | with_reducible refine Wd.g_gcons ?_
  | with_reducible refine Wd.g_drop ?_
  | with_reducible refine Wd.g_ret ?_
  | with_reducible refine Wd.g_retN ?_
  | with_reducible refine Wd.g_brk ?_
  | with_reducible refine Wd.g_cont ?_
  | ((with_reducible show L2.Ends.bk _ _ _); (with_reducible refine Wd.g_bk ?_))
  | ((with_reducible show L2.Ends.ct _ _ _); (with_reducible refine Wd.g_ct ?_))
  | ((with_reducible show L2.Ends.rt _ _ _); (with_reducible refine Wd.g_rt ?_))
  | with_reducible refine Wd.g_for ?_
  | with_reducible refine Wd.g_rng1 ?_
  | with_reducible refine Wd.g_rng2 ?_
  | with_reducible refine Wd.g_iList ?_
  | with_reducible refine Wd.g_iTup ?_
  | ((with_reducible refine Wd.g_fit ?h1 ?_); (case h1 => exact rfl))
  | with_reducible refine Wd.g_max2 ?_
  | with_reducible refine Wd.g_min2 ?_
  | with_reducible refine Wd.g_int1B ?_
  | with_reducible refine L2.iteT ?_
  | with_reducible refine L2.iteF ?_
  | ((with_reducible refine Wd.g_itT ?h1 ?_); (case h1 => exact rfl))
  | ((with_reducible refine Wd.g_itF ?h1 ?_); (case h1 => exact rfl))))
theorem g_join {t : TT} {a b : TS} {σ : L2.St} {H : Hp} {N : L2.St → Hp → Prop} {rt : VK} {bk ct : L2.St → Hp → Prop} (P : L2.St → Hp → Prop) (key : ∀ σ H, P σ H → N σ H) (h : ∀ N' : L2.St → Hp → Prop, (∀ σ H, P σ H → N' σ H) → tIfS t a b ⟨N', rt, bk, ct⟩ σ H) : tIfS t a b ⟨N, rt, bk, ct⟩ σ H := h N key
theorem spread_ex (z : Nat) : ∀ m : Nat, ∃ s, Spread z m s
  | 0 => ⟨z, spread_zero z⟩
  | m + 1 => (spread_ex z m).elim fun s h => ⟨_, spread_step h (Nat.le_add_left 1 m)⟩
theorem below_bite (hi : Nat) : Below (hi + 2) (2 ^ (hi + 1)) := fun i h => by
  rw [tb_one, decide_eq_true_eq] at h; omega
theorem mask_bit {lo hi i : Nat} (h : lo ≤ hi) : (((2 ^ (hi + 1) - 2 ^ lo) ||| (2 ^ lo - 1)) ||| 2 ^ (hi + 1)).testBit i = decide (i ≤ hi + 1) := by
  rw [tb_or, tb_or, tb_timely (by omega), tb_low, tb_one, ← Bool.decide_or, ← Bool.decide_or]
  exact decide_eq_decide.mpr ⟨fun z => by omega, fun z => by omega⟩
section
variable {P : Program} {w : World} {K : PySem.W.Frag} {mg : Str → Option Value} {base : Heap} {CWt : Addr}
theorem sc_gap_pat : FnScope ["self", "goal", "gaps"] ["self", "goal"] (C8.fnScope s_Watcher_gaps_ahead_of_pat) := C8.fnScope_by (by decide +kernel)
def sp_gap (CWt : Addr) : Sp := fun vs H Q _ => ∃ (R : Addr) (lo hi z : Nat), vs = [.ref R, .int (z : Nat)] ∧ IsWt H CWt R lo hi ∧ Q (.int ((preP lo hi z : Nat) : Int)) H
theorem ok_gap (TW : TxtWt K CWt) {f : Addr} {fd : FuncData} (me : Meth K CWt "gaps_ahead_of_pat" f) (F : C8.Fun K "gaps_ahead_of_pat" "Watcher.gaps_ahead_of_pat" s_Watcher_gaps_ahead_of_pat f fd) (b : Binds K fd ["self", "goal"] []) (g_holds : C8.Cal P w K mg base 1 "holds" sp_holds []) : C8.Met P w K mg base 2 CWt "gaps_ahead_of_pat" (sp_gap CWt) [] := by
  refine C8.met0 TW.c me F b sc_gap_pat (fun vs H Q E h => ?_) fun cdv A outer s H vs Q E hr h => ?_
  · obtain ⟨R, lo, hi, z, rfl, _⟩ := h; rfl
  · obtain ⟨R, lo, hi, z, rfl, ⟨dx, hR⟩, q⟩ := h
    have nd := sc_gap_pat.nd
    refine ⟨_, (pss_cons (ps_set (i := 2) nd rfl (Or.inl rfl) pe_int)
      (pss_cons (ps_if (pt_val (C8.pe_c g_holds hr (by first | decide | exact Nat.le_refl _ | omega) (by rfl) (pa_cons (pv 1) (pa_cons pe_int pa_nil)))) (pss_one (ps_set (i := 2) nd rfl (Or.inl rfl) (pe_op (r := rOrB) op_orB (pv 2) (pe_fld (pv 0) rfl)))) pss_nil)
      (pss_cons (ps_if (pt_val (C8.pe_c g_holds hr (by first | decide | exact Nat.le_refl _ | omega) (by rfl) (pa_cons (pv 1) (pa_cons (pe_fld (pv 0) rfl) pa_nil)))) (pss_one (ps_set (i := 2) nd rfl (Or.inl rfl) (pe_op (r := rOrB) op_orB (pe_op (r := rOrB) op_orB (pv 2) (pe_fld (pv 0) rfl)) (pe_fld (pv 0) rfl)))) pss_nil)
      (pss_one (ps_ret (pv 2)))))), ?_⟩
    walk_at "gs"
    refine g_join (fun σ H' => ∃ y : Nat, σ = [some (.ref R), some (.int (z : Nat)), some (.int (y : Nat))] ∧ H' = H ∧ y = if z.testBit 0 = true then 2 ^ (hi + 1) - 2 ^ lo else 0) ?_ ?_
    case refine_2 =>
      intro N' hk
      walk_at "go"
      refine ⟨z, 0, rfl, ?_⟩
      walk_at "go"
      by_cases c : z.testBit 0 = true
      · rw [if_pos c]
        walk_at "go"
        refine g_fldV rfl hR TW.c TW.nT rfl ?_
        refine ⟨0, 2 ^ (hi + 1) - 2 ^ lo, rfl, rfl, ?_⟩
        walk_at "go"
        exact hk _ _ ⟨_, rfl, rfl, by rw [if_pos c, Nat.zero_or]⟩
      · rw [if_neg c]
        exact hk _ _ ⟨0, rfl, rfl, by rw [if_neg c]⟩
    case refine_1 =>
      rintro σ H' ⟨y, rfl, rfl, ey⟩
      walk_at "go"
      refine g_fldV rfl hR TW.c TW.nB rfl ?_
      walk_at "go"
      refine ⟨z, hi + 1, rfl, ?_⟩
      walk_at "go"
      unfold preP at q
      rw [← ey] at q
      by_cases c : z.testBit (hi + 1) = true
      · rw [if_pos c] at q ⊢
        walk_at "go"
        refine g_fldV rfl hR TW.c TW.nS rfl ?_
        refine ⟨y, 2 ^ lo - 1, rfl, rfl, ?_⟩
        walk_at "go"
        refine g_fldV rfl hR TW.c TW.nI rfl ?_
        refine ⟨y ||| (2 ^ lo - 1), 2 ^ (hi + 1), rfl, rfl, ?_⟩
        walk_at "go"
        rw [Nat.or_assoc]
        exact q
      · rw [if_neg c] at q ⊢
        walk_at "go"
        rw [Nat.or_zero] at q
        exact q
theorem sc_gap_work : FnScope ["self", "goal", "least", "most", "gaps"] ["self", "goal", "least", "most"] (C8.fnScope s_Watcher_gaps_ahead_of_work) := C8.fnScope_by (by decide +kernel)
def sp_gaw (CWt : Addr) : Sp := fun vs H Q _ => ∃ (R : Addr) (lo hi z least most : Nat), vs = [.ref R, .int (z : Nat), .int (least : Nat), .int (most : Nat)] ∧ IsWt H CWt R lo hi ∧ lo ≤ hi ∧ hi ≤ 1000 ∧ Below (hi + 2) z ∧ least ≤ most ∧ most ≤ 1000 ∧
  ∀ g, Bits hi (Led lo hi (.work least most)) z g → Q (.int (g : Nat)) H
theorem ok_gaw (TW : TxtWt K CWt) {f : Addr} {fd : FuncData} (me : Meth K CWt "gaps_ahead_of_work" f) (F : C8.Fun K "gaps_ahead_of_work" "Watcher.gaps_ahead_of_work" s_Watcher_gaps_ahead_of_work f fd) (b : Binds K fd ["self", "goal", "least", "most"] []) (g_holds : C8.Cal P w K mg base 1 "holds" sp_holds []) (g_spread : C8.Cal P w K mg base 1 "spread" sp_spread []) : C8.Met P w K mg base 2 CWt "gaps_ahead_of_work" (sp_gaw CWt) [] := by
  refine C8.met0 TW.c me F b sc_gap_work (fun vs H Q E h => ?_) fun cdv A outer s H vs Q E hr h => ?_
  · obtain ⟨R, lo, hi, z, least, most, rfl, _⟩ := h; rfl
  · obtain ⟨R, lo, hi, z, least, most, rfl, ⟨dx, hR⟩, l1, l2, hb, l3, l4, q⟩ := h
    have nd := sc_gap_work.nd
    refine ⟨_, (pss_cons (ps_if (pt_val (C8.pe_c g_holds hr (by first | decide | exact Nat.le_refl _ | omega) (by rfl) (pa_cons (pv 1) (pa_cons (pe_fld (pv 0) rfl) pa_nil)))) (pss_one (ps_set (i := 1) nd rfl (Or.inl rfl) (pe_op (r := rOrB) op_orB (pv 1) (C8.pe_c g_spread hr (by first | decide | exact Nat.le_refl _ | omega) (by rfl) (pa_cons (pe_fld (pv 0) rfl) (pa_cons (pv 3) pa_nil)))))) pss_nil)
      (pss_cons (ps_set (i := 4) nd rfl (Or.inl rfl) (pe_op (r := rShrB) op_shrB (C8.pe_c g_spread hr (by first | decide | exact Nat.le_refl _ | omega) (by rfl) (pa_cons (pv 1) (pa_cons (pe_op op_sub (pv 3) (pv 2)) pa_nil))) (pv 3)))
      (pss_one (ps_ret (pe_op (r := rAndB) op_andB (pv 4) (pe_op (r := rOrB) op_orB (pe_op (r := rOrB) op_orB (pe_fld (pv 0) rfl) (pe_fld (pv 0) rfl)) (pe_fld (pv 0) rfl))))))), ?_⟩
    walk_at "gs"
    refine g_join (fun σ H' => ∃ (z2 s1 : Nat) (v4 : Option V), σ = [some (.ref R), some (.int (z2 : Nat)), some (.int (least : Nat)), some (.int (most : Nat)), v4] ∧ H' = H ∧ Spread (2 ^ (hi + 1)) most s1 ∧ z2 = (if z.testBit (hi + 1) = true then z ||| s1 else z) ∧ Below (hi + 2 + most) z2) ?_ ?_
    case refine_2 =>
      intro N' hk
      walk_at "go"
      refine g_fldV rfl hR TW.c TW.nB rfl ?_
      walk_at "go"
      refine ⟨z, hi + 1, rfl, ?_⟩
      walk_at "go"
      by_cases c : z.testBit (hi + 1) = true
      · rw [if_pos c]
        walk_at "go"
        refine g_fldV rfl hR TW.c TW.nI rfl ?_
        walk_at "go"
        refine ⟨2 ^ (hi + 1), most, hi + 2, rfl, below_bite hi, by omega, by omega, fun s sp sb => ?_⟩
        refine ⟨z, s, rfl, rfl, ?_⟩
        walk_at "go"
        refine hk _ _ ⟨z ||| s, s, _, rfl, rfl, sp, by rw [if_pos c], fun i hi' => ?_⟩
        rw [tb_or, Bool.or_eq_true] at hi'
        rcases hi' with h | h
        · have := hb i h; omega
        · exact sb i h
      · rw [if_neg c]
        obtain ⟨s, sp⟩ := spread_ex (2 ^ (hi + 1)) most
        exact hk _ _ ⟨z, s, _, rfl, rfl, sp, by rw [if_neg c], fun i h => by have := hb i h; omega⟩
    case refine_1 =>
      rintro σ H' ⟨z2, s1, v4, rfl, rfl, sp1, ez, bz⟩
      walk_at "go"
      rw [sub_nat l3]
      refine ⟨z2, most - least, hi + 2 + most, rfl, bz, by omega, by omega, fun s2 sp2 sb2 => ?_⟩
      walk_at "go"
      refine ⟨s2, most, rfl, rfl, ?_⟩
      walk_at "go"
      refine g_fldV rfl hR TW.c TW.nT rfl ?_
      walk_at "go"
      refine g_fldV rfl hR TW.c TW.nS rfl ?_
      refine ⟨2 ^ (hi + 1) - 2 ^ lo, 2 ^ lo - 1, rfl, rfl, ?_⟩
      walk_at "go"
      refine g_fldV rfl hR TW.c TW.nI rfl ?_
      refine ⟨_, 2 ^ (hi + 1), rfl, rfl, ?_⟩
      refine ⟨s2 >>> most, _, rfl, rfl, ?_⟩
      refine q _ ⟨fun i h => ?_, fun i hi' => ?_⟩
      · rw [tb_and, Bool.and_eq_true, mask_bit l1, decide_eq_true_eq] at h
        omega
      · rw [tb_and, Bool.and_eq_true, mask_bit l1, decide_eq_true_eq]
        unfold Led
        rw [preW_bit hb l3 sp1 ez sp2 hi']
        exact ⟨fun ⟨⟨d, a1, a2, a3⟩, _⟩ => ⟨d, by omega, by omega, a3⟩, fun ⟨d, a1, a2, a3⟩ => ⟨⟨d, by omega, by omega, a3⟩, hi'⟩⟩
end
end K10
namespace K10
open PySem PySem.Spec PyProof.Rows L2 Wd
local macro_rules | `(tactic| walk_at "gs") => `(tactic| repeat (first
  | with_reducible refine Wd.g_seq ?_
  | ((with_reducible show L2.Ends.nx _ _ _); (with_reducible refine Wd.g_nx ?_))
  | with_reducible refine Wd.g_asg ?_
  | ((with_reducible refine' Wd.g_var ?h1 ?_); (case h1 => exact rfl))
  | with_reducible refine Wd.g_c ?_
  | with_reducible refine Wd.g_op ?_
  | with_reducible refine Wd.g_un ?_
  | with_reducible refine Wd.g_I0 ?_
  | with_reducible refine Wd.g_U ?_
  | with_reducible refine Wd.g_eqI ?_
  | with_reducible refine Wd.g_neI ?_
  | with_reducible refine Wd.g_eqS ?_
  | with_reducible refine Wd.g_neS ?_
  | with_reducible refine Wd.g_eqB ?_
  | with_reducible refine Wd.g_neB ?_
  | with_reducible refine Wd.g_isN ?_
  | with_reducible refine Wd.g_notN ?_
  | with_reducible refine Wd.g_lc ?_
  | with_reducible refine Wd.g_yes ?_
  | with_reducible refine Wd.g_test ?_
  | with_reducible refine Wd.g_tB ?_
  | with_reducible refine Wd.g_bl ?_
  | with_reducible refine Wd.g_blI ?_
  | with_reducible refine Wd.g_and ?_
  | with_reducible refine Wd.g_or ?_
  | with_reducible refine Wd.g_not ?_
  | with_reducible refine Wd.g_andV ?_
  | with_reducible refine Wd.g_orV ?_
  | with_reducible refine Wd.g_notV ?_
  | with_reducible refine Wd.g_if ?_
  | with_reducible refine Wd.g_chain ?_
  | with_reducible refine Wd.g_chain3 ?_
  | with_reducible refine Wd.g_nil ?_
  | with_reducible refine Wd.g_cons ?_
  | with_reducible refine Wd.g_tup ?_
  | with_reducible refine Wd.g_lst ?_
  | with_reducible refine Wd.g_CB ?_
  | with_reducible refine Wd.g_call ?_
  | with_reducible refine Wd.g_callS ?_
  | with_reducible refine Wd.g_bm ?_
  | with_reducible refine Wd.g_bm0 ?_
  | with_reducible refine Wd.g_sl ?_
  | with_reducible refine Wd.g_part ?_
  | with_reducible refine Wd.g_part1 ?_
  | with_reducible refine Wd.g_noPart ?_
  | with_reducible refine Wd.g_next ?_
  | with_reducible refine Wd.g_name ?_
  | with_reducible refine Wd.g_sub ?_
  | with_reducible refine Wd.g_gnil ?_
  | with_reducible refine Wd.g_gcons ?_
  | with_reducible refine Wd.g_drop ?_
  | with_reducible refine Wd.g_ret ?_
  | with_reducible refine Wd.g_retN ?_
  | with_reducible refine Wd.g_brk ?_
  | with_reducible refine Wd.g_cont ?_
  | ((with_reducible show L2.Ends.bk _ _ _); (with_reducible refine Wd.g_bk ?_))
  | ((with_reducible show L2.Ends.ct _ _ _); (with_reducible refine Wd.g_ct ?_))
  | ((with_reducible show L2.Ends.rt _ _ _); (with_reducible refine Wd.g_rt ?_))
  | with_reducible refine Wd.g_for ?_
  | with_reducible refine Wd.g_rng1 ?_
  | with_reducible refine Wd.g_rng2 ?_
  | with_reducible refine Wd.g_iList ?_
  | with_reducible refine Wd.g_iTup ?_
  | ((with_reducible refine Wd.g_fit ?h1 ?_); (case h1 => exact rfl))
  | with_reducible refine Wd.g_max2 ?_
  | with_reducible refine Wd.g_min2 ?_
  | with_reducible refine Wd.g_int1B ?_
  | with_reducible refine L2.iteT ?_
  | with_reducible refine L2.iteF ?_
  | ((with_reducible refine Wd.g_itT ?h1 ?_); (case h1 => exact rfl))
  | ((with_reducible refine Wd.g_itF ?h1 ?_); (case h1 => exact rfl))))
/-- the ways' classes, and the names that they don't keep for themselves -/
structure TxtY (K : PySem.W.Frag) (WP WK WR WE WL : Addr) : Prop where
  cP : Cls K WP
  cK : Cls K WK
  cR : Cls K WR
  cE : Cls K WE
  cL : Cls K WL
  pW : NoAttr K WP "watcher"
  pG : NoAttr K WP "gaps"
  kW : NoAttr K WK "watcher"
  kO : NoAttr K WK "goal"
  kL : NoAttr K WK "least"
  kG : NoAttr K WK "gaps"
  rY : NoAttr K WR "ways"
  rG : NoAttr K WR "gaps"
  eY : NoAttr K WE "ways"
  eG : NoAttr K WE "gaps"
  lL : NoAttr K WL "least"
  lT : NoAttr K WL "turns"
  lO : NoAttr K WL "goals"
  lG : NoAttr K WL "gaps"
/-- the classes, the watcher and its window -/
structure Wy where
  WP : Addr
  WK : Addr
  WR : Addr
  WE : Addr
  WL : Addr
  Wt : Addr
  lo : Nat
  hi : Nat
abbrev nV (n : Nat) : V := .int (n : Int)
mutual
/-- v is the way of p into z, from g; its lists lie apart from what N tells -/
inductive WayA (Y : Wy) (N : Addr → Prop) (H : Hp) : V → Pl → Nat → Nat → Prop
  | pat {R dx : Addr} {z g : Nat} : H R = some (.ins Y.WP dx [("watcher", .ref Y.Wt), ("gaps", nV g)]) → ¬ N R → Bits Y.hi (Led Y.lo Y.hi .pat) z g → WayA Y N H (.ref R) .pat z g
  | work {R dx : Addr} {a b z g : Nat} : H R = some (.ins Y.WK dx [("watcher", .ref Y.Wt), ("goal", nV z), ("least", nV a), ("gaps", nV g)]) → ¬ N R → Bits Y.hi (Led Y.lo Y.hi (.work a b)) z g → WayA Y N H (.ref R) (.work a b) z g
  | row {R dx L : Addr} {vs : List V} {ps : List Pl} {z g : Nat} : H R = some (.ins Y.WR dx [("ways", .ref L), ("gaps", nV g)]) → ¬ N R → H L = some (.lst vs) → ¬ N L → WaysR Y N H vs ps z g → Bits Y.hi (Led Y.lo Y.hi (.row ps)) z g → WayA Y N H (.ref R) (.row ps) z g
  | either {R dx L : Addr} {vs : List V} {ps : List Pl} {z g : Nat} : H R = some (.ins Y.WE dx [("ways", .ref L), ("gaps", nV g)]) → ¬ N R → H L = some (.lst vs) → ¬ N L → WaysE Y N H vs ps z → Bits Y.hi (Led Y.lo Y.hi (.either ps)) z g → WayA Y N H (.ref R) (.either ps) z g
  | loop {R dx T O : Addr} {ts : List V} {zs : List Nat} {p : Pl} {a b z g : Nat} : H R = some (.ins Y.WL dx [("least", nV a), ("turns", .ref T), ("goals", .ref O), ("gaps", nV g)]) → ¬ N R → H T = some (.lst ts) → ¬ N T → H O = some (.lst (zs.map nV)) → ¬ N O → WaysL Y N H ts p z zs → ts.length = b →
      Bits Y.hi (Led Y.lo Y.hi (.loop a b p)) z g → WayA Y N H (.ref R) (.loop a b p) z g
/-- a row's ways, the last one first -/
inductive WaysR (Y : Wy) (N : Addr → Prop) (H : Hp) : List V → List Pl → Nat → Nat → Prop
  | nil {z : Nat} : WaysR Y N H [] [] z z
  | snoc {vs : List V} {ps : List Pl} {v : V} {p : Pl} {z g g2 : Nat} : WaysR Y N H vs ps z g → WayA Y N H v p g g2 → WaysR Y N H (vs ++ [v]) (p :: ps) z g2
/-- an either's ways -/
inductive WaysE (Y : Wy) (N : Addr → Prop) (H : Hp) : List V → List Pl → Nat → Prop
  | nil {z : Nat} : WaysE Y N H [] [] z
  | cons {vs : List V} {ps : List Pl} {v : V} {p : Pl} {z g : Nat} : WayA Y N H v p z g → WaysE Y N H vs ps z → WaysE Y N H (v :: vs) (p :: ps) z
/-- a loop's turns and goals: the first goal, then those of more turns -/
inductive WaysL (Y : Wy) (N : Addr → Prop) (H : Hp) : List V → Pl → Nat → List Nat → Prop
  | nil {p : Pl} {z : Nat} : WaysL Y N H [] p z [z]
  | snoc {ts : List V} {p : Pl} {v : V} {z g g2 : Nat} {zs : List Nat} : WaysL Y N H ts p z (zs ++ [g]) → WayA Y N H v p g g2 → WaysL Y N H (ts ++ [v]) p z (zs ++ [g] ++ [g2])
end
theorem WayA.bits {Y : Wy} {N : Addr → Prop} {H : Hp} {v : V} {p : Pl} {z g : Nat} (h : WayA Y N H v p z g) : Bits Y.hi (Led Y.lo Y.hi p) z g := by
  cases h <;> assumption
section
variable {Y : Wy} {N N' : Addr → Prop} {H H' : Hp}
mutual
/-- what lies apart from N stays -/
theorem WayA.keep (k : ∀ b o, ¬ N b → H b = some o → H' b = some o) : ∀ {v : V} {p : Pl} {z g : Nat}, WayA Y N H v p z g → WayA Y N H' v p z g
  | _, _, _, _, .pat h r b => .pat (k _ _ r h) r b
  | _, _, _, _, .work h r b => .work (k _ _ r h) r b
  | _, _, _, _, .row h1 r h2 n w b => .row (k _ _ r h1) r (k _ _ n h2) n (WaysR.keep k w) b
  | _, _, _, _, .either h1 r h2 n w b => .either (k _ _ r h1) r (k _ _ n h2) n (WaysE.keep k w) b
  | _, _, _, _, .loop h1 r h2 n h3 n3 w l b => .loop (k _ _ r h1) r (k _ _ n h2) n (k _ _ n3 h3) n3 (WaysL.keep k w) l b
theorem WaysR.keep (k : ∀ b o, ¬ N b → H b = some o → H' b = some o) : ∀ {vs : List V} {ps : List Pl} {z g : Nat}, WaysR Y N H vs ps z g → WaysR Y N H' vs ps z g
  | _, _, _, _, .nil => .nil
  | _, _, _, _, .snoc a b => .snoc (WaysR.keep k a) (WayA.keep k b)
theorem WaysE.keep (k : ∀ b o, ¬ N b → H b = some o → H' b = some o) : ∀ {vs : List V} {ps : List Pl} {z : Nat}, WaysE Y N H vs ps z → WaysE Y N H' vs ps z
  | _, _, _, .nil => .nil
  | _, _, _, .cons a b => .cons (WayA.keep k a) (WaysE.keep k b)
theorem WaysL.keep (k : ∀ b o, ¬ N b → H b = some o → H' b = some o) : ∀ {ts : List V} {p : Pl} {z : Nat} {zs : List Nat}, WaysL Y N H ts p z zs → WaysL Y N H' ts p z zs
  | _, _, _, _, .nil => .nil
  | _, _, _, _, .snoc a b => .snoc (WaysL.keep k a) (WayA.keep k b)
end
mutual
theorem WayA.mono (f : ∀ a, N' a → N a) : ∀ {v : V} {p : Pl} {z g : Nat}, WayA Y N H v p z g → WayA Y N' H v p z g
  | _, _, _, _, .pat h r b => .pat h (fun z => r (f _ z)) b
  | _, _, _, _, .work h r b => .work h (fun z => r (f _ z)) b
  | _, _, _, _, .row h1 r h2 n w b => .row h1 (fun z => r (f _ z)) h2 (fun z => n (f _ z)) (WaysR.mono f w) b
  | _, _, _, _, .either h1 r h2 n w b => .either h1 (fun z => r (f _ z)) h2 (fun z => n (f _ z)) (WaysE.mono f w) b
  | _, _, _, _, .loop h1 r h2 n h3 n3 w l b => .loop h1 (fun z => r (f _ z)) h2 (fun z => n (f _ z)) h3 (fun z => n3 (f _ z)) (WaysL.mono f w) l b
theorem WaysR.mono (f : ∀ a, N' a → N a) : ∀ {vs : List V} {ps : List Pl} {z g : Nat}, WaysR Y N H vs ps z g → WaysR Y N' H vs ps z g
  | _, _, _, _, .nil => .nil
  | _, _, _, _, .snoc a b => .snoc (WaysR.mono f a) (WayA.mono f b)
theorem WaysE.mono (f : ∀ a, N' a → N a) : ∀ {vs : List V} {ps : List Pl} {z : Nat}, WaysE Y N H vs ps z → WaysE Y N' H vs ps z
  | _, _, _, .nil => .nil
  | _, _, _, .cons a b => .cons (WayA.mono f a) (WaysE.mono f b)
theorem WaysL.mono (f : ∀ a, N' a → N a) : ∀ {ts : List V} {p : Pl} {z : Nat} {zs : List Nat}, WaysL Y N H ts p z zs → WaysL Y N' H ts p z zs
  | _, _, _, _, .nil => .nil
  | _, _, _, _, .snoc a b => .snoc (WaysL.mono f a) (WayA.mono f b)
end
theorem WayA.same (f : Same H H') {v : V} {p : Pl} {z g : Nat} (h : WayA Y N H v p z g) : WayA Y N H' v p z g := h.keep fun _ _ _ e => f _ _ e
theorem WaysR.same (f : Same H H') {vs : List V} {ps : List Pl} {z g : Nat} (h : WaysR Y N H vs ps z g) : WaysR Y N H' vs ps z g := h.keep fun _ _ _ e => f _ _ e
theorem WaysE.same (f : Same H H') {vs : List V} {ps : List Pl} {z : Nat} (h : WaysE Y N H vs ps z) : WaysE Y N H' vs ps z := h.keep fun _ _ _ e => f _ _ e
theorem WaysL.same (f : Same H H') {ts : List V} {p : Pl} {z : Nat} {zs : List Nat} (h : WaysL Y N H ts p z zs) : WaysL Y N H' ts p z zs := h.keep fun _ _ _ e => f _ _ e
/-- a thing of N's is changed -/
theorem keepN {D : Addr} {o : HO} (n : N D) : ∀ b u, ¬ N b → H b = some u → upd H D o b = some u := fun b u nb e => by
  rw [upd_ne (fun z => nb (by rw [z]; exact n))]; exact e
theorem WaysE.snoc : ∀ {vs : List V} {ps : List Pl} {v : V} {p : Pl} {z g : Nat}, WaysE Y N H vs ps z → WayA Y N H v p z g → WaysE Y N H (vs ++ [v]) (ps ++ [p]) z
  | _, _, _, _, _, _, .nil, h => .cons h .nil
  | _, _, _, _, _, _, .cons a b, h => .cons a (WaysE.snoc b h)
end
section
variable {P : Program} {w : World} {K : PySem.W.Frag} {mg : Str → Option Value} {base : Heap} {CWt WP WK WR WE WL : Addr}
abbrev s_PatWay_init : Stmt := (C8.clsBody (top 41)).getD 0 (.Pass ⟨0, 0, 0, 0⟩)
theorem sc_PatWay_init : FnScope ["self", "watcher", "goal"] ["self", "watcher", "goal"] (C8.fnScope s_PatWay_init) := C8.fnScope_by (by decide +kernel)
def sp_pinit (CWt WP : Addr) : Sp := fun vs H Q _ => ∃ (R dx Wt : Addr) (lo hi z : Nat), vs = [.ref R, .ref Wt, nV z] ∧ H R = some (.ins WP dx []) ∧ IsWt H CWt Wt lo hi ∧ ∀ H', Frm R H H' → H' R = some (.ins WP dx [("watcher", .ref Wt), ("gaps", nV (preP lo hi z))]) → Q .non H'
theorem ok_pinit (T : TxtY K WP WK WR WE WL) {f : Addr} {fd : FuncData} (M : Mk K WP f) (hm : mg "PatWay" = some (.ref WP)) (F : C8.Fun K "__init__" "PatWay.__init__" s_PatWay_init f fd) (b : Binds K fd ["self", "watcher", "goal"] []) (m_gap : C8.Met P w K mg base 2 CWt "gaps_ahead_of_pat" (sp_gap CWt) []) : C8.Mak P w K mg base 3 "PatWay" WP (sp_pinit CWt WP) [] := by
  refine C8.mak0 M hm F b .nil sc_PatWay_init (fun vs H Q E h => ?_) fun cdv A outer s H vs Q E hr h => ?_
  · obtain ⟨R, dx, Wt, lo, hi, z, rfl, _⟩ := h; rfl
  · obtain ⟨R, dx, Wt, lo, hi, z, rfl, hR, ⟨dw, hW⟩, q⟩ := h
    have nd := sc_PatWay_init.nd
    have nRW : Wt ≠ R := ne_of hW hR (fun z => nomatch z)
    refine ⟨_, (pss_cons (ps_fld (pv 0) (pv 1) rfl)
      (pss_one (ps_fld (pv 0) (C8.pe_mt m_gap hr (by first | decide | exact Nat.le_refl _ | omega) (pv 1) (pa_cons (pv 2) pa_nil)) rfl))), ?_⟩
    walk_at "go"
    refine g_sfld ?_
    walk_at "go"
    refine ⟨R, WP, dx, _, rfl, hR, T.cP, T.pW, by decide, ?_⟩
    walk_at "go"
    refine g_sfld ?_
    walk_at "go"
    refine ⟨_, rfl, Wt, dw, _, rfl, by rw [upd_ne nRW]; exact hW, rfl, ?_⟩
    walk_at "go"
    refine ⟨Wt, lo, hi, z, rfl, ⟨dw, by rw [upd_ne nRW]; exact hW⟩, ?_⟩
    walk_at "go"
    refine ⟨R, WP, dx, _, rfl, upd_same, T.cP, T.pG, by show 1 < 1000; decide, ?_⟩
    exact q _ (Frm.set.trans .set) upd_same
abbrev s_WorkWay_init : Stmt := (C8.clsBody (top 42)).getD 0 (.Pass ⟨0, 0, 0, 0⟩)
theorem sc_WorkWay_init : FnScope ["self", "watcher", "plan", "goal"] ["self", "watcher", "plan", "goal"] (C8.fnScope s_WorkWay_init) := C8.fnScope_by (by decide +kernel)
def sp_kinit (K : PySem.W.Frag) (CWt WK : Addr) : Sp := fun vs H Q _ => ∃ (R dx Wt PA : Addr) (lo hi z a b : Nat), vs = [.ref R, .ref Wt, .ref PA, nV z] ∧ H R = some (.ins WK dx []) ∧ IsWt H CWt Wt lo hi ∧ lo ≤ hi ∧ hi ≤ 1000 ∧ Below (hi + 2) z ∧ H PA = some (.tup [.str "work", nV a, nV b]) ∧ a ≤ b ∧ b ≤ 1000 ∧
  ∀ H' g, Frm R H H' → Bits hi (Led lo hi (.work a b)) z g → H' R = some (.ins WK dx [("watcher", .ref Wt), ("goal", nV z), ("least", nV a), ("gaps", nV g)]) → Q .non H'
theorem ok_kinit (T : TxtY K WP WK WR WE WL) {f : Addr} {fd : FuncData} (M : Mk K WK f) (hm : mg "WorkWay" = some (.ref WK)) (F : C8.Fun K "__init__" "WorkWay.__init__" s_WorkWay_init f fd) (b : Binds K fd ["self", "watcher", "plan", "goal"] []) (m_gaw : C8.Met P w K mg base 2 CWt "gaps_ahead_of_work" (sp_gaw CWt) []) : C8.Mak P w K mg base 3 "WorkWay" WK (sp_kinit K CWt WK) [] := by
  refine C8.mak0 M hm F b .nil sc_WorkWay_init (fun vs H Q E h => ?_) fun cdv A outer s H vs Q E hr h => ?_
  · obtain ⟨R, dx, Wt, PA, lo, hi, z, a, b, rfl, _⟩ := h; rfl
  · obtain ⟨R, dx, Wt, PA, lo, hi, z, a, b, rfl, hR, ⟨dw, hW⟩, l1, l2, hb, hP, l3, l4, q⟩ := h
    have nd := sc_WorkWay_init.nd
    have nRW : Wt ≠ R := ne_of hW hR (fun z => nomatch z)
    have nRP : PA ≠ R := ne_of hP hR (fun z => nomatch z)
    refine ⟨_, (pss_cons (ps_fld (pv 0) (pv 1) rfl)
      (pss_cons (ps_fld (pv 0) (pv 3) rfl)
      (pss_cons (ps_fld (pv 0) (pe_ix (r := rIxT K) ix_tup (pv 2) pe_int (fun _ _ => rfl)) rfl)
      (pss_one (ps_fld (pv 0) (C8.pe_mt m_gaw hr (by first | decide | exact Nat.le_refl _ | omega) (pv 1) (pa_cons (pv 3) (pa_cons (pe_ix (r := rIxT K) ix_tup (pv 2) pe_int (fun _ _ => rfl)) (pa_cons (pe_ix (r := rIxT K) ix_tup (pv 2) pe_int (fun _ _ => rfl)) pa_nil)))) rfl))))), ?_⟩
    walk_at "go"
    refine g_sfld ?_
    walk_at "go"
    refine ⟨R, WK, dx, _, rfl, hR, T.cK, T.kW, by decide, ?_⟩
    have f1 : Frm R H (upd H R (HO.ins WK dx (putF ("watcher" : Str) (V.ref Wt) []))) := .set
    have e1 := upd_same (H := H) (a := R) (o := HO.ins WK dx (putF ("watcher" : Str) (V.ref Wt) []))
    generalize upd H R (HO.ins WK dx (putF ("watcher" : Str) (V.ref Wt) [])) = H1 at f1 e1
    walk_at "go"
    refine g_sfld ?_
    walk_at "go"
    refine ⟨R, WK, dx, _, rfl, e1, T.cK, T.kO, by show 1 < 1000; decide, ?_⟩
    have f2 := f1.trans (.set (o := HO.ins WK dx (putF ("goal" : Str) (nV z) (putF ("watcher" : Str) (V.ref Wt) []))))
    have e2 := upd_same (H := H1) (a := R) (o := HO.ins WK dx (putF ("goal" : Str) (nV z) (putF ("watcher" : Str) (V.ref Wt) [])))
    generalize upd H1 R (HO.ins WK dx (putF ("goal" : Str) (nV z) (putF ("watcher" : Str) (V.ref Wt) []))) = H2 at f2 e2
    walk_at "go"
    refine g_sfld ?_
    walk_at "go"
    refine g_ixT (SqT.of (f2 _ _ nRP hP)) rfl ?_
    walk_at "go"
    refine ⟨R, WK, dx, _, rfl, e2, T.cK, T.kL, by show 2 < 1000; decide, ?_⟩
    have f3 := f2.trans (.set (o := HO.ins WK dx (putF ("least" : Str) (nV a) (putF ("goal" : Str) (nV z) (putF ("watcher" : Str) (V.ref Wt) [])))))
    have e3 := upd_same (H := H2) (a := R) (o := HO.ins WK dx (putF ("least" : Str) (nV a) (putF ("goal" : Str) (nV z) (putF ("watcher" : Str) (V.ref Wt) []))))
    generalize upd H2 R (HO.ins WK dx (putF ("least" : Str) (nV a) (putF ("goal" : Str) (nV z) (putF ("watcher" : Str) (V.ref Wt) [])))) = H3 at f3 e3
    walk_at "go"
    refine g_sfld ?_
    walk_at "go"
    refine ⟨_, rfl, Wt, dw, _, rfl, f3 _ _ nRW hW, rfl, ?_⟩
    walk_at "go"
    refine g_ixT (SqT.of (f3 _ _ nRP hP)) rfl ?_
    walk_at "go"
    refine g_ixT (SqT.of (f3 _ _ nRP hP)) rfl ?_
    walk_at "go"
    refine ⟨Wt, lo, hi, z, a, b, rfl, ⟨dw, f3 _ _ nRW hW⟩, l1, l2, hb, l3, l4, fun g hg => ?_⟩
    walk_at "go"
    refine ⟨R, WK, dx, _, rfl, e3, T.cK, T.kG, by show 3 < 1000; decide, ?_⟩
    exact q _ g (f3.trans .set) hg upd_same
end
end K10
namespace K10
open PySem PySem.Spec PyProof.Rows L2 Wd RT
local macro_rules | `(tactic| walk_at "gs") => `(tactic| repeat (first
  | with_reducible refine Wd.g_seq ?_
  | ((with_reducible show L2.Ends.nx _ _ _); (with_reducible refine Wd.g_nx ?_))
  | with_reducible refine Wd.g_asg ?_
  | ((with_reducible refine' Wd.g_var ?h1 ?_); (case h1 => exact rfl))
  | with_reducible refine Wd.g_c ?_
  | with_reducible refine Wd.g_op ?_
  | with_reducible refine Wd.g_un ?_
  | with_reducible refine Wd.g_I0 ?_
  | with_reducible refine Wd.g_U ?_
  | with_reducible refine Wd.g_eqI ?_
  | with_reducible refine Wd.g_neI ?_
  | with_reducible refine Wd.g_eqS ?_
  | with_reducible refine Wd.g_neS ?_
  | with_reducible refine Wd.g_eqB ?_
  | with_reducible refine Wd.g_neB ?_
  | with_reducible refine Wd.g_isN ?_
  | with_reducible refine Wd.g_notN ?_
  | with_reducible refine Wd.g_lc ?_
  | with_reducible refine Wd.g_yes ?_
  | with_reducible refine Wd.g_test ?_
  | with_reducible refine Wd.g_tB ?_
  | with_reducible refine Wd.g_bl ?_
  | with_reducible refine Wd.g_blI ?_
  | with_reducible refine Wd.g_and ?_
  | with_reducible refine Wd.g_or ?_
  | with_reducible refine Wd.g_not ?_
  | with_reducible refine Wd.g_andV ?_
  | with_reducible refine Wd.g_orV ?_
  | with_reducible refine Wd.g_notV ?_
  | with_reducible refine Wd.g_if ?_
  | with_reducible refine Wd.g_chain ?_
  | with_reducible refine Wd.g_chain3 ?_
  | with_reducible refine Wd.g_nil ?_
  | with_reducible refine Wd.g_cons ?_
  | with_reducible refine Wd.g_tup ?_
  | with_reducible refine Wd.g_lst ?_
  | with_reducible refine Wd.g_CB ?_
  | with_reducible refine Wd.g_call ?_
  | with_reducible refine Wd.g_callS ?_
  | with_reducible refine Wd.g_bm ?_
  | with_reducible refine Wd.g_bm0 ?_
  | with_reducible refine Wd.g_sl ?_
  | with_reducible refine Wd.g_part ?_
  | with_reducible refine Wd.g_part1 ?_
  | with_reducible refine Wd.g_noPart ?_
  | with_reducible refine Wd.g_next ?_
  | with_reducible refine Wd.g_name ?_
  | with_reducible refine Wd.g_sub ?_
  | with_reducible refine Wd.g_gnil ?_
  | with_reducible refine Wd.g_gcons ?_
  | with_reducible refine Wd.g_drop ?_
  | with_reducible refine Wd.g_ret ?_
  | with_reducible refine Wd.g_retN ?_
  | with_reducible refine Wd.g_brk ?_
  | with_reducible refine Wd.g_cont ?_
  | ((with_reducible show L2.Ends.bk _ _ _); (with_reducible refine Wd.g_bk ?_))
  | ((with_reducible show L2.Ends.ct _ _ _); (with_reducible refine Wd.g_ct ?_))
  | ((with_reducible show L2.Ends.rt _ _ _); (with_reducible refine Wd.g_rt ?_))
  | with_reducible refine Wd.g_for ?_
  | with_reducible refine Wd.g_rng1 ?_
  | with_reducible refine Wd.g_rng2 ?_
  | with_reducible refine Wd.g_iList ?_
  | with_reducible refine Wd.g_iTup ?_
  | ((with_reducible refine Wd.g_fit ?h1 ?_); (case h1 => exact rfl))
  | with_reducible refine Wd.g_max2 ?_
  | with_reducible refine Wd.g_min2 ?_
  | with_reducible refine Wd.g_int1B ?_
  | with_reducible refine L2.iteT ?_
  | with_reducible refine L2.iteF ?_
  | ((with_reducible refine Wd.g_itT ?h1 ?_); (case h1 => exact rfl))
  | ((with_reducible refine Wd.g_itF ?h1 ?_); (case h1 => exact rfl))))
section
variable {σ : L2.St} {H : Hp} {K : PySem.W.Frag}
theorem g_rev {te : TE} {R : It → Hp → Prop} (h : te σ H fun v H1 => ∃ (a : Addr) (xs : List V), v = .ref a ∧ ((SqL K H1 a xs ∧ R (Itv K a xs.length) H1) ∨ (SqT K H1 a xs ∧ R (ItvT K a xs.length) H1))) : iRevA K te σ H R := h
theorem w_revT {a : L2.St → Hp → Prop} {b : VK} {g : TG} {tb : TS} {p : Addr} {xs : List V} (Pv : Nat → L2.St → Hp → Prop) (h0 : Pv 0 σ H) (hq : ∀ i σ H, Pv i σ H → SqT K H p xs)
    (hs : ∀ (i : Nat) (x : V) (σ : L2.St) (H : Hp), i < xs.length → xs[xs.length - 1 - i]? = some x → Pv i σ H → g x σ H fun σ2 H2 => tb ⟨Pv (i + 1), b, a, Pv (i + 1)⟩ σ2 H2) (hd : ∀ σ H, Pv xs.length σ H → a σ H) :
    ∃ (q : Addr) (ys : List V), V.ref p = .ref q ∧ ((SqL K H q ys ∧ ForEnd g tb a b σ (Itv K q ys.length) H) ∨ (SqT K H q ys ∧ ForEnd g tb a b σ (ItvT K q ys.length) H)) :=
  ⟨p, xs, rfl, .inr ⟨hq 0 σ H h0, for_ItvT (D := ⟨a, b, fun _ _ => False, fun _ _ => False⟩) Pv h0 hq hs hd⟩⟩
theorem w_revL {a : L2.St → Hp → Prop} {b : VK} {g : TG} {tb : TS} {p : Addr} {xs : List V} (Pv : Nat → L2.St → Hp → Prop) (h0 : Pv 0 σ H) (hq : ∀ i σ H, Pv i σ H → SqL K H p xs)
    (hs : ∀ (i : Nat) (x : V) (σ : L2.St) (H : Hp), i < xs.length → xs[xs.length - 1 - i]? = some x → Pv i σ H → g x σ H fun σ2 H2 => tb ⟨Pv (i + 1), b, a, Pv (i + 1)⟩ σ2 H2) (hd : ∀ σ H, Pv xs.length σ H → a σ H) :
    ∃ (q : Addr) (ys : List V), V.ref p = .ref q ∧ ((SqL K H q ys ∧ ForEnd g tb a b σ (Itv K q ys.length) H) ∨ (SqT K H q ys ∧ ForEnd g tb a b σ (ItvT K q ys.length) H)) :=
  ⟨p, xs, rfl, .inl ⟨hq 0 σ H h0, for_Itv (D := ⟨a, b, fun _ _ => False, fun _ _ => False⟩) Pv h0 hq hs hd⟩⟩
end
/-- what a way holds of its gaps -/
theorem WayA.at_ {K : PySem.W.Frag} {Y : Wy} {N : Addr → Prop} {H : Hp} {v : V} {p : Pl} {z g : Nat} (T : TxtY K Y.WP Y.WK Y.WR Y.WE Y.WL) (h : WayA Y N H v p z g) :
    ∃ R C dx fs, v = .ref R ∧ H R = some (.ins C dx fs) ∧ C ∈ [Y.WP, Y.WK, Y.WR, Y.WE, Y.WL] ∧ Cls K C ∧ NoAttr K C "gaps" ∧ fs.lookup ("gaps" : Str) = some (nV g) ∧ fs.lookup ("lead" : Str) = none := by
  cases h with
  | pat h _ _ => exact ⟨_, _, _, _, rfl, h, by simp, T.cP, T.pG, rfl, rfl⟩
  | work h _ _ => exact ⟨_, _, _, _, rfl, h, by simp, T.cK, T.kG, rfl, rfl⟩
  | row h _ _ _ _ _ => exact ⟨_, _, _, _, rfl, h, by simp, T.cR, T.rG, rfl, rfl⟩
  | either h _ _ _ _ _ => exact ⟨_, _, _, _, rfl, h, by simp, T.cE, T.eG, rfl, rfl⟩
  | loop h _ _ _ _ _ _ _ _ => exact ⟨_, _, _, _, rfl, h, by simp, T.cL, T.lG, rfl, rfl⟩
theorem bits_below {hi : Nat} {F : (Nat → Prop) → Nat → Prop} {z g : Nat} (h : Bits hi F z g) : Below (hi + 2) g := h.low
theorem led_inS {hi : Nat} {F : (Nat → Prop) → Nat → Prop} {z g : Nat} (h : Bits hi F z g) : ∀ i, i ≤ hi + 1 → (inS g i ↔ F (inS z) i) := h.bit
mutual
/-- only the gaps up to one beyond high count -/
theorem Led.congr {lo hi : Nat} : ∀ (p : Pl) {G G' : Nat → Prop}, (∀ i, i ≤ hi + 1 → G i → G' i) → ∀ i, i ≤ hi + 1 → Led lo hi p G i → Led lo hi p G' i
  | .pat, G, G', h, i, hi', x => by unfold Led at x ⊢; exact h _ gP_le x
  | .work a b, G, G', h, i, hi', x => by
    unfold Led at x ⊢
    obtain ⟨d, h1, h2, h3⟩ := x
    exact ⟨d, h1, h2, h _ gW_le h3⟩
  | .row ps, G, G', h, i, hi', x => by unfold Led at x ⊢; exact Leds.congr ps h i hi' x
  | .either ps, G, G', h, i, hi', x => by unfold Led at x ⊢; exact LedE.congr ps h i hi' x
  | .loop a b p, G, G', h, i, hi', x => by
    unfold Led at x ⊢
    obtain ⟨n, h1, h2, h3⟩ := x
    refine ⟨n, h1, h2, ?_⟩
    have it : ∀ n j, j ≤ hi + 1 → iterP (Led lo hi p) n G j → iterP (Led lo hi p) n G' j := fun n => by
      induction n with
      | zero => exact h
      | succ n ih => exact fun j hj y => Led.congr p ih j hj y
    exact it n i hi' h3
theorem Leds.congr {lo hi : Nat} : ∀ (ps : List Pl) {G G' : Nat → Prop}, (∀ i, i ≤ hi + 1 → G i → G' i) → ∀ i, i ≤ hi + 1 → Leds lo hi ps G i → Leds lo hi ps G' i
  | [], G, G', h, i, hi', x => by unfold Leds at x ⊢; exact h i hi' x
  | p :: ps, G, G', h, i, hi', x => by unfold Leds at x ⊢; exact Led.congr p (Leds.congr ps h) i hi' x
theorem LedE.congr {lo hi : Nat} : ∀ (ps : List Pl) {G G' : Nat → Prop}, (∀ i, i ≤ hi + 1 → G i → G' i) → ∀ i, i ≤ hi + 1 → LedE lo hi ps G i → LedE lo hi ps G' i
  | [], G, G', h, i, hi', x => by unfold LedE at x; exact x.elim
  | p :: ps, G, G', h, i, hi', x => by unfold LedE at x ⊢; exact x.imp (Led.congr p h i hi') (LedE.congr ps h i hi')
end
theorem bits_cons {lo hi : Nat} {p : Pl} {ps : List Pl} {z g g2 : Nat} (h1 : Bits hi (Leds lo hi ps) z g) (h2 : Bits hi (Led lo hi p) g g2) : Bits hi (Leds lo hi (p :: ps)) z g2 :=
  ⟨h2.low, fun i hi' => by
    rw [h2.bit i hi']
    show Led lo hi p (inS g) i ↔ Leds lo hi (p :: ps) (inS z) i
    unfold Leds
    exact ⟨Led.congr p (fun j hj x => (h1.bit j hj).mp x) i hi', Led.congr p (fun j hj x => (h1.bit j hj).mpr x) i hi'⟩⟩
theorem bits_nil {lo hi z : Nat} (hb : Below (hi + 2) z) : Bits hi (Leds lo hi []) z z := ⟨hb, fun i _ => by show _ ↔ Leds lo hi [] (inS z) i; unfold Leds; exact Iff.rfl⟩
section
variable {P : Program} {w : World} {K : PySem.W.Frag} {mg : Str → Option Value} {base : Heap} {CWt WP WK WR WE WL : Addr}
/-- the way of a plan of a depth -/
def sp_way (CWt WP WK WR WE WL : Addr) (n : Nat) : Sp := fun vs H Q _ => ∃ (Wt : Addr) (lo hi : Nat) (v : V) (p : Pl) (l z : Nat), vs = [.ref Wt, v, nV z] ∧ IsWt H CWt Wt lo hi ∧ lo ≤ hi ∧ hi ≤ 1000 ∧ PlA H v p ∧ okP n l p ∧ Below (hi + 2) z ∧
  ∀ H' u g, Same H H' → WayA ⟨WP, WK, WR, WE, WL, Wt, lo, hi⟩ (fun a => H a ≠ none) H' u p z g → Q u H'
abbrev s_RowWay_init : Stmt := (C8.clsBody (top 43)).getD 0 (.Pass ⟨0, 0, 0, 0⟩)
theorem sc_RowWay_init : FnScope ["self", "watcher", "plan", "goal", "part", "way"] ["self", "watcher", "plan", "goal"] (C8.fnScope s_RowWay_init) := C8.fnScope_by (by decide +kernel)
def sp_rinit (CWt WP WK WR WE WL : Addr) (n : Nat) : Sp := fun vs H Q _ => ∃ (N : Addr → Prop) (R dx Wt PA UA : Addr) (us : List V) (ps : List Pl) (lo hi l z : Nat), vs = [.ref R, .ref Wt, .ref PA, nV z] ∧ H R = some (.ins WR dx []) ∧ IsWt H CWt Wt lo hi ∧ lo ≤ hi ∧ hi ≤ 1000 ∧ Below (hi + 2) z ∧
  H PA = some (.tup [.str "row", .ref UA]) ∧ H UA = some (.tup us) ∧ PlAs H us ps ∧ okPs n l ps ∧ ps.length ≤ 20 ∧ (∀ a, N a → H a ≠ none) ∧ ¬ N R ∧ ∀ H' g, Frm R H H' → WayA ⟨WP, WK, WR, WE, WL, Wt, lo, hi⟩ N H' (.ref R) (.row ps) z g → Q .non H'
theorem ok_rinit {n : Nat} (T2 : TxtY K WP WK WR WE WL) (T : TxtJ K mg) {f : Addr} {fd : FuncData} (M : Mk K WR f) (hm : mg "RowWay" = some (.ref WR)) (F : C8.Fun K "__init__" "RowWay.__init__" s_RowWay_init f fd) (b : Binds K fd ["self", "watcher", "plan", "goal"] []) (g_way_to : C8.Cal P w K mg base (5 + 3 * n) "way_to" (sp_way CWt WP WK WR WE WL n) []) : C8.Mak P w K mg base (6 + 3 * n) "RowWay" WR (sp_rinit CWt WP WK WR WE WL n) [] := by
  have lv : 6 + 3 * n = (5 + 3 * n) + 1 := by omega
  rw [lv]
  refine C8.mak0 M hm F b .nil sc_RowWay_init (fun vs H Q E h => ?_) fun cdv A outer s H vs Q E hr h => ?_
  · obtain ⟨N, R, dx, Wt, PA, UA, us, ps, lo, hi, l, z, rfl, _⟩ := h; rfl
  · obtain ⟨N, R, dx, Wt, PA, UA, us, ps, lo, hi, l, z, rfl, hR, ⟨dw, hW⟩, l1, l2, hb, hP, hU, pa, ok, pl, nH, nR, q⟩ := h
    have nd := sc_RowWay_init.nd
    have nRW : Wt ≠ R := ne_of hW hR (fun z => nomatch z)
    have nRP : PA ≠ R := ne_of hP hR (fun z => nomatch z)
    have nRU : UA ≠ R := ne_of hU hR (fun z => nomatch z)
    refine ⟨_, (pss_cons (ps_fld (pv 0) (pe_lst pa_nil) rfl)
      (pss_cons (ps_for PassesOwn.never rfl (pi_revA (by rfl) T.n_reversed (pe_ix (r := rIxT K) ix_tup (pv 2) pe_int (fun _ _ => rfl))) (pg_name (i := 4) nd rfl (Or.inl rfl)) (pss_cons (ps_set (i := 5) nd rfl (Or.inl rfl) (C8.pe_c g_way_to hr (by first | decide | exact Nat.le_refl _ | omega) (by rfl) (pa_cons (pv 1) (pa_cons (pv 4) (pa_cons (pv 3) pa_nil)))))
      (pss_cons (ps_expr (pe_bmK (K := K) rfl PySem.F.plainAttrs_list PySem.F.slot_list_append PySem.F.type_list_append mt_append (pe_fld (pv 0) rfl) (pa_cons (pv 5) pa_nil)))
      (pss_one (ps_set (i := 3) nd rfl (Or.inl rfl) (pe_fld (pv 5) rfl))))))
      (pss_one (ps_fld (pv 0) (pv 3) rfl)))), ?_⟩
    walk_at "go"
    refine g_sfld ?_
    walk_at "go"
    intro L hL
    have sL := same_new (o := .lst []) hL
    have eL := upd_same (H := H) (a := L) (o := .lst [])
    have nLR : L ≠ R := fun z => by rw [z, hR] at hL; cases hL
    generalize upd H L (.lst []) = H1 at sL eL
    walk_at "go"
    refine ⟨R, WR, dx, _, rfl, sL _ _ hR, T2.cR, T2.rY, by decide, ?_⟩
    have f2 : Frm R H (upd H1 R (HO.ins WR dx (putF ("ways" : Str) (V.ref L) []))) := (Frm.of sL).trans .set
    have e2 := upd_same (H := H1) (a := R) (o := HO.ins WR dx (putF ("ways" : Str) (V.ref L) []))
    have g2 : upd H1 R (HO.ins WR dx (putF ("ways" : Str) (V.ref L) [])) L = some (.lst []) := by rw [upd_ne nLR]; exact eL
    generalize upd H1 R (HO.ins WR dx (putF ("ways" : Str) (V.ref L) [])) = H2 at f2 e2 g2
    have pul := pa.len
    walk_at "go"
    refine g_rev ?_
    walk_at "go"
    refine g_ixT (SqT.of (f2 _ _ nRP hP)) rfl ?_
    refine w_revT (xs := us) (fun i σ H' => ∃ (vs : List V) (g : Nat) (v4 v5 : Option V), σ = [some (.ref R), some (.ref Wt), some (.ref PA), some (nV g), v4, v5] ∧ Frm R H H' ∧ H' R = some (.ins WR dx [("ways", .ref L)]) ∧ H' L = some (.lst vs) ∧ vs.length = i ∧
      WaysR ⟨WP, WK, WR, WE, WL, Wt, lo, hi⟩ (fun a => N a ∨ a = L ∨ a = R) H' vs (ps.drop (ps.length - i)) z g ∧ Bits hi (Leds lo hi (ps.drop (ps.length - i))) z g) ?_ ?_ ?_ ?_
    · exact ⟨[], z, _, _, rfl, f2, e2, g2, rfl, by rw [Nat.sub_zero, List.drop_length]; exact .nil, by rw [Nat.sub_zero, List.drop_length]; exact bits_nil hb⟩
    · rintro i σ H' ⟨vs, g, v4, v5, rfl, f3, _⟩
      exact SqT.of (f3 _ _ nRU hU)
    · rintro i x σ H3 hi' hx ⟨vs, g, v4, v5, rfl, f3, e3, g3, vl, wr, bt⟩
      obtain ⟨p, hp, pA⟩ := PlAs.at pa hx
      have hpl : ps.length - i = (ps.length - (i + 1)) + 1 := by omega
      have hix : us.length - 1 - i = ps.length - (i + 1) := by omega
      rw [hix] at hp
      have dp : ps.drop (ps.length - (i + 1)) = p :: ps.drop (ps.length - i) := by rw [hpl]; exact drop_at hp
      walk_at "go"
      refine ⟨Wt, lo, hi, x, p, l, g, rfl, ⟨dw, f3 _ _ nRW hW⟩, l1, l2, PlA_keep (fun b xs h => f3 _ _ (ne_of h hR (fun z => nomatch z)) h) _ _ pA, okPs_at ok hp, bt.low, fun H4 u g4 s4 wa => ?_⟩
      have e4 := s4 _ _ e3
      have g4' := s4 _ _ g3
      have sub : ∀ a, (N a ∨ a = L ∨ a = R) → H3 a ≠ none := fun a ha => by
        rcases ha with ha | rfl | rfl
        · by_cases c : a = R
          · exact absurd (c ▸ ha) nR
          · cases hq : H a with
            | none => exact absurd hq (nH a ha)
            | some o => rw [f3 _ _ c hq]; exact fun z => nomatch z
        · rw [g3]; exact fun z => nomatch z
        · rw [e3]; exact fun z => nomatch z
      have wa2 := WayA.mono sub wa
      have wr4 := WaysR.snoc (WaysR.same s4 wr) wa2
      walk_at "go"
      refine g_fldV rfl e4 T2.cR T2.rY rfl ?_
      walk_at "go"
      refine g_tyL g4' ?_
      walk_at "go"
      refine g_append g4' (by omega) ?_
      have wr5 := WaysR.keep (keepN (o := .lst (vs ++ [u])) (.inr (.inl rfl))) wr4
      obtain ⟨R', C', dx', fs', rfl, hR', _, cls', na', lk', _⟩ := WayA.at_ (K := K) (Y := ⟨WP, WK, WR, WE, WL, Wt, lo, hi⟩) T2 (WayA.keep (keepN (o := .lst (vs ++ [u])) (.inr (.inl rfl))) wa2)
      have e5 : upd H4 L (.lst (vs ++ [.ref R'])) R = some (.ins WR dx [("ways", .ref L)]) := by rw [upd_ne nLR.symm]; exact e4
      have g5 := upd_same (H := H4) (a := L) (o := .lst (vs ++ [.ref R']))
      have f5 : Frm R H (upd H4 L (.lst (vs ++ [.ref R']))) := fun b o n h => by
        rw [upd_ne (ne_of_none h hL)]; exact s4 _ _ (f3 b o n h)
      generalize upd H4 L (.lst (vs ++ [.ref R'])) = H5 at wr5 hR' e5 g5 f5 ⊢
      walk_at "go"
      refine g_fldV rfl hR' cls' na' lk' ?_
      walk_at "go"
      refine ⟨_, g4, _, _, rfl, f5, e5, g5, by rw [List.length_append, vl]; rfl, by rw [dp]; exact wr5, by rw [dp]; exact bits_cons bt wa.bits⟩
    · rintro σ H3 ⟨vs, g, v4, v5, rfl, f3, e3, g3, vl, wr, bt⟩
      rw [pul, Nat.sub_self, List.drop_zero] at wr bt
      walk_at "go"
      refine g_sfld ?_
      walk_at "go"
      refine ⟨R, WR, dx, _, rfl, e3, T2.cR, T2.rG, by show 1 < 1000; decide, ?_⟩
      have hLn : ¬ N L := fun z => nH L z hL
      refine q _ g (f3.trans .set) (.row upd_same nR (by rw [upd_ne nLR]; exact g3) hLn ?_ ?_)
      · exact WaysR.mono (fun a ha => .inl ha) (WaysR.keep (keepN (.inr (.inr rfl))) wr)
      · exact ⟨bt.low, fun i hi' => (bt.bit i hi').trans (by unfold Led; exact Iff.rfl)⟩
end
end K10
namespace K10
open PySem PySem.Spec PyProof.Rows L2 Wd RT
local macro_rules | `(tactic| walk_at "gs") => `(tactic| repeat (first
  | with_reducible refine Wd.g_seq ?_
  | ((with_reducible show L2.Ends.nx _ _ _); (with_reducible refine Wd.g_nx ?_))
  | with_reducible refine Wd.g_asg ?_
  | ((with_reducible refine' Wd.g_var ?h1 ?_); (case h1 => exact rfl))
  | with_reducible refine Wd.g_c ?_
  | with_reducible refine Wd.g_op ?_
  | with_reducible refine Wd.g_un ?_
  | with_reducible refine Wd.g_I0 ?_
  | with_reducible refine Wd.g_U ?_
  | with_reducible refine Wd.g_eqI ?_
  | with_reducible refine Wd.g_neI ?_
  | with_reducible refine Wd.g_eqS ?_
  | with_reducible refine Wd.g_neS ?_
  | with_reducible refine Wd.g_eqB ?_
  | with_reducible refine Wd.g_neB ?_
  | with_reducible refine Wd.g_isN ?_
  | with_reducible refine Wd.g_notN ?_
  | with_reducible refine Wd.g_lc ?_
  | with_reducible refine Wd.g_yes ?_
  | with_reducible refine Wd.g_test ?_
  | with_reducible refine Wd.g_tB ?_
  | with_reducible refine Wd.g_bl ?_
  | with_reducible refine Wd.g_blI ?_
  | with_reducible refine Wd.g_and ?_
  | with_reducible refine Wd.g_or ?_
  | with_reducible refine Wd.g_not ?_
  | with_reducible refine Wd.g_andV ?_
  | with_reducible refine Wd.g_orV ?_
  | with_reducible refine Wd.g_notV ?_
  | with_reducible refine Wd.g_if ?_
  | with_reducible refine Wd.g_chain ?_
  | with_reducible refine Wd.g_chain3 ?_
  | with_reducible refine Wd.g_nil ?_
  | with_reducible refine Wd.g_cons ?_
  | with_reducible refine Wd.g_tup ?_
  | with_reducible refine Wd.g_lst ?_
  | with_reducible refine Wd.g_CB ?_
  | with_reducible refine Wd.g_call ?_
  | with_reducible refine Wd.g_callS ?_
  | with_reducible refine Wd.g_bm ?_
  | with_reducible refine Wd.g_bm0 ?_
  | with_reducible refine Wd.g_sl ?_
  | with_reducible refine Wd.g_part ?_
  | with_reducible refine Wd.g_part1 ?_
  | with_reducible refine Wd.g_noPart ?_
  | with_reducible refine Wd.g_next ?_
  | with_reducible refine Wd.g_name ?_
  | with_reducible refine Wd.g_sub ?_
  | with_reducible refine Wd.g_gnil ?_
  | with_reducible refine Wd.g_gcons ?_
  | with_reducible refine Wd.g_drop ?_
  | with_reducible refine Wd.g_ret ?_
  | with_reducible refine Wd.g_retN ?_
  | with_reducible refine Wd.g_brk ?_
  | with_reducible refine Wd.g_cont ?_
  | ((with_reducible show L2.Ends.bk _ _ _); (with_reducible refine Wd.g_bk ?_))
  | ((with_reducible show L2.Ends.ct _ _ _); (with_reducible refine Wd.g_ct ?_))
  | ((with_reducible show L2.Ends.rt _ _ _); (with_reducible refine Wd.g_rt ?_))
  | with_reducible refine Wd.g_for ?_
  | with_reducible refine Wd.g_rng1 ?_
  | with_reducible refine Wd.g_rng2 ?_
  | with_reducible refine Wd.g_iList ?_
  | with_reducible refine Wd.g_iTup ?_
  | ((with_reducible refine Wd.g_fit ?h1 ?_); (case h1 => exact rfl))
  | with_reducible refine Wd.g_max2 ?_
  | with_reducible refine Wd.g_min2 ?_
  | with_reducible refine Wd.g_int1B ?_
  | with_reducible refine L2.iteT ?_
  | with_reducible refine L2.iteF ?_
  | ((with_reducible refine Wd.g_itT ?h1 ?_); (case h1 => exact rfl))
  | ((with_reducible refine Wd.g_itF ?h1 ?_); (case h1 => exact rfl))))
theorem LedE_snoc {lo hi : Nat} {G : Nat → Prop} {g : Nat} {p : Pl} : ∀ ps : List Pl, LedE lo hi (ps ++ [p]) G g ↔ LedE lo hi ps G g ∨ Led lo hi p G g
  | [] => by rw [List.nil_append]; unfold LedE LedE; exact ⟨fun h => .inr (h.elim id fun x => x.elim), fun h => h.elim (fun x => x.elim) .inl⟩
  | q :: ps => by
    rw [List.cons_append]
    show LedE lo hi (q :: (ps ++ [p])) G g ↔ LedE lo hi (q :: ps) G g ∨ _
    unfold LedE
    rw [LedE_snoc ps]
    exact or_assoc.symm
theorem WaysE.at {Y : Wy} {N : Addr → Prop} {H : Hp} : ∀ {vs : List V} {ps : List Pl} {z i : Nat} {v : V}, WaysE Y N H vs ps z → vs[i]? = some v → ∃ p g, ps[i]? = some p ∧ WayA Y N H v p z g
  | _, _, _, _, _, .nil, h => nomatch h
  | _, _, _, 0, _, .cons (g := g) a b, h => by cases h; exact ⟨_, g, rfl, a⟩
  | _, _, _, i + 1, _, .cons a b, h => WaysE.at (i := i) b h
theorem WaysE.len {Y : Wy} {N : Addr → Prop} {H : Hp} : ∀ {vs : List V} {ps : List Pl} {z : Nat}, WaysE Y N H vs ps z → vs.length = ps.length
  | _, _, _, .nil => rfl
  | _, _, _, .cons a b => congrArg (· + 1) (WaysE.len b)
theorem bits_or {hi z g g2 : Nat} {F F2 : (Nat → Prop) → Nat → Prop} (h1 : Bits hi F z g) (h2 : Bits hi F2 z g2) : Bits hi (fun G i => F G i ∨ F2 G i) z (g ||| g2) :=
  ⟨fun i h => by
    rw [tb_or, Bool.or_eq_true] at h
    exact h.elim (h1.low i) (h2.low i), fun i hi' => by
    rw [tb_or, Bool.or_eq_true]
    exact or_congr (h1.bit i hi') (h2.bit i hi')⟩
theorem bits_false {hi z : Nat} {F : (Nat → Prop) → Nat → Prop} (h : ∀ G i, ¬ F G i) : Bits hi F z 0 :=
  ⟨(fun i h => by rw [Nat.zero_testBit] at h; exact absurd h Bool.false_ne_true), fun i _ => by rw [Nat.zero_testBit]; exact ⟨(fun x => nomatch x), fun x => absurd x (h _ _)⟩⟩
theorem bits_iff {hi z g : Nat} {F F2 : (Nat → Prop) → Nat → Prop} (h1 : Bits hi F z g) (h : ∀ i, i ≤ hi + 1 → (F (inS z) i ↔ F2 (inS z) i)) : Bits hi F2 z g :=
  ⟨h1.low, fun i hi' => (h1.bit i hi').trans (h i hi')⟩
section
variable {P : Program} {w : World} {K : PySem.W.Frag} {mg : Str → Option Value} {base : Heap} {CWt WP WK WR WE WL : Addr}
abbrev s_EitherWay_init : Stmt := (C8.clsBody (top 44)).getD 0 (.Pass ⟨0, 0, 0, 0⟩)
abbrev s_EitherWay___init__ : Stmt := s_EitherWay_init
theorem sc_EitherWay_init : FnScope ["self", "watcher", "plan", "goal", "part", "way"] ["self", "watcher", "plan", "goal"] (C8.fnScope s_EitherWay_init) := C8.fnScope_by (by decide +kernel)
def sp_einit (CWt WP WK WR WE WL : Addr) (n : Nat) : Sp := fun vs H Q _ => ∃ (N : Addr → Prop) (R dx Wt PA UA : Addr) (us : List V) (ps : List Pl) (lo hi l z : Nat), vs = [.ref R, .ref Wt, .ref PA, nV z] ∧ H R = some (.ins WE dx []) ∧ IsWt H CWt Wt lo hi ∧ lo ≤ hi ∧ hi ≤ 1000 ∧ Below (hi + 2) z ∧
  H PA = some (.tup [.str "either", .ref UA]) ∧ H UA = some (.tup us) ∧ PlAs H us ps ∧ okPs n l ps ∧ ps.length ≤ 20 ∧ (∀ a, N a → H a ≠ none) ∧ ¬ N R ∧ ∀ H' g, Frm R H H' → WayA ⟨WP, WK, WR, WE, WL, Wt, lo, hi⟩ N H' (.ref R) (.either ps) z g → Q .non H'
theorem ok_einit {n : Nat} (T2 : TxtY K WP WK WR WE WL) (T : TxtJ K mg) {f : Addr} {fd : FuncData} (M : Mk K WE f) (hm : mg "EitherWay" = some (.ref WE)) (F : C8.Fun K "__init__" "EitherWay.__init__" s_EitherWay_init f fd) (b : Binds K fd ["self", "watcher", "plan", "goal"] []) (g_way_to : C8.Cal P w K mg base (5 + 3 * n) "way_to" (sp_way CWt WP WK WR WE WL n) []) : C8.Mak P w K mg base (6 + 3 * n) "EitherWay" WE (sp_einit CWt WP WK WR WE WL n) [] := by
  have lv : 6 + 3 * n = (5 + 3 * n) + 1 := by omega
  rw [lv]
  refine C8.mak0 M hm F b .nil sc_EitherWay_init (fun vs H Q E h => ?_) fun cdv A outer s H vs Q E hr h => ?_
  · obtain ⟨N, R, dx, Wt, PA, UA, us, ps, lo, hi, l, z, rfl, _⟩ := h; rfl
  · obtain ⟨N, R, dx, Wt, PA, UA, us, ps, lo, hi, l, z, rfl, hR, ⟨dw, hW⟩, l1, l2, hb, hP, hU, pa, ok, pl, nH, nR, q⟩ := h
    have nd := sc_EitherWay_init.nd
    have nRW : Wt ≠ R := ne_of hW hR (fun z => nomatch z)
    have nRP : PA ≠ R := ne_of hP hR (fun z => nomatch z)
    have nRU : UA ≠ R := ne_of hU hR (fun z => nomatch z)
    have pul := pa.len
    refine ⟨_, (pss_cons (ps_fld (pv 0) (pe_lc (own := [("part", 4)]) (g := gName 4) (tt := tYes) rfl nd (pi_tup (pe_ix (r := rIxT K) ix_tup (pv 2) pe_int (fun _ _ => rfl))) (blkOk_by (N := ["self", "watcher", "plan", "goal", "part", "way"]) (sc := C8.fnScope s_EitherWay___init__) (by decide +kernel)) (fun _ _ _ _ _ => pg_name (i := 4) nd rfl (Or.inl rfl)) (fun _ _ _ _ _ => pts_nil) (fun _ _ _ _ _ => (C8.pe_c g_way_to hr (by first | decide | exact Nat.le_refl _ | omega) (by rfl) (pa_cons (pv 1) (pa_cons (pv 4) (pa_cons (pv 3) pa_nil)))))) rfl)
      (pss_cons (ps_fld (pv 0) pe_int rfl)
      (pss_one (ps_for PassesOwn.never rfl (pi_list (pe_fld (pv 0) rfl)) (pg_name (i := 5) nd rfl (Or.inl rfl)) (pss_one (ps_fld (pv 0) (pe_op (r := rOrB) op_orB (pe_fld (pv 0) rfl) (pe_fld (pv 5) rfl)) rfl)))))), ?_⟩
    walk_at "go"
    refine g_sfld ?_
    walk_at "go"
    refine g_ixT (SqT.of hP) rfl ?_
    refine w_lcTup (xs := us) (SqT.of hU) (fun D i H' => Same H H' ∧ ∃ vs, H' D = some (.lst vs) ∧ WaysE ⟨WP, WK, WR, WE, WL, Wt, lo, hi⟩ (fun a => N a ∨ a = D ∨ a = R) H' vs (ps.take i) z) ?_ ?_ ?_ ?_
    · intro D hD
      exact ⟨same_new hD, [], upd_same, .nil⟩
    · rintro D i H' hD _ ⟨s2, _⟩
      exact SqT.of (s2 _ _ hU)
    · rintro D i v H' hD hv ⟨s2, vs, eD, wr⟩
      obtain ⟨p, hp, pA⟩ := pa.at hv
      have hi' : i < ps.length := (List.getElem?_eq_some_iff.mp hp).1
      walk_at "go"
      refine ⟨rfl, ?_⟩
      walk_at "go"
      refine ⟨Wt, lo, hi, v, p, l, z, rfl, ⟨dw, s2 _ _ hW⟩, l1, l2, PlA_keep (keepT_same s2) _ _ pA, okPs_at ok hp, hb, fun H4 u g4 s4 wa => ?_⟩
      have sub : ∀ a, (N a ∨ a = D ∨ a = R) → H' a ≠ none := fun a ha => by
        rcases ha with ha | rfl | rfl
        · cases hq : H a with
          | none => exact absurd hq (nH a ha)
          | some o => rw [s2 _ _ hq]; exact fun z => nomatch z
        · rw [eD]; exact fun z => nomatch z
        · rw [s2 _ _ hR]; exact fun z => nomatch z
      have w4 := WaysE.snoc (WaysE.same s4 wr) (WayA.mono sub wa)
      have ll := wr.len
      rw [List.length_take] at ll
      refine ⟨vs, s4 _ _ eD, small_lt (by omega), Same.mut (s2.trans s4) hD, vs ++ [u], upd_same, ?_⟩
      rw [take_snoc hp]
      exact WaysE.keep (keepN (.inr (.inl rfl))) w4
    · rintro D H1 hD ⟨s1, vs, eD, wr⟩
      rw [pul, List.take_length] at wr
      have nDR : D ≠ R := fun z => by rw [z, hR] at hD; cases hD
      have nD : ¬ N D := fun z => nH D z hD
      walk_at "go"
      refine ⟨R, WE, dx, _, rfl, s1 _ _ hR, T2.cE, T2.eY, by decide, ?_⟩
      have f2 : Frm R H (upd H1 R (HO.ins WE dx (putF ("ways" : Str) (V.ref D) []))) := (Frm.of s1).trans .set
      have e2 := upd_same (H := H1) (a := R) (o := HO.ins WE dx (putF ("ways" : Str) (V.ref D) []))
      have g2 : upd H1 R (HO.ins WE dx (putF ("ways" : Str) (V.ref D) [])) D = some (.lst vs) := by rw [upd_ne nDR]; exact eD
      have w2 := WaysE.keep (keepN (o := HO.ins WE dx (putF ("ways" : Str) (V.ref D) [])) (.inr (.inr rfl))) wr
      generalize upd H1 R (HO.ins WE dx (putF ("ways" : Str) (V.ref D) [])) = H2 at f2 e2 g2 w2
      walk_at "go"
      refine g_sfld ?_
      walk_at "go"
      refine ⟨R, WE, dx, _, rfl, e2, T2.cE, T2.eG, by show 1 < 1000; decide, ?_⟩
      have f3 : Frm R H (upd H2 R (HO.ins WE dx (putF ("gaps" : Str) (nV 0) (putF ("ways" : Str) (V.ref D) [])))) := f2.trans .set
      have e3 := upd_same (H := H2) (a := R) (o := HO.ins WE dx (putF ("gaps" : Str) (nV 0) (putF ("ways" : Str) (V.ref D) [])))
      have g3 : upd H2 R (HO.ins WE dx (putF ("gaps" : Str) (nV 0) (putF ("ways" : Str) (V.ref D) []))) D = some (.lst vs) := by rw [upd_ne nDR]; exact g2
      have w3 := WaysE.keep (keepN (o := HO.ins WE dx (putF ("gaps" : Str) (nV 0) (putF ("ways" : Str) (V.ref D) []))) (.inr (.inr rfl))) w2
      walk_at "go"
      refine g_fldV rfl e3 T2.cE T2.eY rfl ?_
      generalize upd H2 R (HO.ins WE dx (putF ("gaps" : Str) (nV 0) (putF ("ways" : Str) (V.ref D) []))) = H3 at f3 e3 g3 w3
      have vl := w3.len
      refine w_list (xs := vs) (fun i σ H' => ∃ (g : Nat) (v4 v5 : Option V), σ = [some (.ref R), some (.ref Wt), some (.ref PA), some (nV z), v4, v5] ∧ Frm R H H' ∧ H' R = some (.ins WE dx [("ways", .ref D), ("gaps", nV g)]) ∧ H' D = some (.lst vs) ∧
        WaysE ⟨WP, WK, WR, WE, WL, Wt, lo, hi⟩ (fun a => N a ∨ a = D ∨ a = R) H' vs ps z ∧ Bits hi (LedE lo hi (ps.take i)) z g) ?_ ?_ ?_ ?_
      · exact ⟨0, _, _, rfl, f3, e3, g3, w3, bits_false fun G i x => by rw [List.take_zero] at x; unfold LedE at x; exact x⟩
      · rintro i σ H' _ ⟨g, v4, v5, rfl, f4, e4, g4, w4, bt⟩
        exact SqL.of g4
      · rintro i x σ H' hx ⟨g, v4, v5, rfl, f4, e4, g4, w4, bt⟩
        obtain ⟨p, gp, hp, wa⟩ := w4.at hx
        obtain ⟨R', C', dx', fs', rfl, hR', _, cls', na', lk', _⟩ := WayA.at_ (K := K) T2 wa
        walk_at "go"
        refine g_sfld ?_
        walk_at "go"
        refine g_fldV rfl e4 T2.cE T2.eG rfl ?_
        walk_at "go"
        refine g_fldV rfl hR' cls' na' lk' ?_
        refine ⟨g, gp, rfl, rfl, ?_⟩
        walk_at "go"
        refine ⟨R, WE, dx, _, rfl, e4, T2.cE, T2.eG, by show 2 < 1000; decide, ?_⟩
        refine ⟨g ||| gp, _, _, rfl, f4.trans .set, upd_same, by rw [upd_ne nDR]; exact g4, WaysE.keep (keepN (.inr (.inr rfl))) w4, ?_⟩
        refine bits_iff (bits_or bt wa.bits) fun j _ => ?_
        rw [take_snoc hp]
        exact (LedE_snoc _).symm
      · rintro σ H' ⟨g, v4, v5, rfl, f4, e4, g4, w4, bt⟩
        rw [vl, List.take_length] at bt
        walk_at "go"
        refine q _ g f4 (.either e4 nR g4 nD (WaysE.mono (fun a ha => .inl ha) w4) ?_)
        exact bits_iff bt fun j _ => by unfold Led; exact Iff.rfl
end
end K10
namespace K10
open PySem PySem.Spec PyProof.Rows L2 Wd RT
local macro_rules | `(tactic| walk_at "gs") => `(tactic| repeat (first
  | with_reducible refine Wd.g_seq ?_
  | ((with_reducible show L2.Ends.nx _ _ _); (with_reducible refine Wd.g_nx ?_))
  | with_reducible refine Wd.g_asg ?_
  | ((with_reducible refine' Wd.g_var ?h1 ?_); (case h1 => exact rfl))
  | with_reducible refine Wd.g_c ?_
  | with_reducible refine Wd.g_op ?_
  | with_reducible refine Wd.g_un ?_
  | with_reducible refine Wd.g_I0 ?_
  | with_reducible refine Wd.g_U ?_
  | with_reducible refine Wd.g_eqI ?_
  | with_reducible refine Wd.g_neI ?_
  | with_reducible refine Wd.g_eqS ?_
  | with_reducible refine Wd.g_neS ?_
  | with_reducible refine Wd.g_eqB ?_
  | with_reducible refine Wd.g_neB ?_
  | with_reducible refine Wd.g_isN ?_
  | with_reducible refine Wd.g_notN ?_
  | with_reducible refine Wd.g_lc ?_
  | with_reducible refine Wd.g_yes ?_
  | with_reducible refine Wd.g_test ?_
  | with_reducible refine Wd.g_tB ?_
  | with_reducible refine Wd.g_bl ?_
  | with_reducible refine Wd.g_blI ?_
  | with_reducible refine Wd.g_and ?_
  | with_reducible refine Wd.g_or ?_
  | with_reducible refine Wd.g_not ?_
  | with_reducible refine Wd.g_andV ?_
  | with_reducible refine Wd.g_orV ?_
  | with_reducible refine Wd.g_notV ?_
  | with_reducible refine Wd.g_if ?_
  | with_reducible refine Wd.g_chain ?_
  | with_reducible refine Wd.g_chain3 ?_
  | with_reducible refine Wd.g_nil ?_
  | with_reducible refine Wd.g_cons ?_
  | with_reducible refine Wd.g_tup ?_
  | with_reducible refine Wd.g_lst ?_
  | with_reducible refine Wd.g_CB ?_
  | with_reducible refine Wd.g_call ?_
  | with_reducible refine Wd.g_callS ?_
  | with_reducible refine Wd.g_bm ?_
  | with_reducible refine Wd.g_bm0 ?_
  | with_reducible refine Wd.g_sl ?_
  | with_reducible refine Wd.g_part ?_
  | with_reducible refine Wd.g_part1 ?_
  | with_reducible refine Wd.g_noPart ?_
  | with_reducible refine Wd.g_next ?_
  | with_reducible refine Wd.g_name ?_
  | with_reducible refine Wd.g_sub ?_
  | with_reducible refine Wd.g_gnil ?_
  | with_reducible refine Wd.g_gcons ?_
  | with_reducible refine Wd.g_drop ?_
  | with_reducible refine Wd.g_ret ?_
  | with_reducible refine Wd.g_retN ?_
  | with_reducible refine Wd.g_brk ?_
  | with_reducible refine Wd.g_cont ?_
  | ((with_reducible show L2.Ends.bk _ _ _); (with_reducible refine Wd.g_bk ?_))
  | ((with_reducible show L2.Ends.ct _ _ _); (with_reducible refine Wd.g_ct ?_))
  | ((with_reducible show L2.Ends.rt _ _ _); (with_reducible refine Wd.g_rt ?_))
  | with_reducible refine Wd.g_for ?_
  | with_reducible refine Wd.g_rng1 ?_
  | with_reducible refine Wd.g_rng2 ?_
  | with_reducible refine Wd.g_iList ?_
  | with_reducible refine Wd.g_iTup ?_
  | ((with_reducible refine Wd.g_fit ?h1 ?_); (case h1 => exact rfl))
  | with_reducible refine Wd.g_max2 ?_
  | with_reducible refine Wd.g_min2 ?_
  | with_reducible refine Wd.g_int1B ?_
  | with_reducible refine L2.iteT ?_
  | with_reducible refine L2.iteF ?_
  | ((with_reducible refine Wd.g_itT ?h1 ?_); (case h1 => exact rfl))
  | ((with_reducible refine Wd.g_itF ?h1 ?_); (case h1 => exact rfl))))
theorem atI_back {xs : List V} {v : V} (h : xs[xs.length - 1]? = some v) : atI xs (-1) = some v := by
  have hp : 0 < xs.length := by
    rcases Nat.eq_zero_or_pos xs.length with e | e
    · have : xs = [] := List.length_eq_zero_iff.mp e
      subst this; cases h
    · exact e
  obtain ⟨ys, y, rfl⟩ : ∃ ys y, xs = ys ++ [y] := ⟨xs.dropLast, xs.getLast (List.length_pos_iff.mp hp), (List.dropLast_concat_getLast _).symm⟩
  rw [List.length_append, List.length_singleton, Nat.add_sub_cancel, List.getElem?_append_right (Nat.le_refl _), Nat.sub_self] at h
  cases h
  exact atI_last _ _

theorem cut_from {α : Type} (l : List α) (f : α → V) {a : Nat} (ha : a ≤ l.length) : cutV (l.map f) (some (a : Int)) none = (l.drop a).map f := by
  unfold cutV
  rw [HT.sIx_nat, HT.sIx_none, List.length_map, Nat.min_eq_left ha, ← List.map_drop, List.take_of_length_le (by rw [List.length_map, List.length_drop]; exact Nat.le_refl _)]
theorem atN {zs : List Nat} {i g : Nat} {n : Int} (e : n = i) (h : zs[i]? = some g) : atI (zs.map nV) n = some (nV g) := by
  subst e
  exact at_of (j := i) (by omega) (by rw [List.getElem?_map, h]; rfl)
theorem WaysL.len {Y : Wy} {N : Addr → Prop} {H : Hp} : ∀ {ts : List V} {p : Pl} {z : Nat} {zs : List Nat}, WaysL Y N H ts p z zs → zs.length = ts.length + 1
  | _, _, _, _, .nil => rfl
  | _, _, _, _, .snoc a b => by rw [List.length_append, WaysL.len a, List.length_append]; rfl
theorem WaysL.last {Y : Wy} {N : Addr → Prop} {H : Hp} {ts : List V} {p : Pl} {z : Nat} {zs : List Nat} (h : WaysL Y N H ts p z zs) :
    (ts = [] ∧ zs = [z]) ∨ ∃ (ts' : List V) (v : V) (zs' : List Nat) (g g2 : Nat), ts = ts' ++ [v] ∧ zs = zs' ++ [g] ++ [g2] ∧ WaysL Y N H ts' p z (zs' ++ [g]) ∧ WayA Y N H v p g g2 := by
  cases h with
  | nil => exact .inl ⟨rfl, rfl⟩
  | snoc a b => exact .inr ⟨_, _, _, _, _, rfl, rfl, a, b⟩
theorem g_andE {c : Prop} [Decidable c] {t : TT} {σ : L2.St} {H : Hp} {A B : Hp → Prop} (hB : B H) (h : c → B H → t σ H fun b H1 => if b = true then A H1 else B H1) : if decide c = true then (t σ H fun b H1 => if b = true then A H1 else B H1) else B H := by
  by_cases x : c
  · rw [if_pos (decide_eq_true x)]; exact h x hB
  · rw [if_neg (by rw [decide_eq_false x]; exact Bool.false_ne_true)]; exact hB
/-- the goals of more turns -/
theorem WaysL.bits {Y : Wy} {N : Addr → Prop} {H : Hp} : ∀ {ts : List V} {p : Pl} {z : Nat} {zs : List Nat}, WaysL Y N H ts p z zs → Below (Y.hi + 2) z → ∀ {n g : Nat}, zs[n]? = some g → Bits Y.hi (iterP (Led Y.lo Y.hi p) n) z g
  | _, _, z, _, .nil, hb, n, g, e => by
    match n, e with
    | 0, e =>
      obtain rfl : z = g := Option.some.inj e
      exact ⟨hb, fun i _ => Iff.rfl⟩
  | _, p, z, _, .snoc (ts := ts) (zs := zs) (g := g1) (g2 := g2) a b, hb, n, g, e => by
    by_cases c : n < (zs ++ [g1]).length
    · rw [List.getElem?_append_left c] at e
      exact WaysL.bits a hb e
    · have c2 : n < (zs ++ [g1] ++ [g2]).length := (List.getElem?_eq_some_iff.mp e).1
      have en : n = (zs ++ [g1]).length := by rw [List.length_append (bs := [g2]), List.length_singleton] at c2; omega
      subst en
      rw [List.getElem?_concat_length] at e
      obtain rfl : g2 = g := Option.some.inj e
      have b1 := WaysL.bits a hb (n := zs.length) (g := g1) List.getElem?_concat_length
      rw [List.length_append, List.length_singleton]
      refine ⟨b.bits.low, fun i hi' => (b.bits.bit i hi').trans ?_⟩
      show Led Y.lo Y.hi p (inS g1) i ↔ Led Y.lo Y.hi p (iterP (Led Y.lo Y.hi p) zs.length (inS z)) i
      exact ⟨Led.congr p (fun j hj x => (b1.bit j hj).mp x) i hi', Led.congr p (fun j hj x => (b1.bit j hj).mpr x) i hi'⟩
section
variable {P : Program} {w : World} {K : PySem.W.Frag} {mg : Str → Option Value} {base : Heap} {CWt WP WK WR WE WL : Addr}
abbrev s_LoopWay_init : Stmt := (C8.clsBody (top 45)).getD 0 (.Pass ⟨0, 0, 0, 0⟩)
abbrev s_LoopWay___init__ : Stmt := s_LoopWay_init
theorem sc_LoopWay_init : FnScope ["self", "watcher", "plan", "goal", "turn", "way", "gaps"] ["self", "watcher", "plan", "goal"] (C8.fnScope s_LoopWay_init) := C8.fnScope_by (by decide +kernel)
def sp_linit (CWt WP WK WR WE WL : Addr) (n : Nat) : Sp := fun vs H Q _ => ∃ (N : Addr → Prop) (R dx Wt PA : Addr) (v : V) (p : Pl) (lo hi l z a b : Nat), vs = [.ref R, .ref Wt, .ref PA, nV z] ∧ H R = some (.ins WL dx []) ∧ IsWt H CWt Wt lo hi ∧ lo ≤ hi ∧ hi ≤ 1000 ∧ Below (hi + 2) z ∧
  H PA = some (.tup [.str "loop", nV a, nV b, v]) ∧ PlA H v p ∧ okP n l p ∧ a ≤ b ∧ b ≤ 9 ∧ (∀ a, N a → H a ≠ none) ∧ ¬ N R ∧ ∀ H' g, Frm R H H' → WayA ⟨WP, WK, WR, WE, WL, Wt, lo, hi⟩ N H' (.ref R) (.loop a b p) z g → Q .non H'
theorem ok_linit {n : Nat} (T2 : TxtY K WP WK WR WE WL) (T : TxtJ K mg) {f : Addr} {fd : FuncData} (M : Mk K WL f) (hm : mg "LoopWay" = some (.ref WL)) (F : C8.Fun K "__init__" "LoopWay.__init__" s_LoopWay_init f fd) (b : Binds K fd ["self", "watcher", "plan", "goal"] []) (g_way_to : C8.Cal P w K mg base (5 + 3 * n) "way_to" (sp_way CWt WP WK WR WE WL n) []) : C8.Mak P w K mg base (6 + 3 * n) "LoopWay" WL (sp_linit CWt WP WK WR WE WL n) [] := by
  have lv : 6 + 3 * n = (5 + 3 * n) + 1 := by omega
  rw [lv]
  refine C8.mak0 M hm F b .nil sc_LoopWay_init (fun vs H Q E h => ?_) fun cdv A outer s H vs Q E hr h => ?_
  · obtain ⟨N, R, dx, Wt, PA, v, p, lo, hi, l, z, a, b, rfl, _⟩ := h; rfl
  · obtain ⟨N, R, dx, Wt, PA, v, p, lo, hi, l, z, a, b, rfl, hR, ⟨dw, hW⟩, l1, l2, hb, hP, pA, ok, ab, b9, nH, nR, q⟩ := h
    have nd := sc_LoopWay_init.nd
    have nRW : Wt ≠ R := ne_of hW hR (fun z => nomatch z)
    have nRP : PA ≠ R := ne_of hP hR (fun z => nomatch z)
    refine ⟨_, (pss_cons (ps_fld (pv 0) (pe_ix (r := rIxT K) ix_tup (pv 2) pe_int (fun _ _ => rfl)) rfl)
      (pss_cons (ps_fld (pv 0) (pe_lst pa_nil) rfl)
      (pss_cons (ps_fld (pv 0) (pe_lst (pa_cons (pv 3) pa_nil)) rfl)
      (pss_cons (ps_for PassesOwn.never rfl (pi_range1 rfl T.n_range (pa_cons (pe_ix (r := rIxT K) ix_tup (pv 2) pe_int (fun _ _ => rfl)) pa_nil)) (pg_name (i := 4) nd rfl (Or.inl rfl)) (pss_cons (ps_if (PW.pt (pw_and (pt_cmpR op_gt (pv 4) pe_int (nomark _)) (pw_and1 (pt_cmpR op_eq (pe_ix (r := rIxL K) ix_list (pe_fld (pv 0) rfl) (pv 4) (fun _ _ => rfl)) (pe_ix (r := rIxL K) ix_list (pe_fld (pv 0) rfl) (pe_op op_sub (pv 4) pe_int) (fun _ _ => rfl)) (nomark _))))) (pss_one (ps_set (i := 5) nd rfl (Or.inl rfl) (pe_ix (r := rIxL K) ix_list (pe_fld (pv 0) rfl) (pe_un un_neg pe_int) (fun _ _ => rfl)))) (pss_one (ps_set (i := 5) nd rfl (Or.inl rfl) (C8.pe_c g_way_to hr (by first | decide | exact Nat.le_refl _ | omega) (by rfl) (pa_cons (pv 1) (pa_cons (pe_ix (r := rIxT K) ix_tup (pv 2) pe_int (fun _ _ => rfl)) (pa_cons (pe_ix (r := rIxL K) ix_list (pe_fld (pv 0) rfl) (pv 4) (fun _ _ => rfl)) pa_nil)))))))
      (pss_cons (ps_expr (pe_bmK (K := K) rfl PySem.F.plainAttrs_list PySem.F.slot_list_append PySem.F.type_list_append mt_append (pe_fld (pv 0) rfl) (pa_cons (pv 5) pa_nil)))
      (pss_one (ps_expr (pe_bmK (K := K) rfl PySem.F.plainAttrs_list PySem.F.slot_list_append PySem.F.type_list_append mt_append (pe_fld (pv 0) rfl) (pa_cons (pe_fld (pv 5) rfl) pa_nil)))))))
      (pss_cons (ps_fld (pv 0) pe_int rfl)
      (pss_one (ps_for PassesOwn.never rfl (pi_list (pe_slice (r := rSlL K) sl_list (pe_fld (pv 0) rfl) (po_some (pe_fld (pv 0) rfl)) po_none)) (pg_name (i := 6) nd rfl (Or.inl rfl)) (pss_one (ps_fld (pv 0) (pe_op (r := rOrB) op_orB (pe_fld (pv 0) rfl) (pv 6)) rfl))))))))), ?_⟩
    walk_at "gs"
    refine g_sfld ?_
    walk_at "gs"
    refine g_ixT (SqT.of hP) rfl ?_
    walk_at "gs"
    refine ⟨R, WL, dx, _, rfl, hR, T2.cL, T2.lL, by decide, ?_⟩
    have f1 : Frm R H (upd H R (HO.ins WL dx (putF ("least" : Str) (nV a) []))) := .set
    have e1 := upd_same (H := H) (a := R) (o := HO.ins WL dx (putF ("least" : Str) (nV a) []))
    generalize upd H R (HO.ins WL dx (putF ("least" : Str) (nV a) [])) = H1 at f1 e1
    walk_at "gs"
    refine g_sfld ?_
    walk_at "gs"
    intro TT hT
    have sT := same_new (o := .lst []) hT
    have eT := upd_same (H := H1) (a := TT) (o := .lst [])
    have nTR : TT ≠ R := fun z => by rw [z, e1] at hT; cases hT
    have nNT : ¬ N TT := fun z => by
      cases hq : H TT with
      | none => exact nH TT z hq
      | some o => rw [f1 _ _ nTR hq] at hT; cases hT
    have f2 := f1.trans (.of sT)
    have e2 := sT _ _ e1
    generalize upd H1 TT (.lst []) = H2 at sT eT f2 e2
    walk_at "gs"
    refine ⟨R, WL, dx, _, rfl, e2, T2.cL, T2.lT, by show 1 < 1000; decide, ?_⟩
    have f3 := f2.trans (.set (o := HO.ins WL dx (putF ("turns" : Str) (V.ref TT) (putF ("least" : Str) (nV a) []))))
    have e3 := upd_same (H := H2) (a := R) (o := HO.ins WL dx (putF ("turns" : Str) (V.ref TT) (putF ("least" : Str) (nV a) [])))
    have t3 : upd H2 R (HO.ins WL dx (putF ("turns" : Str) (V.ref TT) (putF ("least" : Str) (nV a) []))) TT = some (.lst []) := by rw [upd_ne nTR]; exact eT
    generalize upd H2 R (HO.ins WL dx (putF ("turns" : Str) (V.ref TT) (putF ("least" : Str) (nV a) []))) = H3 at f3 e3 t3
    walk_at "gs"
    refine g_sfld ?_
    walk_at "gs"
    intro O hO
    have sO := same_new (o := .lst [nV z]) hO
    have eO := upd_same (H := H3) (a := O) (o := .lst [nV z])
    have nOR : O ≠ R := fun z => by rw [z, e3] at hO; cases hO
    have nOT : O ≠ TT := fun z => by rw [z, t3] at hO; cases hO
    have nNO : ¬ N O := fun z => by
      cases hq : H O with
      | none => exact nH O z hq
      | some o => rw [f3 _ _ nOR hq] at hO; cases hO
    have f4 := f3.trans (.of sO)
    have e4 := sO _ _ e3
    have t4 := sO _ _ t3
    generalize upd H3 O (.lst [nV z]) = H4 at sO eO f4 e4 t4
    walk_at "gs"
    refine ⟨R, WL, dx, _, rfl, e4, T2.cL, T2.lO, by show 2 < 1000; decide, ?_⟩
    have f5 := f4.trans (.set (o := HO.ins WL dx (putF ("goals" : Str) (V.ref O) (putF ("turns" : Str) (V.ref TT) (putF ("least" : Str) (nV a) [])))))
    have e5 := upd_same (H := H4) (a := R) (o := HO.ins WL dx (putF ("goals" : Str) (V.ref O) (putF ("turns" : Str) (V.ref TT) (putF ("least" : Str) (nV a) []))))
    have t5 : upd H4 R (HO.ins WL dx (putF ("goals" : Str) (V.ref O) (putF ("turns" : Str) (V.ref TT) (putF ("least" : Str) (nV a) [])))) TT = some (.lst []) := by rw [upd_ne nTR]; exact t4
    have o5 : upd H4 R (HO.ins WL dx (putF ("goals" : Str) (V.ref O) (putF ("turns" : Str) (V.ref TT) (putF ("least" : Str) (nV a) [])))) O = some (.lst [nV z]) := by rw [upd_ne nOR]; exact eO
    generalize upd H4 R (HO.ins WL dx (putF ("goals" : Str) (V.ref O) (putF ("turns" : Str) (V.ref TT) (putF ("least" : Str) (nV a) [])))) = H5 at f5 e5 t5 o5
    walk_at "gs"
    refine g_ixT (SqT.of (f5 _ _ nRP hP)) rfl ?_
    walk_at "gs"
    refine w_range (by omega) (by omega) (fun i σ H' => ∃ (ts : List V) (zs : List Nat) (g : Nat) (v4 v5 v6 : Option V), σ = [some (.ref R), some (.ref Wt), some (.ref PA), some (nV z), v4, v5, v6] ∧ Frm R H H' ∧ H' R = some (.ins WL dx [("least", nV a), ("turns", .ref TT), ("goals", .ref O)]) ∧
      H' TT = some (.lst ts) ∧ H' O = some (.lst ((zs ++ [g]).map nV)) ∧ ts.length = i ∧ WaysL ⟨WP, WK, WR, WE, WL, Wt, lo, hi⟩ (fun a => N a ∨ a = TT ∨ a = O ∨ a = R) H' ts p z (zs ++ [g]) ∧ Below (hi + 2) g) ?_ ?_ ?_
    · exact ⟨[], [], z, _, _, _, rfl, f5, e5, t5, o5, rfl, .nil, hb⟩
    · rintro i σ H' hi' ⟨ts, zs, g, v4, v5, v6, rfl, f6, e6, t6, o6, tl, wl, bg⟩
      walk_at "gs"
      have zl := wl.len
      rw [List.length_append, List.length_singleton] at zl
      refine g_join (fun σ H7 => ∃ (u : V) (g2 : Nat) (v4 v6 : Option V), σ = [some (.ref R), some (.ref Wt), some (.ref PA), some (nV z), v4, some u, v6] ∧ Frm R H H7 ∧ H7 R = some (.ins WL dx [("least", nV a), ("turns", .ref TT), ("goals", .ref O)]) ∧
        H7 TT = some (.lst ts) ∧ H7 O = some (.lst ((zs ++ [g]).map nV)) ∧ WaysL ⟨WP, WK, WR, WE, WL, Wt, lo, hi⟩ (fun a => N a ∨ a = TT ∨ a = O ∨ a = R) H7 ts p z (zs ++ [g]) ∧ WayA ⟨WP, WK, WR, WE, WL, Wt, lo, hi⟩ (fun a => N a ∨ a = TT ∨ a = O ∨ a = R) H7 u p g g2) ?_ ?_
      case refine_2 =>
        intro N' hk
        walk_at "go"
        refine g_andE ?_ fun c0 hB => ?_
        · walk_at "go"
          refine g_ixT (SqT.of (f6 _ _ nRP hP)) rfl ?_
          walk_at "go"
          refine g_fldV rfl e6 T2.cL T2.lO rfl ?_
          walk_at "go"
          refine g_ixL (SqL.of o6) (atN (i := zs.length) (by omega) List.getElem?_concat_length) ?_
          walk_at "go"
          refine ⟨Wt, lo, hi, v, p, l, g, rfl, ⟨dw, f6 _ _ nRW hW⟩, l1, l2, PlA_keep (fun b xs h => f6 _ _ (ne_of h hR (fun z => nomatch z)) h) _ _ pA, ok, bg, fun H8 u g2 s8 wa => ?_⟩
          walk_at "go"
          have sub : ∀ a, (N a ∨ a = TT ∨ a = O ∨ a = R) → H' a ≠ none := fun a ha => by
            rcases ha with ha | rfl | rfl | rfl
            · by_cases c : a = R
              · exact absurd (c ▸ ha) nR
              · cases hq : H a with
                | none => exact absurd hq (nH a ha)
                | some o => rw [f6 _ _ c hq]; exact fun z => nomatch z
            · rw [t6]; exact fun z => nomatch z
            · rw [o6]; exact fun z => nomatch z
            · rw [e6]; exact fun z => nomatch z
          exact hk _ _ ⟨u, g2, _, _, rfl, fun b o n h => s8 _ _ (f6 b o n h), s8 _ _ e6, s8 _ _ t6, s8 _ _ o6, WaysL.same s8 wl, WayA.mono sub wa⟩
        · rcases wl.last with ⟨e1, _⟩ | ⟨ts', u, zs', g', g'', et, ez, wl', wa⟩
          · rw [e1, List.length_nil] at tl; omega
          obtain ⟨ey, eg⟩ := List.append_inj' ez rfl
          obtain rfl : g = g'' := (List.cons.inj eg).1
          walk_at "go"
          refine g_fldV rfl e6 T2.cL T2.lO rfl ?_
          walk_at "go"
          refine g_ixL (SqL.of o6) (atN (i := zs.length) (by omega) List.getElem?_concat_length) ?_
          walk_at "go"
          refine g_fldV rfl e6 T2.cL T2.lO rfl ?_
          walk_at "go"
          have zl' : zs.length = zs'.length + 1 := by rw [ey, List.length_append]; rfl
          refine g_ixL (SqL.of o6) (atN (i := zs'.length) (g := g') (by omega) (by rw [ey, List.append_assoc, List.getElem?_append_right (Nat.le_refl _), Nat.sub_self]; rfl)) ?_
          walk_at "go"
          by_cases c : g = g'
          · rw [if_pos (decide_eq_true (by rw [c]))]
            walk_at "go"
            refine g_fldV rfl e6 T2.cL T2.lT rfl ?_
            walk_at "go"
            refine g_ixL (SqL.of t6) (atI_back (v := u) (by rw [et, List.length_append, List.length_singleton, Nat.add_sub_cancel]; exact List.getElem?_concat_length)) ?_
            walk_at "go"
            exact hk _ _ ⟨u, g, _, _, rfl, f6, e6, t6, o6, wl, by rw [← c] at wa; exact wa⟩
          · rw [if_neg (by rw [decide_eq_false (by omega)]; exact Bool.false_ne_true)]
            exact hB
      case refine_1 =>
        rintro σ H7 ⟨u, g2, v4, v6, rfl, f7, e7, t7, o7, wl7, wa⟩
        walk_at "go"
        refine g_fldV rfl e7 T2.cL T2.lT rfl ?_
        walk_at "go"
        refine g_tyL t7 ?_
        walk_at "go"
        refine g_append t7 (by omega) ?_
        have f8 : Frm R H (upd H7 TT (.lst (ts ++ [u]))) := fun b o n h => by
          rw [upd_ne (fun y => by rw [y] at h n; rw [f1 _ _ n h] at hT; cases hT)]; exact f7 b o n h
        have e8 : upd H7 TT (.lst (ts ++ [u])) R = some (.ins WL dx [("least", nV a), ("turns", .ref TT), ("goals", .ref O)]) := by rw [upd_ne nTR.symm]; exact e7
        have t8 := upd_same (H := H7) (a := TT) (o := .lst (ts ++ [u]))
        have o8 : upd H7 TT (.lst (ts ++ [u])) O = some (.lst ((zs ++ [g]).map nV)) := by rw [upd_ne nOT]; exact o7
        have wl8 := WaysL.keep (keepN (o := .lst (ts ++ [u])) (.inr (.inl rfl))) wl7
        have wa8 := WayA.keep (keepN (o := .lst (ts ++ [u])) (.inr (.inl rfl))) wa
        generalize upd H7 TT (.lst (ts ++ [u])) = H8 at f8 e8 t8 o8 wl8 wa8
        walk_at "go"
        refine g_fldV rfl e8 T2.cL T2.lO rfl ?_
        walk_at "go"
        refine g_tyL o8 ?_
        obtain ⟨R', C', dx', fs', rfl, hR', _, cls', na', lk', _⟩ := WayA.at_ (K := K) T2 wa8
        walk_at "go"
        refine g_fldV rfl hR' cls' na' lk' ?_
        walk_at "go"
        refine g_append o8 (by rw [List.length_map, List.length_append, List.length_singleton]; omega) ?_
        have eq : (zs ++ [g]).map nV ++ [nV g2] = (zs ++ [g] ++ [g2]).map nV := by rw [List.map_append (l₂ := [g2])]; rfl
        rw [eq]
        walk_at "go"
        refine ⟨ts ++ [.ref R'], zs ++ [g], g2, _, _, _, rfl, fun b o n h => ?_, by rw [upd_ne nOR.symm]; exact e8, by rw [upd_ne nOT.symm]; exact t8, upd_same, by rw [List.length_append, tl]; rfl, ?_, wa.bits.low⟩
        · rw [upd_ne (fun y => by rw [y] at h n; rw [f3 _ _ n h] at hO; cases hO)]; exact f8 b o n h
        · exact WaysL.keep (keepN (.inr (.inr (.inl rfl)))) (.snoc wl8 wa8)
    · rintro σ H6 ⟨ts, zs, g, v4, v5, v6, rfl, f6, e6, t6, o6, tl, wl, bg⟩
      have zl := wl.len
      walk_at "go"
      refine g_sfld ?_
      walk_at "go"
      refine ⟨R, WL, dx, _, rfl, e6, T2.cL, T2.lG, by show 3 < 1000; decide, ?_⟩
      have f7 : Frm R H (upd H6 R (HO.ins WL dx (putF ("gaps" : Str) (nV 0) [("least", nV a), ("turns", .ref TT), ("goals", .ref O)]))) := f6.trans .set
      have e7 := upd_same (H := H6) (a := R) (o := HO.ins WL dx (putF ("gaps" : Str) (nV 0) [("least", nV a), ("turns", .ref TT), ("goals", .ref O)]))
      have t7 : upd H6 R (HO.ins WL dx (putF ("gaps" : Str) (nV 0) [("least", nV a), ("turns", .ref TT), ("goals", .ref O)])) TT = some (.lst ts) := by rw [upd_ne nTR]; exact t6
      have o7 : upd H6 R (HO.ins WL dx (putF ("gaps" : Str) (nV 0) [("least", nV a), ("turns", .ref TT), ("goals", .ref O)])) O = some (.lst ((zs ++ [g]).map nV)) := by rw [upd_ne nOR]; exact o6
      have w7 := WaysL.keep (keepN (o := HO.ins WL dx (putF ("gaps" : Str) (nV 0) [("least", nV a), ("turns", .ref TT), ("goals", .ref O)])) (.inr (.inr (.inr rfl)))) wl
      generalize upd H6 R (HO.ins WL dx (putF ("gaps" : Str) (nV 0) [("least", nV a), ("turns", .ref TT), ("goals", .ref O)])) = H7 at f7 e7 t7 o7 w7
      walk_at "go"
      refine g_fldV rfl e7 T2.cL T2.lO rfl ?_
      walk_at "go"
      refine g_fldV rfl e7 T2.cL T2.lL rfl ?_
      walk_at "go"
      have tb : ts.length = b := by omega
      refine g_slL (SqL.of o7) fun S hS => ?_
      rw [cut_from _ _ (by omega)]
      have sS := same_new (o := .lst (((zs ++ [g]).drop a).map nV)) hS
      have eS := upd_same (H := H7) (a := S) (o := .lst (((zs ++ [g]).drop a).map nV))
      have nSR : S ≠ R := fun z => by rw [z, e7] at hS; cases hS
      have f8 := f7.trans (.of sS)
      have e8 := sS _ _ e7
      have t8 := sS _ _ t7
      have o8 := sS _ _ o7
      have w8 := WaysL.same sS w7
      generalize upd H7 S (.lst (((zs ++ [g]).drop a).map nV)) = H8 at sS eS f8 e8 t8 o8 w8
      refine w_list (xs := ((zs ++ [g]).drop a).map nV) (fun i σ H' => ∃ (gg : Nat) (v4 v5 v6 : Option V), σ = [some (.ref R), some (.ref Wt), some (.ref PA), some (nV z), v4, v5, v6] ∧ Frm R H H' ∧ H' R = some (.ins WL dx [("least", nV a), ("turns", .ref TT), ("goals", .ref O), ("gaps", nV gg)]) ∧
        H' TT = some (.lst ts) ∧ H' O = some (.lst ((zs ++ [g]).map nV)) ∧ H' S = some (.lst (((zs ++ [g]).drop a).map nV)) ∧ WaysL ⟨WP, WK, WR, WE, WL, Wt, lo, hi⟩ (fun a => N a ∨ a = TT ∨ a = O ∨ a = R) H' ts p z (zs ++ [g]) ∧ Bits hi (fun G j => ∃ n : Nat, a ≤ n ∧ n < a + i ∧ iterP (Led lo hi p) n G j) z gg) ?_ ?_ ?_ ?_
      · exact ⟨0, _, _, _, rfl, f8, e8, t8, o8, eS, w8, bits_false fun G i ⟨n, h1, h2, _⟩ => by omega⟩
      · rintro i σ H' _ ⟨gg, v4, v5, v6, rfl, f9, e9, t9, o9, s9, w9, bt⟩
        exact SqL.of s9
      · rintro i x σ H' hx ⟨gg, v4, v5, v6, rfl, f9, e9, t9, o9, s9, w9, bt⟩
        obtain ⟨gi, hgi, rfl⟩ : ∃ gi, (zs ++ [g])[a + i]? = some gi ∧ x = nV gi := by
          rw [List.getElem?_map, List.getElem?_drop] at hx
          cases hq : (zs ++ [g])[a + i]? with
          | none => rw [hq] at hx; cases hx
          | some y => rw [hq] at hx; exact ⟨y, rfl, (Option.some.inj hx).symm⟩
        have bi := WaysL.bits w9 hb hgi
        walk_at "go"
        refine g_sfld ?_
        walk_at "go"
        refine g_fldV rfl e9 T2.cL T2.lG rfl ?_
        walk_at "go"
        refine ⟨gg, gi, rfl, rfl, ?_⟩
        walk_at "go"
        refine ⟨R, WL, dx, _, rfl, e9, T2.cL, T2.lG, by show 4 < 1000; decide, ?_⟩
        refine ⟨gg ||| gi, _, _, _, rfl, f9.trans .set, upd_same, by rw [upd_ne nTR]; exact t9, by rw [upd_ne nOR]; exact o9, by rw [upd_ne nSR]; exact s9, WaysL.keep (keepN (.inr (.inr (.inr rfl)))) w9, ?_⟩
        refine bits_iff (bits_or bt bi) fun j _ => ?_
        constructor
        · rintro (⟨n, h1, h2, h3⟩ | h3)
          · exact ⟨n, h1, by omega, h3⟩
          · exact ⟨a + i, by omega, by omega, h3⟩
        · rintro ⟨n, h1, h2, h3⟩
          by_cases c : n = a + i
          · exact .inr (c ▸ h3)
          · exact .inl ⟨n, h1, by omega, h3⟩
      · rintro σ H' ⟨gg, v4, v5, v6, rfl, f9, e9, t9, o9, s9, w9, bt⟩
        walk_at "go"
        refine q _ gg f9 (.loop e9 nR t9 nNT o9 nNO (WaysL.mono (fun a ha => .inl ha) w9) tb ?_)
        refine bits_iff bt fun j _ => ?_
        unfold Led
        rw [List.length_map, List.length_drop]
        exact ⟨fun ⟨n, h1, h2, h3⟩ => ⟨n, by omega, by omega, h3⟩, fun ⟨n, h1, h2, h3⟩ => ⟨n, by omega, by omega, h3⟩⟩
end
end K10
namespace K10
open PySem PySem.Spec PyProof.Rows L2 Wd RT
local macro_rules | `(tactic| walk_at "gs") => `(tactic| repeat (first
  | with_reducible refine Wd.g_seq ?_
  | ((with_reducible show L2.Ends.nx _ _ _); (with_reducible refine Wd.g_nx ?_))
  | with_reducible refine Wd.g_asg ?_
  | ((with_reducible refine' Wd.g_var ?h1 ?_); (case h1 => exact rfl))
  | with_reducible refine Wd.g_c ?_
  | with_reducible refine Wd.g_op ?_
  | with_reducible refine Wd.g_un ?_
  | with_reducible refine Wd.g_I0 ?_
  | with_reducible refine Wd.g_U ?_
  | with_reducible refine Wd.g_eqI ?_
  | with_reducible refine Wd.g_neI ?_
  | with_reducible refine Wd.g_eqS ?_
  | with_reducible refine Wd.g_neS ?_
  | with_reducible refine Wd.g_eqB ?_
  | with_reducible refine Wd.g_neB ?_
  | with_reducible refine Wd.g_isN ?_
  | with_reducible refine Wd.g_notN ?_
  | with_reducible refine Wd.g_lc ?_
  | with_reducible refine Wd.g_yes ?_
  | with_reducible refine Wd.g_test ?_
  | with_reducible refine Wd.g_tB ?_
  | with_reducible refine Wd.g_bl ?_
  | with_reducible refine Wd.g_blI ?_
  | with_reducible refine Wd.g_and ?_
  | with_reducible refine Wd.g_or ?_
  | with_reducible refine Wd.g_not ?_
  | with_reducible refine Wd.g_andV ?_
  | with_reducible refine Wd.g_orV ?_
  | with_reducible refine Wd.g_notV ?_
  | with_reducible refine Wd.g_if ?_
  | with_reducible refine Wd.g_chain ?_
  | with_reducible refine Wd.g_chain3 ?_
  | with_reducible refine Wd.g_nil ?_
  | with_reducible refine Wd.g_cons ?_
  | with_reducible refine Wd.g_tup ?_
  | with_reducible refine Wd.g_lst ?_
  | with_reducible refine Wd.g_CB ?_
  | with_reducible refine Wd.g_call ?_
  | with_reducible refine Wd.g_callS ?_
  | with_reducible refine Wd.g_bm ?_
  | with_reducible refine Wd.g_bm0 ?_
  | with_reducible refine Wd.g_sl ?_
  | with_reducible refine Wd.g_part ?_
  | with_reducible refine Wd.g_part1 ?_
  | with_reducible refine Wd.g_noPart ?_
  | with_reducible refine Wd.g_next ?_
  | with_reducible refine Wd.g_name ?_
  | with_reducible refine Wd.g_sub ?_
  | with_reducible refine Wd.g_gnil ?_
  | with_reducible refine Wd.g_gcons ?_
  | with_reducible refine Wd.g_drop ?_
  | with_reducible refine Wd.g_ret ?_
  | with_reducible refine Wd.g_retN ?_
  | with_reducible refine Wd.g_brk ?_
  | with_reducible refine Wd.g_cont ?_
  | ((with_reducible show L2.Ends.bk _ _ _); (with_reducible refine Wd.g_bk ?_))
  | ((with_reducible show L2.Ends.ct _ _ _); (with_reducible refine Wd.g_ct ?_))
  | ((with_reducible show L2.Ends.rt _ _ _); (with_reducible refine Wd.g_rt ?_))
  | with_reducible refine Wd.g_for ?_
  | with_reducible refine Wd.g_rng1 ?_
  | with_reducible refine Wd.g_rng2 ?_
  | with_reducible refine Wd.g_iList ?_
  | with_reducible refine Wd.g_iTup ?_
  | ((with_reducible refine Wd.g_fit ?h1 ?_); (case h1 => exact rfl))
  | with_reducible refine Wd.g_max2 ?_
  | with_reducible refine Wd.g_min2 ?_
  | with_reducible refine Wd.g_int1B ?_
  | with_reducible refine L2.iteT ?_
  | with_reducible refine L2.iteF ?_
  | ((with_reducible refine Wd.g_itT ?h1 ?_); (case h1 => exact rfl))
  | ((with_reducible refine Wd.g_itF ?h1 ?_); (case h1 => exact rfl))))
theorem preP_bits {lo hi z : Nat} (h : lo ≤ hi) : Bits hi (Led lo hi .pat) z (preP lo hi z) :=
  ⟨fun i hi' => by have := ((preP_bit h).mp hi').1; omega, fun i hi' => by
    unfold Led
    exact ⟨fun y => ((preP_bit h).mp y).2, fun y => (preP_bit h).mpr ⟨hi', y⟩⟩⟩
theorem g_make {C : Addr} {sp : Sp} {dvs : List V} {E : XK} {t : TA} {σ : L2.St} {H : Hp} {Q : VK} (h : t σ H fun vs H1 => ∀ x dx, H1 x = none → H1 dx = none → dx ≠ x → sp (.ref x :: (vs ++ dvs)) (upd (upd H1 dx (.own x)) x (.ins C dx [])) (fun v H2 => v = .non ∧ Q (.ref x) H2) E) : tMake C sp dvs E t σ H Q := h
/-- a new thing's addresses -/
theorem made {H : Hp} {x dx C : Addr} (hx : H x = none) (hd : H dx = none) (n : dx ≠ x) : ∃ G, upd (upd H dx (.own x)) x (.ins C dx []) = G ∧ Same H G ∧ G x = some (.ins C dx []) ∧ (∀ H', Frm x G H' → Same H H') ∧ (∀ a, H a ≠ none → G a ≠ none) := by
  have s1 : Same H (upd (upd H dx (.own x)) x (.ins C dx [])) := fun b o h => by
    rw [upd_ne (ne_of_none h hx), upd_ne (ne_of_none h hd)]; exact h
  refine ⟨_, rfl, s1, upd_same, fun H' f b o h => f b o (ne_of_none h hx) (s1 b o h), fun a ha => ?_⟩
  cases hq : H a with
  | none => exact absurd hq ha
  | some o => rw [s1 _ _ hq]; exact fun z => nomatch z
section
variable {P : Program} {w : World} {K : PySem.W.Frag} {mg : Str → Option Value} {base : Heap} {CWt WP WK WR WE WL : Addr}
abbrev s_way_to : Stmt := top 46
theorem sc_way_to : FnScope ["watcher", "plan", "goal", "word"] ["watcher", "plan", "goal"] (C8.fnScope s_way_to) := C8.fnScope_by (by decide +kernel)
theorem way_step {n : Nat} {spR spE spL : Sp} {f : Addr} {fd : FuncData} (D : C8.Def K mg "way_to" s_way_to f fd) (b : Binds K fd ["watcher", "plan", "goal"] [])
    (g_PatWay : C8.Mak P w K mg base 3 "PatWay" WP (sp_pinit CWt WP) []) (g_WorkWay : C8.Mak P w K mg base 3 "WorkWay" WK (sp_kinit K CWt WK) [])
    (g_RowWay : C8.Mak P w K mg base (3 + 3 * n) "RowWay" WR spR []) (g_EitherWay : C8.Mak P w K mg base (3 + 3 * n) "EitherWay" WE spE []) (g_LoopWay : C8.Mak P w K mg base (3 + 3 * n) "LoopWay" WL spL [])
    (hR : ∀ d, n = d + 1 → spR = sp_rinit CWt WP WK WR WE WL d) (hE : ∀ d, n = d + 1 → spE = sp_einit CWt WP WK WR WE WL d) (hL : ∀ d, n = d + 1 → spL = sp_linit CWt WP WK WR WE WL d) :
    C8.Cal P w K mg base (5 + 3 * n) "way_to" (sp_way CWt WP WK WR WE WL n) [] := by
  have lv : 5 + 3 * n = (4 + 3 * n) + 1 := by omega
  rw [lv]
  refine C8.cal0 D b .nil sc_way_to (fun vs H Q E h => ?_) fun cdv A outer s H vs Q E hr h => ?_
  · obtain ⟨Wt, lo, hi, v, p, l, z, rfl, _⟩ := h; rfl
  · obtain ⟨Wt, lo, hi, v, p, l, z, rfl, ⟨dw, hW⟩, l1, l2, pA, ok, hb, q⟩ := h
    have nd := sc_way_to.nd
    refine ⟨_, (pss_cons (ps_set (i := 3) nd rfl (Or.inl rfl) (pe_ix (r := rIxT K) ix_tup (pv 1) pe_int (fun _ _ => rfl)))
      (pss_cons (ps_if (pt_cmpR op_eq (pv 3) pe_str (nomark _)) (pss_one (ps_ret (C8.pe_mk g_PatWay hr (by first | decide | exact Nat.le_refl _ | omega) (by rfl) (pa_cons (pv 0) (pa_cons (pv 2) pa_nil))))) pss_nil)
      (pss_cons (ps_if (pt_cmpR op_eq (pv 3) pe_str (nomark _)) (pss_one (ps_ret (C8.pe_mk g_WorkWay hr (by first | decide | exact Nat.le_refl _ | omega) (by rfl) (pa_cons (pv 0) (pa_cons (pv 1) (pa_cons (pv 2) pa_nil)))))) pss_nil)
      (pss_cons (ps_if (pt_cmpR op_eq (pv 3) pe_str (nomark _)) (pss_one (ps_ret (C8.pe_mk g_RowWay hr (by first | decide | exact Nat.le_refl _ | omega) (by rfl) (pa_cons (pv 0) (pa_cons (pv 1) (pa_cons (pv 2) pa_nil)))))) pss_nil)
      (pss_cons (ps_if (pt_cmpR op_eq (pv 3) pe_str (nomark _)) (pss_one (ps_ret (C8.pe_mk g_EitherWay hr (by first | decide | exact Nat.le_refl _ | omega) (by rfl) (pa_cons (pv 0) (pa_cons (pv 1) (pa_cons (pv 2) pa_nil)))))) pss_nil)
      (pss_one (ps_ret (C8.pe_mk g_LoopWay hr (by first | decide | exact Nat.le_refl _ | omega) (by rfl) (pa_cons (pv 0) (pa_cons (pv 1) (pa_cons (pv 2) pa_nil))))))))))), ?_⟩
    cases pA with
    | pat ha =>
      walk_at "go"
      refine g_ixT (SqT.of ha) rfl ?_
      walk_at "go"
      refine g_make ?_
      walk_at "go"
      intro x dx hx hd nx
      obtain ⟨G, eG, s1, g1, k1, n1⟩ := made (C := WP) hx hd nx
      rw [eG]
      refine ⟨x, dx, Wt, lo, hi, z, rfl, g1, ⟨dw, s1 _ _ hW⟩, fun H' f e => ⟨rfl, ?_⟩⟩
      walk_at "go"
      exact q _ _ _ (k1 _ f) (.pat e (fun y => y hx) (preP_bits l1))
    | work ha =>
      unfold okP at ok
      rename_i PA x y
      obtain ⟨a, rfl⟩ : ∃ a : Nat, x = a := ⟨x.toNat, by omega⟩
      obtain ⟨b, rfl⟩ : ∃ b : Nat, y = b := ⟨y.toNat, by omega⟩
      walk_at "go"
      refine g_ixT (SqT.of ha) rfl ?_
      walk_at "go"
      refine g_make ?_
      walk_at "go"
      intro x dx hx hd nx
      obtain ⟨G, eG, s1, g1, k1, n1⟩ := made (C := WK) hx hd nx
      rw [eG]
      refine ⟨x, dx, Wt, PA, lo, hi, z, a, b, rfl, g1, ⟨dw, s1 _ _ hW⟩, l1, l2, hb, s1 _ _ ha, by omega, by omega, fun H' g f bt e => ⟨rfl, ?_⟩⟩
      walk_at "go"
      exact q _ _ _ (k1 _ f) (.work e (fun y => y hx) bt)
    | row ha hc hps =>
      match n, ok, hR, hE, hL, g_RowWay, q with
      | 0, ok, _, _, _, _, _ => unfold okP at ok; exact ok.elim
      | d + 1, ok, hR, hE, hL, g_RowWay, q =>
      unfold okP at ok
      walk_at "go"
      refine g_ixT (SqT.of ha) rfl ?_
      walk_at "go"
      refine g_make ?_
      walk_at "go"
      intro x dx hx hd nx
      obtain ⟨G, eG, s1, g1, k1, n1⟩ := made (C := WR) hx hd nx
      rw [eG, hR d rfl]
      refine ⟨fun a => H a ≠ none, x, dx, Wt, _, _, _, _, lo, hi, l, z, rfl, g1, ⟨dw, s1 _ _ hW⟩, l1, l2, hb, s1 _ _ ha, s1 _ _ hc, PlAs_keep (keepT_same s1) _ _ hps, ok.2.2, ok.2.1, n1, fun y => y hx, fun H' g f wa => ⟨rfl, ?_⟩⟩
      walk_at "go"
      exact q _ _ _ (k1 _ f) wa
    | either ha hc hps =>
      match n, ok, hR, hE, hL, g_EitherWay, q with
      | 0, ok, _, _, _, _, _ => unfold okP at ok; exact ok.elim
      | d + 1, ok, hR, hE, hL, g_EitherWay, q =>
      unfold okP at ok
      walk_at "go"
      refine g_ixT (SqT.of ha) rfl ?_
      walk_at "go"
      refine g_make ?_
      walk_at "go"
      intro x dx hx hd nx
      obtain ⟨G, eG, s1, g1, k1, n1⟩ := made (C := WE) hx hd nx
      rw [eG, hE d rfl]
      refine ⟨fun a => H a ≠ none, x, dx, Wt, _, _, _, _, lo, hi, l, z, rfl, g1, ⟨dw, s1 _ _ hW⟩, l1, l2, hb, s1 _ _ ha, s1 _ _ hc, PlAs_keep (keepT_same s1) _ _ hps, ok.2.2, ok.2.1, n1, fun y => y hx, fun H' g f wa => ⟨rfl, ?_⟩⟩
      walk_at "go"
      exact q _ _ _ (k1 _ f) wa
    | @loop PA x y u p ha hp =>
      match n, l, ok, hR, hE, hL, g_LoopWay, q with
      | 0, _, ok, _, _, _, _, _ => unfold okP at ok; exact ok.elim
      | d + 1, 0, ok, _, _, _, _, _ => unfold okP at ok; exact ok.elim
      | d + 1, l + 1, ok, hR, hE, hL, g_LoopWay, q =>
      unfold okP at ok
      obtain ⟨a, rfl⟩ : ∃ a : Nat, x = a := ⟨x.toNat, by omega⟩
      obtain ⟨b, rfl⟩ : ∃ b : Nat, y = b := ⟨y.toNat, by omega⟩
      walk_at "go"
      refine g_ixT (SqT.of ha) rfl ?_
      walk_at "go"
      refine g_make ?_
      walk_at "go"
      intro x dx hx hd nx
      obtain ⟨G, eG, s1, g1, k1, n1⟩ := made (C := WL) hx hd nx
      rw [eG, hL d rfl]
      refine ⟨fun a => H a ≠ none, x, dx, Wt, _, _, _, lo, hi, l, z, a, b, rfl, g1, ⟨dw, s1 _ _ hW⟩, l1, l2, hb, s1 _ _ ha, PlA_keep (keepT_same s1) _ _ hp, ok.2.2.2, by omega, by omega, n1, fun y => y hx, fun H' g f wa => ⟨rfl, ?_⟩⟩
      walk_at "go"
      exact q _ _ _ (k1 _ f) wa
theorem ok_way (T2 : TxtY K WP WK WR WE WL) (T : TxtJ K mg) {f fR fE fL : Addr} {fd dR dE dL : FuncData} (D : C8.Def K mg "way_to" s_way_to f fd) (b : Binds K fd ["watcher", "plan", "goal"] [])
    (g_PatWay : C8.Mak P w K mg base 3 "PatWay" WP (sp_pinit CWt WP) []) (g_WorkWay : C8.Mak P w K mg base 3 "WorkWay" WK (sp_kinit K CWt WK) [])
    (MR : Mk K WR fR) (hmR : mg "RowWay" = some (.ref WR)) (FR : C8.Fun K "__init__" "RowWay.__init__" s_RowWay_init fR dR) (bR : Binds K dR ["self", "watcher", "plan", "goal"] [])
    (ME : Mk K WE fE) (hmE : mg "EitherWay" = some (.ref WE)) (FE : C8.Fun K "__init__" "EitherWay.__init__" s_EitherWay_init fE dE) (bE : Binds K dE ["self", "watcher", "plan", "goal"] [])
    (ML : Mk K WL fL) (hmL : mg "LoopWay" = some (.ref WL)) (FL : C8.Fun K "__init__" "LoopWay.__init__" s_LoopWay_init fL dL) (bL : Binds K dL ["self", "watcher", "plan", "goal"] []) :
    ∀ n, C8.Cal P w K mg base (5 + 3 * n) "way_to" (sp_way CWt WP WK WR WE WL n) []
  | 0 => way_step (spR := fun _ _ _ _ => False) (spE := fun _ _ _ _ => False) (spL := fun _ _ _ _ => False) D b g_PatWay g_WorkWay
    ⟨fR, dR, ["self", "watcher", "plan", "goal"], [], MR, ⟨fun _ _ _ _ h => h.elim, fun _ _ _ _ _ _ _ _ _ _ _ _ _ h => h.elim⟩, hmR, bR, .nil⟩
    ⟨fE, dE, ["self", "watcher", "plan", "goal"], [], ME, ⟨fun _ _ _ _ h => h.elim, fun _ _ _ _ _ _ _ _ _ _ _ _ _ h => h.elim⟩, hmE, bE, .nil⟩
    ⟨fL, dL, ["self", "watcher", "plan", "goal"], [], ML, ⟨fun _ _ _ _ h => h.elim, fun _ _ _ _ _ _ _ _ _ _ _ _ _ h => h.elim⟩, hmL, bL, .nil⟩
    (fun d h => nomatch h) (fun d h => nomatch h) (fun d h => nomatch h)
  | n + 1 => by
    have ih := ok_way T2 T D b g_PatWay g_WorkWay MR hmR FR bR ME hmE FE bE ML hmL FL bL n
    have lv : 3 + 3 * (n + 1) = 6 + 3 * n := by omega
    refine way_step D b g_PatWay g_WorkWay (by rw [lv]; exact ok_rinit T2 T MR hmR FR bR ih) (by rw [lv]; exact ok_einit T2 T ME hmE FE bE ih) (by rw [lv]; exact ok_linit T2 T ML hmL FL bL ih) (fun d h => ?_) (fun d h => ?_) fun d h => ?_
    · obtain rfl : n = d := by omega
      rfl
    · obtain rfl : n = d := by omega
      rfl
    · obtain rfl : n = d := by omega
      rfl
end
end K10
namespace K10
open PySem PySem.Spec PyProof.Rows L2 Wd
/-! ### what a run makes of its gap -/
/-- the last pat along pats, none behind a bite -/
def stL (lo hi : Nat) : Int → List Int → Option Int
  | last, [] => some last
  | last, q :: qs => if last + hi < q then none else if q < last + lo then none else stL lo hi q qs
theorem stL_app {lo hi : Nat} : ∀ (a b : List Int) (last : Int), stL lo hi last (a ++ b) = (stL lo hi last a).bind fun l => stL lo hi l b
  | [], b, last => rfl
  | q :: a, b, last => by
    show (if last + hi < q then none else if q < last + lo then none else stL lo hi q (a ++ b)) = (if last + hi < q then none else if q < last + lo then none else stL lo hi q a).bind fun l => stL lo hi l b
    split
    · rfl
    · split
      · rfl
      · exact stL_app a b q
/-- the gap behind pats, at a moment -/
def gapOf (lo hi : Nat) (pats : List Int) (t : Int) : Int := match stL lo hi 0 pats with
  | none => (hi + 1 : Nat)
  | some last => min (t - last) (hi + 1 : Nat)
/-- from the gap g the delays ds, used up, lead to the gap g2 -/
def Go (lo hi : Nat) (f : List Int → Int → Res) (g : Nat) (ds : List Int) (g2 : Nat) : Prop :=
  ∀ rest t, ∃ nq t', f (ds ++ rest) t = some (nq, rest, t') ∧ ∀ pats, gapOf lo hi pats t = (g : Int) → gapOf lo hi (pats ++ nq) t' = (g2 : Int)
theorem go_pat {lo hi g : Nat} (hl : lo ≤ hi) : Go lo hi (rn .pat) g [] (gP lo hi g) := fun rest t => by
  refine ⟨[t], t, by simp only [List.nil_append, rn], fun pats h => ?_⟩
  unfold gapOf at h ⊢
  rw [stL_app]
  unfold gP
  cases hs : stL lo hi 0 pats with
  | none =>
    rw [hs] at h
    simp only [Option.bind_none] at h ⊢
    rw [if_neg (by omega)]
  | some last =>
    rw [hs] at h
    simp only [Option.bind_some] at h ⊢
    unfold stL stL
    by_cases c1 : last + hi < t
    · rw [if_pos c1]
      simp only
      rw [if_neg (by omega)]
    · rw [if_neg c1]
      by_cases c2 : t < last + lo
      · rw [if_pos c2]
        simp only
        rw [if_neg (by omega)]
      · rw [if_neg c2]
        simp only
        rw [if_pos (by omega)]
        omega
theorem go_work {lo hi g a b d : Nat} (h1 : a ≤ d) (h2 : d ≤ b) : Go lo hi (rn (.work a b)) g [(d : Int)] (gW hi g d) := fun rest t => by
  refine ⟨[], t + d, ?_, fun pats h => ?_⟩
  · simp only [List.cons_append, List.nil_append, rn]
    rw [if_pos (by omega)]
  rw [List.append_nil]
  unfold gapOf at h ⊢
  unfold gW
  cases hs : stL lo hi 0 pats with
  | none =>
    rw [hs] at h
    simp only at h ⊢
    omega
  | some last =>
    rw [hs] at h
    simp only at h ⊢
    omega
theorem go_id {lo hi g : Nat} {f : List Int → Int → Res} (h : ∀ ds t, f ds t = some ([], ds, t)) : Go lo hi f g [] g := fun rest t =>
  ⟨[], t, h _ _, fun pats h => by rw [List.append_nil]; exact h⟩
theorem go_nil {lo hi g : Nat} : Go lo hi (rns []) g [] g := go_id fun ds t => by simp only [rns]
theorem go_iter0 {lo hi g : Nat} {f : List Int → Int → Res} : Go lo hi (iter f 0) g [] g := go_id fun ds t => by simp only [iter]
theorem go_seq {lo hi g g1 g2 : Nat} {f k h : List Int → Int → Res} {a b : List Int} (e : ∀ ds t, h ds t = seqR (f ds t) k) (h1 : Go lo hi f g a g1) (h2 : Go lo hi k g1 b g2) : Go lo hi h g (a ++ b) g2 := fun rest t => by
  obtain ⟨n1, t1, e1, q1⟩ := h1 (b ++ rest) t
  obtain ⟨n2, t2, e2, q2⟩ := h2 rest t1
  refine ⟨n1 ++ n2, t2, ?_, fun pats hp => ?_⟩
  · rw [e, List.append_assoc, e1]
    exact seqR_some e2
  · rw [← List.append_assoc]
    exact q2 _ (q1 _ hp)
theorem go_cons {lo hi g g1 g2 : Nat} {p : Pl} {ps : List Pl} {a b : List Int} (h1 : Go lo hi (rn p) g a g1) (h2 : Go lo hi (rns ps) g1 b g2) : Go lo hi (rns (p :: ps)) g (a ++ b) g2 :=
  go_seq (fun ds t => by simp only [rns]) h1 h2
theorem go_iter {lo hi g g1 g2 n : Nat} {f : List Int → Int → Res} {a b : List Int} (h1 : Go lo hi f g a g1) (h2 : Go lo hi (iter f n) g1 b g2) : Go lo hi (iter f (n + 1)) g (a ++ b) g2 :=
  go_seq (fun ds t => by simp only [iter]) h1 h2
theorem go_row {lo hi g g2 : Nat} {ps : List Pl} {a : List Int} (h : Go lo hi (rns ps) g a g2) : Go lo hi (rn (.row ps)) g a g2 := fun rest t => by
  obtain ⟨n1, t1, e1, q1⟩ := h rest t
  exact ⟨n1, t1, by simp only [rn]; exact e1, q1⟩
theorem go_either {lo hi g g2 k : Nat} {ps : List Pl} {p : Pl} {a : List Int} (hk : ps[k]? = some p) (h : Go lo hi (rn p) g a g2) : Go lo hi (rn (.either ps)) g ((k : Int) :: a) g2 := fun rest t => by
  obtain ⟨n1, t1, e1, q1⟩ := h rest t
  refine ⟨n1, t1, ?_, q1⟩
  simp only [List.cons_append, rn]
  rw [if_pos (by omega), Int.toNat_natCast, rnAt_at hk]
  exact e1
theorem go_loop {lo hi g g2 k a b : Nat} {p : Pl} {as : List Int} (h1 : a ≤ k) (h2 : k ≤ b) (h : Go lo hi (iter (rn p) k) g as g2) : Go lo hi (rn (.loop a b p)) g ((k : Int) :: as) g2 := fun rest t => by
  obtain ⟨n1, t1, e1, q1⟩ := h rest t
  refine ⟨n1, t1, ?_, q1⟩
  simp only [List.cons_append, rn]
  rw [if_pos (by omega), Int.toNat_natCast]
  exact e1
/-- at most so many delays -/
theorem mx_either {ps : List Pl} {k : Nat} {p : Pl} (h : ps[k]? = some p) : 1 + mx p ≤ mx (.either ps) := by
  have := mx_at h
  simp only [mx]; omega
end K10
namespace K10
open PySem PySem.Spec PyProof.Rows L2 Wd RT
local macro_rules | `(tactic| walk_at "gs") => `(tactic| repeat (first
  | with_reducible refine Wd.g_seq ?_
  | ((with_reducible show L2.Ends.nx _ _ _); (with_reducible refine Wd.g_nx ?_))
  | with_reducible refine Wd.g_asg ?_
  | ((with_reducible refine' Wd.g_var ?h1 ?_); (case h1 => exact rfl))
  | with_reducible refine Wd.g_c ?_
  | with_reducible refine Wd.g_op ?_
  | with_reducible refine Wd.g_un ?_
  | with_reducible refine Wd.g_I0 ?_
  | with_reducible refine Wd.g_U ?_
  | with_reducible refine Wd.g_eqI ?_
  | with_reducible refine Wd.g_neI ?_
  | with_reducible refine Wd.g_eqS ?_
  | with_reducible refine Wd.g_neS ?_
  | with_reducible refine Wd.g_eqB ?_
  | with_reducible refine Wd.g_neB ?_
  | with_reducible refine Wd.g_isN ?_
  | with_reducible refine Wd.g_notN ?_
  | with_reducible refine Wd.g_lc ?_
  | with_reducible refine Wd.g_yes ?_
  | with_reducible refine Wd.g_test ?_
  | with_reducible refine Wd.g_tB ?_
  | with_reducible refine Wd.g_bl ?_
  | with_reducible refine Wd.g_blI ?_
  | with_reducible refine Wd.g_and ?_
  | with_reducible refine Wd.g_or ?_
  | with_reducible refine Wd.g_not ?_
  | with_reducible refine Wd.g_andV ?_
  | with_reducible refine Wd.g_orV ?_
  | with_reducible refine Wd.g_notV ?_
  | with_reducible refine Wd.g_if ?_
  | with_reducible refine Wd.g_chain ?_
  | with_reducible refine Wd.g_chain3 ?_
  | with_reducible refine Wd.g_nil ?_
  | with_reducible refine Wd.g_cons ?_
  | with_reducible refine Wd.g_tup ?_
  | with_reducible refine Wd.g_lst ?_
  | with_reducible refine Wd.g_CB ?_
  | with_reducible refine Wd.g_call ?_
  | with_reducible refine Wd.g_callS ?_
  | with_reducible refine Wd.g_bm ?_
  | with_reducible refine Wd.g_bm0 ?_
  | with_reducible refine Wd.g_sl ?_
  | with_reducible refine Wd.g_part ?_
  | with_reducible refine Wd.g_part1 ?_
  | with_reducible refine Wd.g_noPart ?_
  | with_reducible refine Wd.g_next ?_
  | with_reducible refine Wd.g_name ?_
  | with_reducible refine Wd.g_sub ?_
  | with_reducible refine Wd.g_gnil ?_
  | with_reducible refine Wd.g_gcons ?_
  | with_reducible refine Wd.g_drop ?_
  | with_reducible refine Wd.g_ret ?_
  | with_reducible refine Wd.g_retN ?_
  | with_reducible refine Wd.g_brk ?_
  | with_reducible refine Wd.g_cont ?_
  | ((with_reducible show L2.Ends.bk _ _ _); (with_reducible refine Wd.g_bk ?_))
  | ((with_reducible show L2.Ends.ct _ _ _); (with_reducible refine Wd.g_ct ?_))
  | ((with_reducible show L2.Ends.rt _ _ _); (with_reducible refine Wd.g_rt ?_))
  | with_reducible refine Wd.g_for ?_
  | with_reducible refine Wd.g_rng1 ?_
  | with_reducible refine Wd.g_rng2 ?_
  | with_reducible refine Wd.g_iList ?_
  | with_reducible refine Wd.g_iTup ?_
  | ((with_reducible refine Wd.g_fit ?h1 ?_); (case h1 => exact rfl))
  | with_reducible refine Wd.g_max2 ?_
  | with_reducible refine Wd.g_min2 ?_
  | with_reducible refine Wd.g_int1B ?_
  | with_reducible refine L2.iteT ?_
  | with_reducible refine L2.iteF ?_
  | ((with_reducible refine Wd.g_itT ?h1 ?_); (case h1 => exact rfl))
  | ((with_reducible refine Wd.g_itF ?h1 ?_); (case h1 => exact rfl))))
/-! ### a method that several classes have, each with a promise of its own -/
def tMethS (Cs : List (Addr × Sp)) (m : Str) (ta : TE) (t : TA) : TE := fun σ H Q => ta σ H fun y H1 => ∃ (a dx : Addr) (fs : List (Str × V)) (c : Addr × Sp), c ∈ Cs ∧ y = .ref a ∧ H1 a = some (.ins c.1 dx fs) ∧ fs.lookup m = none ∧ t σ H1 fun vs H2 => c.2 (y :: (vs ++ [])) H2 Q C8.E0
def MetS (P : Program) (w : World) (K : PySem.W.Frag) (mg : Str → Option Value) (base : Heap) (k : Nat) (Cs : List (Addr × Sp)) (m : Str) : Prop := ∀ c ∈ Cs, ∃ k', k' ≤ k ∧ C8.Met P w K mg base k' c.1 m c.2 []
section
variable {X : Cx} {k j : Nat} {Cs : List (Addr × Sp)} {m : Str} {pos apos : Pos} {o e : Expr} {es : List Expr} {ta : TE} {t : TA}
theorem pe_mtS {pl : Sem Bool} (c : MetS X.prog X.w X.K X.mg X.base k Cs m) (hr : Room j X.A) (hk : k ≤ j) (ho : PE X o ta) (ha : PA X (e :: es) t)
    (hst : starEach (e :: es) X.env = (false, eval e X.env) :: starEach es X.env := by rfl) (hpl : (backTo pos (starEach es X.env)).any (·.1) = false := by rfl)
    (ht : eval (.Call (.Attribute o m apos) (e :: es) [] pos) X.env = (do
      let obj ← eval o X.env
      standAt apos.atName
      let (fn, own) ← holding [obj] (getMethod obj m pl)
      callWith pos fn own (backTo pos (starEach (e :: es) X.env)) (backToKw pos (keywordEach [] X.env))) := by rfl) :
    PE X (.Call (.Attribute o m apos) (e :: es) [] pos) (tMethS Cs m ta t) := by
  refine ⟨fun pins s σ H Q I h => PySem.W.methodCall_KW (pl := pl) (thn (ho.run pins s σ H _ I h) fun u s1 ⟨y, H1, I1, ry, a, dx, fs, C, hC, ey, ea, l, q⟩ => ?_) ht⟩
  subst ey
  obtain rfl : u = Value.ref a := ry
  obtain ⟨k', hk', f, fd, ps, ds, hc, hm, F, b, d⟩ := c C hC
  exact getmeth_ok I1 ea hc hm l (PySem.W.callWith_K (first := [.ref a]) (h₀ := X.base) I.ok.mod.kin hm.kp (thn (ha.run pos pins s1 σ H1 _ I1 q) fun us s2 ⟨vs, H2, I2, r, q2⟩ => ⟨I2.kIn, run_fn (us := .ref a :: us) (vs := .ref a :: vs) F (hr.mono (Nat.le_trans hk' hk)) b d C8.pass0 I2 (.cons rfl r) q2⟩) hst hpl)
end
theorem g_mtS {Cs : List (Addr × Sp)} {m : Str} {ta : TE} {t : TA} {σ : L2.St} {H : Hp} {Q : VK} (h : ta σ H fun y H1 => ∃ (a dx : Addr) (fs : List (Str × V)) (c : Addr × Sp), c ∈ Cs ∧ y = .ref a ∧ H1 a = some (.ins c.1 dx fs) ∧ fs.lookup m = none ∧ t σ H1 fun vs H2 => c.2 (y :: (vs ++ [])) H2 Q C8.E0) : tMethS Cs m ta t σ H Q := h
/-! ### lead -/
def shp : Pl → Nat
  | .pat => 0
  | .work _ _ => 1
  | .row _ => 2
  | .either _ => 3
  | .loop _ _ _ => 4
def sp_ld (K : PySem.W.Frag) (CWt WP WK WR WE WL : Addr) (n s : Nat) : Sp := fun vs H Q _ => ∃ (N : Addr → Prop) (v : V) (D Wt : Addr) (ds : List Int) (p : Pl) (g lo hi l z gz : Nat), shp p = s ∧ vs = [v, nV g, .ref D] ∧ WayA ⟨WP, WK, WR, WE, WL, Wt, lo, hi⟩ N H v p z gz ∧ N D ∧ IsWt H CWt Wt lo hi ∧ lo ≤ hi ∧
  H D = some (.lst (ds.map V.int)) ∧ okP n l p ∧ g ≤ hi + 1 ∧ gz.testBit g = true ∧ ds.length + mx p ≤ 10000000 ∧
  ∀ (H' : Hp) (as : List Int) (g2 : Nat), Frm D H H' → H' D = some (.lst ((ds ++ as).map V.int)) → Go lo hi (rn p) g as g2 → z.testBit g2 = true → g2 ≤ hi + 1 → as.length ≤ mx p → Q (nV g2) H'
abbrev CsL (K : PySem.W.Frag) (CWt WP WK WR WE WL : Addr) (n : Nat) : List (Addr × Sp) := [(WP, sp_ld K CWt WP WK WR WE WL n 0), (WK, sp_ld K CWt WP WK WR WE WL n 1), (WR, sp_ld K CWt WP WK WR WE WL n 2), (WE, sp_ld K CWt WP WK WR WE WL n 3), (WL, sp_ld K CWt WP WK WR WE WL n 4)]
section
variable {P : Program} {w : World} {K : PySem.W.Frag} {mg : Str → Option Value} {base : Heap} {CWt WP WK WR WE WL : Addr}
/-- any way leads -/
theorem use_ld {n : Nat} {H : Hp} {Q : VK} {N : Addr → Prop} {v : V} {D Wt : Addr} {ds : List Int} {p : Pl} {g lo hi l z gz : Nat} (wa : WayA ⟨WP, WK, WR, WE, WL, Wt, lo, hi⟩ N H v p z gz) (nD : N D) (hW : IsWt H CWt Wt lo hi) (l1 : lo ≤ hi)
    (hD : H D = some (.lst (ds.map V.int))) (ok : okP n l p) (hg : g ≤ hi + 1) (ht : gz.testBit g = true) (hm : ds.length + mx p ≤ 10000000)
    (q : ∀ (H' : Hp) (as : List Int) (g2 : Nat), Frm D H H' → H' D = some (.lst ((ds ++ as).map V.int)) → Go lo hi (rn p) g as g2 → z.testBit g2 = true → g2 ≤ hi + 1 → as.length ≤ mx p → Q (nV g2) H') :
    ∃ (a dx : Addr) (fs : List (Str × V)) (c : Addr × Sp), c ∈ CsL K CWt WP WK WR WE WL n ∧ v = .ref a ∧ H a = some (.ins c.1 dx fs) ∧ fs.lookup ("lead" : Str) = none ∧ c.2 [v, nV g, .ref D] H Q C8.E0 := by
  have sp : sp_ld K CWt WP WK WR WE WL n (shp p) [v, nV g, .ref D] H Q C8.E0 := ⟨N, v, D, Wt, ds, p, g, lo, hi, l, z, gz, rfl, rfl, wa, nD, hW, l1, hD, ok, hg, ht, hm, q⟩
  cases wa with
  | pat h _ _ => exact ⟨_, _, _, (WP, sp_ld K CWt WP WK WR WE WL n 0), .head _, rfl, h, rfl, sp⟩
  | work h _ _ => exact ⟨_, _, _, (WK, sp_ld K CWt WP WK WR WE WL n 1), .tail _ (.head _), rfl, h, rfl, sp⟩
  | row h _ _ _ _ _ => exact ⟨_, _, _, (WR, sp_ld K CWt WP WK WR WE WL n 2), .tail _ (.tail _ (.head _)), rfl, h, rfl, sp⟩
  | either h _ _ _ _ _ => exact ⟨_, _, _, (WE, sp_ld K CWt WP WK WR WE WL n 3), .tail _ (.tail _ (.tail _ (.head _))), rfl, h, rfl, sp⟩
  | loop h _ _ _ _ _ _ _ _ => exact ⟨_, _, _, (WL, sp_ld K CWt WP WK WR WE WL n 4), .tail _ (.tail _ (.tail _ (.tail _ (.head _)))), rfl, h, rfl, sp⟩
theorem use_ldV {n i j : Nat} {σ : L2.St} {H : Hp} {Q : VK} {N : Addr → Prop} {v : V} {D Wt : Addr} {ds : List Int} {p : Pl} {g lo hi l z gz : Nat} (hi1 : σ[i]? = some (some (nV g))) (hj : σ[j]? = some (some (.ref D))) (wa : WayA ⟨WP, WK, WR, WE, WL, Wt, lo, hi⟩ N H v p z gz) (nD : N D) (hW : IsWt H CWt Wt lo hi) (l1 : lo ≤ hi)
    (hD : H D = some (.lst (ds.map V.int))) (ok : okP n l p) (hg : g ≤ hi + 1) (ht : gz.testBit g = true) (hm : ds.length + mx p ≤ 10000000)
    (q : ∀ (H' : Hp) (as : List Int) (g2 : Nat), Frm D H H' → H' D = some (.lst ((ds ++ as).map V.int)) → Go lo hi (rn p) g as g2 → z.testBit g2 = true → g2 ≤ hi + 1 → as.length ≤ mx p → Q (nV g2) H') :
    ∃ (a dx : Addr) (fs : List (Str × V)) (c : Addr × Sp), c ∈ CsL K CWt WP WK WR WE WL n ∧ v = .ref a ∧ H a = some (.ins c.1 dx fs) ∧ fs.lookup ("lead" : Str) = none ∧ tCons (tVar i) (tCons (tVar j) tNil) σ H fun vs H2 => c.2 (v :: (vs ++ [])) H2 Q C8.E0 := by
  obtain ⟨a, dx, fs, c, h1, h2, h3, h4, h5⟩ := use_ld (K := K) (CWt := CWt) (n := n) wa nD hW l1 hD ok hg ht hm q
  exact ⟨a, dx, fs, c, h1, h2, h3, h4, g_cons (g_var hi1 (g_cons (g_var hj (g_nil h5))))⟩
abbrev s_PatWay_lead : Stmt := (C8.clsBody (top 41)).getD 1 (.Pass ⟨0, 0, 0, 0⟩)
theorem sc_PatWay_lead : FnScope ["self", "gap", "delays"] ["self", "gap", "delays"] (C8.fnScope s_PatWay_lead) := C8.fnScope_by (by decide +kernel)
theorem ok_plead {n : Nat} (T2 : TxtY K WP WK WR WE WL) {f : Addr} {fd : FuncData} (me : Meth K WP "lead" f) (F : C8.Fun K "lead" "PatWay.lead" s_PatWay_lead f fd) (b : Binds K fd ["self", "gap", "delays"] []) (m_gbp : C8.Met P w K mg base 1 CWt "gap_behind_pat" (sp_gbp CWt) []) :
    C8.Met P w K mg base 2 WP "lead" (sp_ld K CWt WP WK WR WE WL n 0) [] := by
  refine C8.met0 T2.cP me F b sc_PatWay_lead (fun vs H Q E h => ?_) fun cdv A outer s H vs Q E hr h => ?_
  · obtain ⟨N, v, D, Wt, ds, p, g, lo, hi, l, z, gz, _, rfl, _⟩ := h; rfl
  · obtain ⟨N, v, D, Wt, ds, p, g, lo, hi, l, z, gz, hs, rfl, wa, nD, ⟨dw, hW⟩, l1, hD, ok, hg, ht, hm, q⟩ := h
    have nd := sc_PatWay_lead.nd
    refine ⟨_, (pss_one (ps_ret (C8.pe_mt m_gbp hr (by first | decide | exact Nat.le_refl _ | omega) (pe_fld (pv 0) rfl) (pa_cons (pv 1) pa_nil)))), ?_⟩
    cases wa with
    | work _ _ _ => cases hs
    | row _ _ _ _ _ _ => cases hs
    | either _ _ _ _ _ _ => cases hs
    | loop _ _ _ _ _ _ _ _ _ => cases hs
    | pat h nR bt =>
      walk_at "go"
      refine g_fldV rfl h T2.cP T2.pW rfl ?_
      refine ⟨Wt, dw, _, rfl, hW, rfl, ?_⟩
      walk_at "go"
      refine ⟨Wt, lo, hi, g, rfl, ⟨dw, hW⟩, ?_⟩
      walk_at "go"
      have hz := (bt.bit g hg).mp ht
      unfold Led at hz
      refine q H [] _ (fun b o _ h => h) (by rw [List.append_nil]; exact hD) (go_pat l1) hz gP_le (Nat.zero_le _)
abbrev s_WorkWay_lead : Stmt := (C8.clsBody (top 42)).getD 1 (.Pass ⟨0, 0, 0, 0⟩)
theorem sc_WorkWay_lead : FnScope ["self", "gap", "delays", "delay"] ["self", "gap", "delays"] (C8.fnScope s_WorkWay_lead) := C8.fnScope_by (by decide +kernel)
theorem ok_klead {n : Nat} (T2 : TxtY K WP WK WR WE WL) {f : Addr} {fd : FuncData} (me : Meth K WK "lead" f) (F : C8.Fun K "lead" "WorkWay.lead" s_WorkWay_lead f fd) (b : Binds K fd ["self", "gap", "delays"] []) (m_gbw : C8.Met P w K mg base 1 CWt "gap_behind_work" (sp_gbw CWt) []) (g_holds : C8.Cal P w K mg base 1 "holds" sp_holds []) :
    C8.Met P w K mg base 2 WK "lead" (sp_ld K CWt WP WK WR WE WL n 1) [] := by
  refine C8.met0 T2.cK me F b sc_WorkWay_lead (fun vs H Q E h => ?_) fun cdv A outer s H vs Q E hr h => ?_
  · obtain ⟨N, v, D, Wt, ds, p, g, lo, hi, l, z, gz, _, rfl, _⟩ := h; rfl
  · obtain ⟨N, v, D, Wt, ds, p, g, lo, hi, l, z, gz, hs, rfl, wa, nD, ⟨dw, hW⟩, l1, hD, ok, hg, ht, hm, q⟩ := h
    have nd := sc_WorkWay_lead.nd
    refine ⟨_, (pss_cons (ps_set (i := 3) nd rfl (Or.inl rfl) (pe_fld (pv 0) rfl))
      (pss_cons (ps_while PassesOwn.never (pt_not (pt_val (C8.pe_c g_holds hr (by first | decide | exact Nat.le_refl _ | omega) (by rfl) (pa_cons (pe_fld (pv 0) rfl) (pa_cons (C8.pe_mt m_gbw hr (by first | decide | exact Nat.le_refl _ | omega) (pe_fld (pv 0) rfl) (pa_cons (pv 1) (pa_cons (pv 3) pa_nil))) pa_nil))))) (pss_one (ps_aug (i := 3) nd rfl (Or.inl rfl) pe_int ip_add)))
      (pss_cons (ps_expr (pe_bmK (K := K) rfl PySem.F.plainAttrs_list PySem.F.slot_list_append PySem.F.type_list_append mt_append (pv 2) (pa_cons (pv 3) pa_nil)))
      (pss_one (ps_ret (C8.pe_mt m_gbw hr (by first | decide | exact Nat.le_refl _ | omega) (pe_fld (pv 0) rfl) (pa_cons (pv 1) (pa_cons (pv 3) pa_nil)))))))), ?_⟩
    cases wa with
    | pat _ _ _ => cases hs
    | row _ _ _ _ _ _ => cases hs
    | either _ _ _ _ _ _ => cases hs
    | loop _ _ _ _ _ _ _ _ _ => cases hs
    | @work R dx a b _ _ h nR bt =>
      have hz := (bt.bit g hg).mp ht
      unfold Led at hz
      obtain ⟨d0, b1, b2, b3⟩ := hz
      walk_at "go"
      refine g_fldV rfl h T2.cK T2.kL rfl ?_
      walk_at "go"
      refine w_loop (fun k σ H' => ∃ d : Nat, σ = [some (.ref R), some (nV g), some (.ref D), some (nV d)] ∧ H' = H ∧ a ≤ d ∧ d ≤ d0 ∧ k = d0 - d) (d0 - a) ?_ ?_
      · exact ⟨a, rfl, rfl, Nat.le_refl _, by omega, rfl⟩
      · rintro k σ H' ⟨d, rfl, rfl, c1, c2, rfl⟩
        walk_at "go"
        refine g_fldV rfl h T2.cK T2.kO rfl ?_
        walk_at "go"
        refine g_fldV rfl h T2.cK T2.kW rfl ?_
        refine ⟨Wt, dw, _, rfl, hW, rfl, ?_⟩
        walk_at "go"
        refine ⟨Wt, lo, hi, g, d, rfl, ⟨dw, hW⟩, ?_⟩
        walk_at "go"
        refine ⟨z, gW hi g d, rfl, ?_⟩
        refine ⟨_, rfl, ?_⟩
        by_cases c : z.testBit (gW hi g d) = true
        · rw [if_neg (by rw [c]; exact Bool.false_ne_true)]
          walk_at "go"
          refine g_tyL hD ?_
          walk_at "go"
          have dl : ds.length < 16000000 := by omega
          refine ⟨_, _, _, rfl, rfl, hD, by rw [List.length_map]; exact Nat.lt_of_lt_of_le dl (by decide), ?_⟩
          have nDR : R ≠ D := ne_of h hD (fun y => nomatch y)
          have nDW : Wt ≠ D := ne_of hW hD (fun y => nomatch y)
          have eD := upd_same (H := H') (a := D) (o := .lst (ds.map V.int ++ [nV d]))
          have eR := (upd_ne (H := H') (o := .lst (ds.map V.int ++ [nV d])) nDR).trans h
          have eW := (upd_ne (H := H') (o := .lst (ds.map V.int ++ [nV d])) nDW).trans hW
          have fD : Frm D H' (upd H' D (.lst (ds.map V.int ++ [nV d]))) := .set
          generalize upd H' D (.lst (ds.map V.int ++ [nV d])) = H2 at eD eR eW fD ⊢
          walk_at "go"
          refine g_fldV rfl eR T2.cK T2.kW rfl ?_
          refine ⟨Wt, dw, _, rfl, eW, rfl, ?_⟩
          walk_at "go"
          refine ⟨Wt, lo, hi, g, d, rfl, ⟨dw, eW⟩, ?_⟩
          walk_at "go"
          refine q H2 [(d : Int)] _ fD (by rw [eD, List.map_append]; rfl) (go_work c1 (by omega)) c gW_le (Nat.le_refl _)
        · rw [if_pos (by rw [Bool.not_eq_true] at c; rw [c]; rfl)]
          have ne : d ≠ d0 := fun y => c (y ▸ b3)
          refine ⟨fun σ' H'' => ∃ d' : Nat, σ' = [some (.ref R), some (nV g), some (.ref D), some (nV d')] ∧ H'' = H' ∧ a ≤ d' ∧ d' ≤ d0 ∧ d < d', fun σ' H'' ⟨d', e1, e2, e3, e4, e5⟩ => ⟨d0 - d', by omega, d', e1, e2, e3, e4, rfl⟩, ?_⟩
          refine ⟨_, rfl, ⟨_, _, rfl, rfl, ?_⟩⟩
          exact ⟨d + 1, rfl, rfl, by omega, by omega, by omega⟩
end
end K10
namespace K10
open PySem PySem.Spec PyProof.Rows L2 Wd RT
local macro_rules | `(tactic| walk_at "gs") => `(tactic| repeat (first
  | with_reducible refine Wd.g_seq ?_
  | ((with_reducible show L2.Ends.nx _ _ _); (with_reducible refine Wd.g_nx ?_))
  | with_reducible refine Wd.g_asg ?_
  | ((with_reducible refine' Wd.g_var ?h1 ?_); (case h1 => exact rfl))
  | with_reducible refine Wd.g_c ?_
  | with_reducible refine Wd.g_op ?_
  | with_reducible refine Wd.g_un ?_
  | with_reducible refine Wd.g_I0 ?_
  | with_reducible refine Wd.g_U ?_
  | with_reducible refine Wd.g_eqI ?_
  | with_reducible refine Wd.g_neI ?_
  | with_reducible refine Wd.g_eqS ?_
  | with_reducible refine Wd.g_neS ?_
  | with_reducible refine Wd.g_eqB ?_
  | with_reducible refine Wd.g_neB ?_
  | with_reducible refine Wd.g_isN ?_
  | with_reducible refine Wd.g_notN ?_
  | with_reducible refine Wd.g_lc ?_
  | with_reducible refine Wd.g_yes ?_
  | with_reducible refine Wd.g_test ?_
  | with_reducible refine Wd.g_tB ?_
  | with_reducible refine Wd.g_bl ?_
  | with_reducible refine Wd.g_blI ?_
  | with_reducible refine Wd.g_and ?_
  | with_reducible refine Wd.g_or ?_
  | with_reducible refine Wd.g_not ?_
  | with_reducible refine Wd.g_andV ?_
  | with_reducible refine Wd.g_orV ?_
  | with_reducible refine Wd.g_notV ?_
  | with_reducible refine Wd.g_if ?_
  | with_reducible refine Wd.g_chain ?_
  | with_reducible refine Wd.g_chain3 ?_
  | with_reducible refine Wd.g_nil ?_
  | with_reducible refine Wd.g_cons ?_
  | with_reducible refine Wd.g_tup ?_
  | with_reducible refine Wd.g_lst ?_
  | with_reducible refine Wd.g_CB ?_
  | with_reducible refine Wd.g_call ?_
  | with_reducible refine Wd.g_callS ?_
  | with_reducible refine Wd.g_bm ?_
  | with_reducible refine Wd.g_bm0 ?_
  | with_reducible refine Wd.g_sl ?_
  | with_reducible refine Wd.g_part ?_
  | with_reducible refine Wd.g_part1 ?_
  | with_reducible refine Wd.g_noPart ?_
  | with_reducible refine Wd.g_next ?_
  | with_reducible refine Wd.g_name ?_
  | with_reducible refine Wd.g_sub ?_
  | with_reducible refine Wd.g_gnil ?_
  | with_reducible refine Wd.g_gcons ?_
  | with_reducible refine Wd.g_drop ?_
  | with_reducible refine Wd.g_ret ?_
  | with_reducible refine Wd.g_retN ?_
  | with_reducible refine Wd.g_brk ?_
  | with_reducible refine Wd.g_cont ?_
  | ((with_reducible show L2.Ends.bk _ _ _); (with_reducible refine Wd.g_bk ?_))
  | ((with_reducible show L2.Ends.ct _ _ _); (with_reducible refine Wd.g_ct ?_))
  | ((with_reducible show L2.Ends.rt _ _ _); (with_reducible refine Wd.g_rt ?_))
  | with_reducible refine Wd.g_for ?_
  | with_reducible refine Wd.g_rng1 ?_
  | with_reducible refine Wd.g_rng2 ?_
  | with_reducible refine Wd.g_iList ?_
  | with_reducible refine Wd.g_iTup ?_
  | ((with_reducible refine Wd.g_fit ?h1 ?_); (case h1 => exact rfl))
  | with_reducible refine Wd.g_max2 ?_
  | with_reducible refine Wd.g_min2 ?_
  | with_reducible refine Wd.g_int1B ?_
  | with_reducible refine L2.iteT ?_
  | with_reducible refine L2.iteF ?_
  | ((with_reducible refine Wd.g_itT ?h1 ?_); (case h1 => exact rfl))
  | ((with_reducible refine Wd.g_itF ?h1 ?_); (case h1 => exact rfl))))
theorem keepF {N : Addr → Prop} {D : Addr} {H H' : Hp} (nD : N D) (f : Frm D H H') : ∀ b o, ¬ N b → H b = some o → H' b = some o := fun b o nb e => f b o (fun y => nb (by rw [y]; exact nD)) e
theorem frm_trans {D : Addr} {H H1 H2 : Hp} (f : Frm D H H1) (g : Frm D H1 H2) : Frm D H H2 := fun b o n h => g b o n (f b o n h)
theorem g_fld {K : PySem.W.Frag} {te : TE} {f : Str} {σ : L2.St} {H : Hp} {Q : VK} (h : te σ H fun x H1 => ∃ a C dx fs v, x = .ref a ∧ H1 a = some (.ins C dx fs) ∧ Cls K C ∧ NoAttr K C f ∧ fs.lookup f = some v ∧ Q v H1) : tFld K te f σ H Q := h
theorem WaysR.len {Y : Wy} {N : Addr → Prop} {H : Hp} : ∀ {vs : List V} {ps : List Pl} {z g : Nat}, WaysR Y N H vs ps z g → vs.length = ps.length
  | _, _, _, _, .nil => rfl
  | _, _, _, _, .snoc a b => by rw [List.length_append, WaysR.len a]; rfl
theorem WaysR.inv {Y : Wy} {N : Addr → Prop} {H : Hp} {vs : List V} {ps : List Pl} {z g : Nat} (h : WaysR Y N H vs ps z g) :
    (vs = [] ∧ ps = [] ∧ g = z) ∨ ∃ (us : List V) (qs : List Pl) (v : V) (p : Pl) (g1 : Nat), vs = us ++ [v] ∧ ps = p :: qs ∧ WaysR Y N H us qs z g1 ∧ WayA Y N H v p g1 g := by
  cases h with
  | nil => exact .inl ⟨rfl, rfl, rfl⟩
  | snoc a b => exact .inr ⟨_, _, _, _, _, rfl, rfl, a, b⟩
theorem mxs_drop {ps : List Pl} {i : Nat} {p : Pl} {qs : List Pl} (h : ps.drop i = p :: qs) : mxs (ps.drop i) = mx p + mxs (ps.drop (i + 1)) := by
  have : ps.drop (i + 1) = qs := by rw [← List.drop_drop, h]; rfl
  rw [h, this]; simp only [mxs]
section
variable {P : Program} {w : World} {K : PySem.W.Frag} {mg : Str → Option Value} {base : Heap} {CWt WP WK WR WE WL : Addr}
abbrev s_RowWay_lead : Stmt := (C8.clsBody (top 43)).getD 1 (.Pass ⟨0, 0, 0, 0⟩)
theorem sc_RowWay_lead : FnScope ["self", "gap", "delays", "way"] ["self", "gap", "delays"] (C8.fnScope s_RowWay_lead) := C8.fnScope_by (by decide +kernel)
theorem ok_rlead {n : Nat} (T2 : TxtY K WP WK WR WE WL) (T : TxtJ K mg) {f : Addr} {fd : FuncData} (me : Meth K WR "lead" f) (F : C8.Fun K "lead" "RowWay.lead" s_RowWay_lead f fd) (b : Binds K fd ["self", "gap", "delays"] []) (m_lead : MetS P w K mg base (2 + n) (CsL K CWt WP WK WR WE WL n) "lead") :
    C8.Met P w K mg base (3 + n) WR "lead" (sp_ld K CWt WP WK WR WE WL (n + 1) 2) [] := by
  have lv : 3 + n = (2 + n) + 1 := by omega
  rw [lv]
  refine C8.met0 T2.cR me F b sc_RowWay_lead (fun vs H Q E h => ?_) fun cdv A outer s H vs Q E hr h => ?_
  · obtain ⟨N, v, D, Wt, ds, p, g, lo, hi, l, z, gz, _, rfl, _⟩ := h; rfl
  · obtain ⟨N, v, D, Wt, ds, p, g, lo, hi, l, z, gz, hs, rfl, wa, nD, ⟨dw, hW⟩, l1, hD, ok, hg, ht, hm, q⟩ := h
    have nd := sc_RowWay_lead.nd
    refine ⟨_, (pss_cons (ps_for PassesOwn.never rfl (pi_revA (by rfl) T.n_reversed (pe_fld (pv 0) rfl)) (pg_name (i := 3) nd rfl (Or.inl rfl)) (pss_one (ps_set (i := 1) nd rfl (Or.inl rfl) (pe_mtS m_lead hr (by first | decide | exact Nat.le_refl _ | omega) (pv 3) (pa_cons (pv 1) (pa_cons (pv 2) pa_nil))))))
      (pss_one (ps_ret (pv 1)))), ?_⟩
    cases wa with
    | pat _ _ _ => cases hs
    | work _ _ _ => cases hs
    | either _ _ _ _ _ _ => cases hs
    | loop _ _ _ _ _ _ _ _ _ => cases hs
    | @row R dx L vs ps _ _ h nR hL nL wr bt =>
      unfold okP at ok
      have nRD : R ≠ D := fun y => nR (by rw [y]; exact nD)
      have nLD : L ≠ D := fun y => nL (by rw [y]; exact nD)
      have nWD : Wt ≠ D := ne_of hW hD (fun y => nomatch y)
      have vl := wr.len
      walk_at "go"
      refine g_rev ?_
      refine g_fldV rfl h T2.cR T2.rY rfl ?_
      refine w_revL (xs := vs) (fun i σ H' => ∃ (gi g1 : Nat) (as : List Int) (v3 : Option V), σ = [some (.ref R), some (nV g1), some (.ref D), v3] ∧ Frm D H H' ∧ H' D = some (.lst ((ds ++ as).map V.int)) ∧ WaysR ⟨WP, WK, WR, WE, WL, Wt, lo, hi⟩ N H' (vs.take (vs.length - i)) (ps.drop i) z gi ∧ gi.testBit g1 = true ∧ g1 ≤ hi + 1 ∧
        (∀ b g2, Go lo hi (rns (ps.drop i)) g1 b g2 → Go lo hi (rns ps) g (as ++ b) g2) ∧ as.length + mxs (ps.drop i) ≤ mxs ps) ?_ ?_ ?_ ?_
      · exact ⟨gz, g, [], _, rfl, fun b o _ h => h, by rw [List.append_nil]; exact hD, by rw [Nat.sub_zero, List.take_length]; exact wr, ht, hg, fun b g2 h => h, by rw [List.length_nil, List.drop_zero]; omega⟩
      · rintro i σ H' ⟨gi, g1, as, v3, rfl, f1, _⟩
        exact SqL.of (f1 _ _ nLD hL)
      · rintro i x σ H' hi' hx ⟨gi, g1, as, v3, rfl, f1, e1, w1, t1, le1, go1, m1⟩
        rcases w1.inv with ⟨y, _⟩ | ⟨us, qs, v, p, g', eu, ep, w2, wa⟩
        · have := congrArg List.length y
          rw [List.length_take, List.length_nil] at this
          omega
        have ul : us.length = vs.length - 1 - i := by
          have := congrArg List.length eu
          rw [List.length_take, List.length_append, List.length_singleton] at this
          omega
        have ev : us = vs.take (vs.length - (i + 1)) ∧ x = v := by
          have h1 : (vs.take (vs.length - i))[vs.length - 1 - i]? = some x := by rw [List.getElem?_take_of_lt (by omega)]; exact hx
          rw [eu, ← ul, List.getElem?_concat_length] at h1
          refine ⟨?_, (Option.some.inj h1).symm⟩
          have h2 := congrArg (List.take us.length) eu
          rw [List.take_take, List.take_left] at h2
          rw [← h2]
          congr 1
          omega
        obtain ⟨rfl, rfl⟩ : us = vs.take (vs.length - (i + 1)) ∧ v = x := ⟨ev.1, ev.2.symm⟩
        have eq : ps.drop (i + 1) = qs := by rw [← List.drop_drop, ep]; rfl
        have pk : ps[i]? = some p := by
          have := congrArg (·[0]?) ep
          simp only [List.getElem?_drop, Nat.add_zero] at this
          exact this
        have md := mxs_drop ep
        have mrow : mx (.row ps) = mxs ps := by simp only [mx]
        walk_at "go"
        refine g_mtS ?_
        walk_at "go"
        refine use_ldV (l := l) rfl rfl wa nD ⟨dw, f1 _ _ nWD hW⟩ l1 e1 (okPs_at ok.2.2 pk) le1 t1 (by rw [List.length_append]; omega) fun H2 as2 g2 f2 e2 go2 t2 le2 m2 => ?_
        walk_at "go"
        refine ⟨g', g2, as ++ as2, _, rfl, frm_trans f1 f2, by rw [← List.append_assoc]; exact e2, by rw [eq]; exact WaysR.keep (keepF nD f2) w2, t2, le2, fun b g3 hb => ?_, by rw [List.length_append]; omega⟩
        rw [List.append_assoc]
        refine go1 _ _ ?_
        rw [ep, ← eq]
        exact go_cons go2 hb
      · rintro σ H' ⟨gi, g1, as, v3, rfl, f1, e1, w1, t1, le1, go1, m1⟩
        rw [Nat.sub_self, List.take_zero] at w1
        rw [vl, List.drop_length] at w1 go1
        rcases w1.inv with ⟨_, _, rfl⟩ | ⟨us, qs, v, p, g', eu, _⟩
        · walk_at "go"
          refine q _ as g1 f1 e1 (go_row (by have := go1 [] g1 go_nil; rw [List.append_nil] at this; exact this)) t1 le1 (by simp only [mx]; omega)
        · exact absurd (congrArg List.length eu) (by rw [List.length_append]; exact fun y => nomatch y)
end
end K10
namespace K10
open PySem PySem.Spec PyProof.Rows L2 Wd RT
local macro_rules | `(tactic| walk_at "gs") => `(tactic| repeat (first
  | with_reducible refine Wd.g_seq ?_
  | ((with_reducible show L2.Ends.nx _ _ _); (with_reducible refine Wd.g_nx ?_))
  | with_reducible refine Wd.g_asg ?_
  | ((with_reducible refine' Wd.g_var ?h1 ?_); (case h1 => exact rfl))
  | with_reducible refine Wd.g_c ?_
  | with_reducible refine Wd.g_op ?_
  | with_reducible refine Wd.g_un ?_
  | with_reducible refine Wd.g_I0 ?_
  | with_reducible refine Wd.g_U ?_
  | with_reducible refine Wd.g_eqI ?_
  | with_reducible refine Wd.g_neI ?_
  | with_reducible refine Wd.g_eqS ?_
  | with_reducible refine Wd.g_neS ?_
  | with_reducible refine Wd.g_eqB ?_
  | with_reducible refine Wd.g_neB ?_
  | with_reducible refine Wd.g_isN ?_
  | with_reducible refine Wd.g_notN ?_
  | with_reducible refine Wd.g_lc ?_
  | with_reducible refine Wd.g_yes ?_
  | with_reducible refine Wd.g_test ?_
  | with_reducible refine Wd.g_tB ?_
  | with_reducible refine Wd.g_bl ?_
  | with_reducible refine Wd.g_blI ?_
  | with_reducible refine Wd.g_and ?_
  | with_reducible refine Wd.g_or ?_
  | with_reducible refine Wd.g_not ?_
  | with_reducible refine Wd.g_andV ?_
  | with_reducible refine Wd.g_orV ?_
  | with_reducible refine Wd.g_notV ?_
  | with_reducible refine Wd.g_if ?_
  | with_reducible refine Wd.g_chain ?_
  | with_reducible refine Wd.g_chain3 ?_
  | with_reducible refine Wd.g_nil ?_
  | with_reducible refine Wd.g_cons ?_
  | with_reducible refine Wd.g_tup ?_
  | with_reducible refine Wd.g_lst ?_
  | with_reducible refine Wd.g_CB ?_
  | with_reducible refine Wd.g_call ?_
  | with_reducible refine Wd.g_callS ?_
  | with_reducible refine Wd.g_bm ?_
  | with_reducible refine Wd.g_bm0 ?_
  | with_reducible refine Wd.g_sl ?_
  | with_reducible refine Wd.g_part ?_
  | with_reducible refine Wd.g_part1 ?_
  | with_reducible refine Wd.g_noPart ?_
  | with_reducible refine Wd.g_next ?_
  | with_reducible refine Wd.g_name ?_
  | with_reducible refine Wd.g_sub ?_
  | with_reducible refine Wd.g_gnil ?_
  | with_reducible refine Wd.g_gcons ?_
  | with_reducible refine Wd.g_drop ?_
  | with_reducible refine Wd.g_ret ?_
  | with_reducible refine Wd.g_retN ?_
  | with_reducible refine Wd.g_brk ?_
  | with_reducible refine Wd.g_cont ?_
  | ((with_reducible show L2.Ends.bk _ _ _); (with_reducible refine Wd.g_bk ?_))
  | ((with_reducible show L2.Ends.ct _ _ _); (with_reducible refine Wd.g_ct ?_))
  | ((with_reducible show L2.Ends.rt _ _ _); (with_reducible refine Wd.g_rt ?_))
  | with_reducible refine Wd.g_for ?_
  | with_reducible refine Wd.g_rng1 ?_
  | with_reducible refine Wd.g_rng2 ?_
  | with_reducible refine Wd.g_iList ?_
  | with_reducible refine Wd.g_iTup ?_
  | ((with_reducible refine Wd.g_fit ?h1 ?_); (case h1 => exact rfl))
  | with_reducible refine Wd.g_max2 ?_
  | with_reducible refine Wd.g_min2 ?_
  | with_reducible refine Wd.g_int1B ?_
  | with_reducible refine L2.iteT ?_
  | with_reducible refine L2.iteF ?_
  | ((with_reducible refine Wd.g_itT ?h1 ?_); (case h1 => exact rfl))
  | ((with_reducible refine Wd.g_itF ?h1 ?_); (case h1 => exact rfl))))
theorem ledE_at {lo hi : Nat} {G : Nat → Prop} {g : Nat} : ∀ {ps : List Pl}, LedE lo hi ps G g → ∃ (k : Nat) (p : Pl), ps[k]? = some p ∧ Led lo hi p G g
  | [], h => by unfold LedE at h; exact h.elim
  | p :: ps, h => by
    unfold LedE at h
    rcases h with h | h
    · exact ⟨0, p, rfl, h⟩
    · obtain ⟨k, q, h1, h2⟩ := ledE_at h
      exact ⟨k + 1, q, h1, h2⟩
theorem WaysE.at2 {Y : Wy} {N : Addr → Prop} {H : Hp} : ∀ {vs : List V} {ps : List Pl} {z i : Nat} {p : Pl}, WaysE Y N H vs ps z → ps[i]? = some p → ∃ v g, vs[i]? = some v ∧ WayA Y N H v p z g
  | _, _, _, _, _, .nil, h => nomatch h
  | _, _, _, 0, _, .cons (v := v) (g := g) a b, h => by cases h; exact ⟨v, g, rfl, a⟩
  | _, _, _, i + 1, _, .cons a b, h => WaysE.at2 (i := i) b h
section
variable {P : Program} {w : World} {K : PySem.W.Frag} {mg : Str → Option Value} {base : Heap} {CWt WP WK WR WE WL : Addr}
abbrev s_EitherWay_lead : Stmt := (C8.clsBody (top 44)).getD 1 (.Pass ⟨0, 0, 0, 0⟩)
theorem sc_EitherWay_lead : FnScope ["self", "gap", "delays", "which"] ["self", "gap", "delays"] (C8.fnScope s_EitherWay_lead) := C8.fnScope_by (by decide +kernel)
theorem ok_elead {n : Nat} (T2 : TxtY K WP WK WR WE WL) (T : TxtJ K mg) {f : Addr} {fd : FuncData} (me : Meth K WE "lead" f) (F : C8.Fun K "lead" "EitherWay.lead" s_EitherWay_lead f fd) (b : Binds K fd ["self", "gap", "delays"] []) (m_lead : MetS P w K mg base (2 + n) (CsL K CWt WP WK WR WE WL n) "lead") (g_holds : C8.Cal P w K mg base 1 "holds" sp_holds []) :
    C8.Met P w K mg base (3 + n) WE "lead" (sp_ld K CWt WP WK WR WE WL (n + 1) 3) [] := by
  have lv : 3 + n = (2 + n) + 1 := by omega
  rw [lv]
  refine C8.met0 T2.cE me F b sc_EitherWay_lead (fun vs H Q E h => ?_) fun cdv A outer s H vs Q E hr h => ?_
  · obtain ⟨N, v, D, Wt, ds, p, g, lo, hi, l, z, gz, _, rfl, _⟩ := h; rfl
  · obtain ⟨N, v, D, Wt, ds, p, g, lo, hi, l, z, gz, hs, rfl, wa, nD, ⟨dw, hW⟩, l1, hD, ok, hg, ht, hm, q⟩ := h
    have nd := sc_EitherWay_lead.nd
    refine ⟨_, (pss_cons (ps_set (i := 3) nd rfl (Or.inl rfl) pe_int)
      (pss_cons (ps_while PassesOwn.never (pt_not (pt_val (C8.pe_c g_holds hr (by first | decide | exact Nat.le_refl _ | omega) (by rfl) (pa_cons (pe_fld (pe_ix (r := rIxL K) ix_list (pe_fld (pv 0) rfl) (pv 3) (fun _ _ => rfl)) rfl) (pa_cons (pv 1) pa_nil))))) (pss_one (ps_aug (i := 3) nd rfl (Or.inl rfl) pe_int ip_add)))
      (pss_cons (ps_expr (pe_bmK (K := K) rfl PySem.F.plainAttrs_list PySem.F.slot_list_append PySem.F.type_list_append mt_append (pv 2) (pa_cons (pv 3) pa_nil)))
      (pss_one (ps_ret (pe_mtS m_lead hr (by first | decide | exact Nat.le_refl _ | omega) (pe_ix (r := rIxL K) ix_list (pe_fld (pv 0) rfl) (pv 3) (fun _ _ => rfl)) (pa_cons (pv 1) (pa_cons (pv 2) pa_nil)))))))), ?_⟩
    cases wa with
    | pat _ _ _ => cases hs
    | work _ _ _ => cases hs
    | row _ _ _ _ _ _ => cases hs
    | loop _ _ _ _ _ _ _ _ _ => cases hs
    | @either R dx L vs ps _ _ h nR hL nL we bt =>
      unfold okP at ok
      have nRD : R ≠ D := fun y => nR (by rw [y]; exact nD)
      have nLD : L ≠ D := fun y => nL (by rw [y]; exact nD)
      have nWD : Wt ≠ D := ne_of hW hD (fun y => nomatch y)
      have hz := (bt.bit g hg).mp ht
      unfold Led at hz
      obtain ⟨k0, p0, pk0, led0⟩ := ledE_at hz
      obtain ⟨v0, g0, vk0, wa0⟩ := we.at2 pk0
      have t0 := (wa0.bits.bit g hg).mpr led0
      have vl := we.len
      have k0l : k0 < vs.length := (List.getElem?_eq_some_iff.mp vk0).1
      walk_at "go"
      refine w_loop (fun k σ H' => ∃ d : Nat, σ = [some (.ref R), some (nV g), some (.ref D), some (nV d)] ∧ H' = H ∧ d ≤ k0 ∧ k = k0 - d) k0 ?_ ?_
      · exact ⟨0, rfl, rfl, Nat.zero_le _, rfl⟩
      · rintro k σ H' ⟨d, rfl, rfl, c2, rfl⟩
        obtain ⟨v, hv⟩ : ∃ v, vs[d]? = some v := ⟨vs[d], List.getElem?_eq_getElem (by omega)⟩
        obtain ⟨p, gp, hp, wa⟩ := we.at hv
        obtain ⟨R', C', dx', fs', ev, hR', _, cls', na', lk', _⟩ := WayA.at_ (K := K) T2 wa
        have atv : atI vs (d : Int) = some v := at_of (j := d) (by omega) hv
        walk_at "go"
        refine g_fld ?_
        walk_at "go"
        refine g_fldV rfl h T2.cE T2.eY rfl ?_
        walk_at "go"
        refine g_ixL (SqL.of hL) atv ?_
        refine ⟨R', C', dx', fs', nV gp, ev, hR', cls', na', lk', ?_⟩
        walk_at "go"
        refine ⟨gp, g, rfl, ?_⟩
        refine ⟨_, rfl, ?_⟩
        by_cases c : gp.testBit g = true
        · rw [if_neg (by rw [c]; exact Bool.false_ne_true)]
          walk_at "go"
          refine g_tyL hD ?_
          walk_at "go"
          have dl : ds.length < 16000000 := by omega
          refine ⟨_, _, _, rfl, rfl, hD, by rw [List.length_map]; exact Nat.lt_of_lt_of_le dl (by decide), ?_⟩
          have eD := upd_same (H := H') (a := D) (o := .lst (ds.map V.int ++ [nV d]))
          have eR := (upd_ne (H := H') (o := .lst (ds.map V.int ++ [nV d])) nRD).trans h
          have eL := (upd_ne (H := H') (o := .lst (ds.map V.int ++ [nV d])) nLD).trans hL
          have eW := (upd_ne (H := H') (o := .lst (ds.map V.int ++ [nV d])) nWD).trans hW
          have fD : Frm D H' (upd H' D (.lst (ds.map V.int ++ [nV d]))) := .set
          have wa2 := WayA.keep (keepN (o := .lst (ds.map V.int ++ [nV d])) nD) wa
          generalize upd H' D (.lst (ds.map V.int ++ [nV d])) = H2 at eD eR eL eW fD wa2 ⊢
          have eD2 : H2 D = some (.lst ((ds ++ [(d : Int)]).map V.int)) := by rw [eD, List.map_append]; rfl
          have mxp := mx_either hp
          walk_at "go"
          refine g_mtS ?_
          walk_at "go"
          refine g_fldV rfl eR T2.cE T2.eY rfl ?_
          walk_at "go"
          refine g_ixL (SqL.of eL) atv ?_
          refine use_ldV (l := l) rfl rfl wa2 nD ⟨dw, eW⟩ l1 eD2 (okPs_at ok.2.2 hp) hg c (by rw [List.length_append, List.length_singleton]; omega) fun H3 as2 g2 f3 e3 go3 t3 le3 m3 => ?_
          walk_at "go"
          refine q H3 ((d : Int) :: as2) g2 (frm_trans fD f3) (by rw [e3, List.append_assoc]; rfl) (go_either hp go3) t3 le3 (by rw [List.length_cons]; omega)
        · rw [if_pos (by rw [Bool.not_eq_true] at c; rw [c]; rfl)]
          have ne : d ≠ k0 := fun y => by
            subst y
            rw [hv] at vk0
            obtain rfl := Option.some.inj vk0
            rw [hp] at pk0
            obtain rfl := Option.some.inj pk0
            exact c ((wa.bits.bit g hg).mpr led0)
          refine ⟨fun σ' H'' => ∃ d' : Nat, σ' = [some (.ref R), some (nV g), some (.ref D), some (nV d')] ∧ H'' = H' ∧ d' ≤ k0 ∧ d < d', fun σ' H'' ⟨d', e1, e2, e4, e5⟩ => ⟨k0 - d', by omega, d', e1, e2, e4, rfl⟩, ?_⟩
          refine ⟨_, rfl, ⟨_, _, rfl, rfl, ?_⟩⟩
          exact ⟨d + 1, rfl, rfl, by omega, by omega⟩
end
end K10
namespace K10
open PySem PySem.Spec PyProof.Rows L2 Wd RT
local macro_rules | `(tactic| walk_at "gs") => `(tactic| repeat (first
  | with_reducible refine Wd.g_seq ?_
  | ((with_reducible show L2.Ends.nx _ _ _); (with_reducible refine Wd.g_nx ?_))
  | with_reducible refine Wd.g_asg ?_
  | ((with_reducible refine' Wd.g_var ?h1 ?_); (case h1 => exact rfl))
  | with_reducible refine Wd.g_c ?_
  | with_reducible refine Wd.g_op ?_
  | with_reducible refine Wd.g_un ?_
  | with_reducible refine Wd.g_I0 ?_
  | with_reducible refine Wd.g_U ?_
  | with_reducible refine Wd.g_eqI ?_
  | with_reducible refine Wd.g_neI ?_
  | with_reducible refine Wd.g_eqS ?_
  | with_reducible refine Wd.g_neS ?_
  | with_reducible refine Wd.g_eqB ?_
  | with_reducible refine Wd.g_neB ?_
  | with_reducible refine Wd.g_isN ?_
  | with_reducible refine Wd.g_notN ?_
  | with_reducible refine Wd.g_lc ?_
  | with_reducible refine Wd.g_yes ?_
  | with_reducible refine Wd.g_test ?_
  | with_reducible refine Wd.g_tB ?_
  | with_reducible refine Wd.g_bl ?_
  | with_reducible refine Wd.g_blI ?_
  | with_reducible refine Wd.g_and ?_
  | with_reducible refine Wd.g_or ?_
  | with_reducible refine Wd.g_not ?_
  | with_reducible refine Wd.g_andV ?_
  | with_reducible refine Wd.g_orV ?_
  | with_reducible refine Wd.g_notV ?_
  | with_reducible refine Wd.g_if ?_
  | with_reducible refine Wd.g_chain ?_
  | with_reducible refine Wd.g_chain3 ?_
  | with_reducible refine Wd.g_nil ?_
  | with_reducible refine Wd.g_cons ?_
  | with_reducible refine Wd.g_tup ?_
  | with_reducible refine Wd.g_lst ?_
  | with_reducible refine Wd.g_CB ?_
  | with_reducible refine Wd.g_call ?_
  | with_reducible refine Wd.g_callS ?_
  | with_reducible refine Wd.g_bm ?_
  | with_reducible refine Wd.g_bm0 ?_
  | with_reducible refine Wd.g_sl ?_
  | with_reducible refine Wd.g_part ?_
  | with_reducible refine Wd.g_part1 ?_
  | with_reducible refine Wd.g_noPart ?_
  | with_reducible refine Wd.g_next ?_
  | with_reducible refine Wd.g_name ?_
  | with_reducible refine Wd.g_sub ?_
  | with_reducible refine Wd.g_gnil ?_
  | with_reducible refine Wd.g_gcons ?_
  | with_reducible refine Wd.g_drop ?_
  | with_reducible refine Wd.g_ret ?_
  | with_reducible refine Wd.g_retN ?_
  | with_reducible refine Wd.g_brk ?_
  | with_reducible refine Wd.g_cont ?_
  | ((with_reducible show L2.Ends.bk _ _ _); (with_reducible refine Wd.g_bk ?_))
  | ((with_reducible show L2.Ends.ct _ _ _); (with_reducible refine Wd.g_ct ?_))
  | ((with_reducible show L2.Ends.rt _ _ _); (with_reducible refine Wd.g_rt ?_))
  | with_reducible refine Wd.g_for ?_
  | with_reducible refine Wd.g_rng1 ?_
  | with_reducible refine Wd.g_rng2 ?_
  | with_reducible refine Wd.g_iList ?_
  | with_reducible refine Wd.g_iTup ?_
  | ((with_reducible refine Wd.g_fit ?h1 ?_); (case h1 => exact rfl))
  | with_reducible refine Wd.g_max2 ?_
  | with_reducible refine Wd.g_min2 ?_
  | with_reducible refine Wd.g_int1B ?_
  | with_reducible refine L2.iteT ?_
  | with_reducible refine L2.iteF ?_
  | ((with_reducible refine Wd.g_itT ?h1 ?_); (case h1 => exact rfl))
  | ((with_reducible refine Wd.g_itF ?h1 ?_); (case h1 => exact rfl))))
theorem cut_to {α : Type} (l : List α) (f : α → V) {b : Nat} (hb : b ≤ l.length) : cutV (l.map f) none (some (b : Int)) = (l.take b).map f := by
  unfold cutV
  rw [HT.sIx_nat, HT.sIx_none, List.length_map, Nat.min_eq_left hb, List.drop_zero, Nat.sub_zero, List.map_take]
theorem cut_toV (l : List V) {b : Nat} (hb : b ≤ l.length) : cutV l none (some (b : Int)) = l.take b := by
  have := cut_to l id hb
  rw [List.map_id, List.map_id] at this
  exact this
theorem WaysL.bit {Y : Wy} {N : Addr → Prop} {H : Hp} : ∀ {ts : List V} {p : Pl} {z : Nat} {zs : List Nat}, WaysL Y N H ts p z zs → ∀ {n g : Nat}, zs[n]? = some g → ∀ i, i ≤ Y.hi + 1 → (g.testBit i = true ↔ iterP (Led Y.lo Y.hi p) n (inS z) i)
  | _, _, z, _, .nil, n, g, e => by
    match n, e with
    | 0, e =>
      obtain rfl : z = g := Option.some.inj e
      exact fun i _ => Iff.rfl
  | _, p, z, _, .snoc (ts := ts) (zs := zs) (g := g1) (g2 := g2) a b, n, g, e => by
    by_cases c : n < (zs ++ [g1]).length
    · rw [List.getElem?_append_left c] at e
      exact WaysL.bit a e
    · have c2 : n < (zs ++ [g1] ++ [g2]).length := (List.getElem?_eq_some_iff.mp e).1
      have en : n = (zs ++ [g1]).length := by rw [List.length_append (bs := [g2]), List.length_singleton] at c2; omega
      subst en
      rw [List.getElem?_concat_length] at e
      obtain rfl : g2 = g := Option.some.inj e
      have b1 := WaysL.bit a (n := zs.length) (g := g1) List.getElem?_concat_length
      rw [List.length_append, List.length_singleton]
      refine fun i hi' => (b.bits.bit i hi').trans ?_
      show Led Y.lo Y.hi p (inS g1) i ↔ Led Y.lo Y.hi p (iterP (Led Y.lo Y.hi p) zs.length (inS z)) i
      exact ⟨Led.congr p (fun j hj x => (b1 j hj).mp x) i hi', Led.congr p (fun j hj x => (b1 j hj).mpr x) i hi'⟩
theorem WaysL.zero {Y : Wy} {N : Addr → Prop} {H : Hp} : ∀ {ts : List V} {p : Pl} {z : Nat} {zs : List Nat}, WaysL Y N H ts p z zs → zs[0]? = some z
  | _, _, _, _, .nil => rfl
  | _, _, _, _, .snoc (zs := zs) (g := g) a b => by
    rw [List.getElem?_append_left (by rw [List.length_append, List.length_singleton]; omega)]
    exact WaysL.zero a
theorem WaysL.at {Y : Wy} {N : Addr → Prop} {H : Hp} : ∀ {ts : List V} {p : Pl} {z : Nat} {zs : List Nat}, WaysL Y N H ts p z zs → ∀ {k : Nat} {v : V}, ts[k]? = some v → ∃ g g2, zs[k]? = some g ∧ zs[k + 1]? = some g2 ∧ WayA Y N H v p g g2
  | _, _, _, _, .nil, k, v, e => nomatch e
  | _, p, z, _, .snoc (ts := ts) (zs := zs) (v := v1) (g := g1) (g2 := g2) a b, k, v, e => by
    have al := a.len
    rw [List.length_append, List.length_singleton] at al
    by_cases c : k < ts.length
    · rw [List.getElem?_append_left c] at e
      obtain ⟨g, g', h1, h2, h3⟩ := WaysL.at a e
      exact ⟨g, g', by rw [List.getElem?_append_left (by rw [List.length_append, List.length_singleton]; omega)]; exact h1, by rw [List.getElem?_append_left (by rw [List.length_append, List.length_singleton]; omega)]; exact h2, h3⟩
    · have c2 : k < (ts ++ [v1]).length := (List.getElem?_eq_some_iff.mp e).1
      have en : k = ts.length := by rw [List.length_append, List.length_singleton] at c2; omega
      subst en
      rw [List.getElem?_concat_length] at e
      obtain rfl : v1 = v := Option.some.inj e
      have el : ts.length = zs.length := by omega
      refine ⟨g1, g2, ?_, ?_, b⟩
      · rw [el, List.getElem?_append_left (by rw [List.length_append, List.length_singleton]; omega)]
        exact List.getElem?_concat_length
      · have : ts.length + 1 = (zs ++ [g1]).length := by rw [List.length_append, List.length_singleton, el]
        rw [this]
        exact List.getElem?_concat_length
section
variable {P : Program} {w : World} {K : PySem.W.Frag} {mg : Str → Option Value} {base : Heap} {CWt WP WK WR WE WL : Addr}
abbrev s_LoopWay_lead : Stmt := (C8.clsBody (top 45)).getD 1 (.Pass ⟨0, 0, 0, 0⟩)
theorem sc_LoopWay_lead : FnScope ["self", "gap", "delays", "times", "way"] ["self", "gap", "delays"] (C8.fnScope s_LoopWay_lead) := C8.fnScope_by (by decide +kernel)
theorem ok_llead {n : Nat} (T2 : TxtY K WP WK WR WE WL) (T : TxtJ K mg) {f : Addr} {fd : FuncData} (me : Meth K WL "lead" f) (F : C8.Fun K "lead" "LoopWay.lead" s_LoopWay_lead f fd) (b : Binds K fd ["self", "gap", "delays"] []) (m_lead : MetS P w K mg base (2 + n) (CsL K CWt WP WK WR WE WL n) "lead") (g_holds : C8.Cal P w K mg base 1 "holds" sp_holds []) :
    C8.Met P w K mg base (3 + n) WL "lead" (sp_ld K CWt WP WK WR WE WL (n + 1) 4) [] := by
  have lv : 3 + n = (2 + n) + 1 := by omega
  rw [lv]
  refine C8.met0 T2.cL me F b sc_LoopWay_lead (fun vs H Q E h => ?_) fun cdv A outer s H vs Q E hr h => ?_
  · obtain ⟨N, v, D, Wt, ds, p, g, lo, hi, l, z, gz, _, rfl, _⟩ := h; rfl
  · obtain ⟨N, v, D, Wt, ds, p, g, lo, hi, l, z, gz, hs, rfl, wa, nD, ⟨dw, hW⟩, l1, hD, ok, hg, ht, hm, q⟩ := h
    have nd := sc_LoopWay_lead.nd
    refine ⟨_, (pss_cons (ps_set (i := 3) nd rfl (Or.inl rfl) (pe_fld (pv 0) rfl))
      (pss_cons (ps_while PassesOwn.never (pt_not (pt_val (C8.pe_c g_holds hr (by first | decide | exact Nat.le_refl _ | omega) (by rfl) (pa_cons (pe_ix (r := rIxL K) ix_list (pe_fld (pv 0) rfl) (pv 3) (fun _ _ => rfl)) (pa_cons (pv 1) pa_nil))))) (pss_one (ps_aug (i := 3) nd rfl (Or.inl rfl) pe_int ip_add)))
      (pss_cons (ps_expr (pe_bmK (K := K) rfl PySem.F.plainAttrs_list PySem.F.slot_list_append PySem.F.type_list_append mt_append (pv 2) (pa_cons (pv 3) pa_nil)))
      (pss_cons (ps_for PassesOwn.never rfl (pi_revA (by rfl) T.n_reversed (pe_slice (r := rSlL K) sl_list (pe_fld (pv 0) rfl) po_none (po_some (pv 3)))) (pg_name (i := 4) nd rfl (Or.inl rfl)) (pss_one (ps_set (i := 1) nd rfl (Or.inl rfl) (pe_mtS m_lead hr (by first | decide | exact Nat.le_refl _ | omega) (pv 4) (pa_cons (pv 1) (pa_cons (pv 2) pa_nil))))))
      (pss_one (ps_ret (pv 1))))))), ?_⟩
    cases wa with
    | pat _ _ _ => cases hs
    | work _ _ _ => cases hs
    | row _ _ _ _ _ _ => cases hs
    | either _ _ _ _ _ _ => cases hs
    | @loop R dx TT O ts zs p a b _ _ h nR hT nT hO nO wl tl bt =>
      match l, ok with
      | 0, ok => unfold okP at ok; exact ok.elim
      | l + 1, ok =>
      unfold okP at ok
      have nRD : R ≠ D := fun y => nR (by rw [y]; exact nD)
      have nTD : TT ≠ D := fun y => nT (by rw [y]; exact nD)
      have nOD : O ≠ D := fun y => nO (by rw [y]; exact nD)
      have nWD : Wt ≠ D := ne_of hW hD (fun y => nomatch y)
      have hz := (bt.bit g hg).mp ht
      unfold Led at hz
      obtain ⟨n0, b1, b2, b3⟩ := hz
      have zl := wl.len
      have mxl : mx (.loop a b p) = 1 + 9 * mx p := by simp only [mx]
      walk_at "go"
      refine g_fldV rfl h T2.cL T2.lL rfl ?_
      refine w_loop (fun k σ H' => ∃ (d : Nat) (v4 : Option V), σ = [some (.ref R), some (nV g), some (.ref D), some (nV d), v4] ∧ H' = H ∧ a ≤ d ∧ d ≤ n0 ∧ k = n0 - d) (n0 - a) ?_ ?_
      · exact ⟨a, _, rfl, rfl, Nat.le_refl _, by omega, rfl⟩
      · rintro k σ H' ⟨d, v4, rfl, rfl, c1, c2, rfl⟩
        obtain ⟨gd, hgd⟩ : ∃ v, zs[d]? = some v := ⟨zs[d], List.getElem?_eq_getElem (by omega)⟩
        have bd := wl.bit hgd g hg
        walk_at "go"
        refine g_fldV rfl h T2.cL T2.lO rfl ?_
        walk_at "go"
        refine g_ixL (SqL.of hO) (atN (i := d) rfl hgd) ?_
        walk_at "go"
        refine ⟨gd, g, rfl, ?_⟩
        refine ⟨_, rfl, ?_⟩
        by_cases c : gd.testBit g = true
        · rw [if_neg (by rw [c]; exact Bool.false_ne_true)]
          walk_at "go"
          refine g_tyL hD ?_
          walk_at "go"
          have dl : ds.length < 16000000 := by omega
          refine ⟨_, _, _, rfl, rfl, hD, by rw [List.length_map]; exact Nat.lt_of_lt_of_le dl (by decide), ?_⟩
          have eD := upd_same (H := H') (a := D) (o := .lst (ds.map V.int ++ [nV d]))
          have eR := (upd_ne (H := H') (o := .lst (ds.map V.int ++ [nV d])) nRD).trans h
          have eT := (upd_ne (H := H') (o := .lst (ds.map V.int ++ [nV d])) nTD).trans hT
          have eW := (upd_ne (H := H') (o := .lst (ds.map V.int ++ [nV d])) nWD).trans hW
          have fD : Frm D H' (upd H' D (.lst (ds.map V.int ++ [nV d]))) := .set
          have wl2 := WaysL.keep (keepN (o := .lst (ds.map V.int ++ [nV d])) nD) wl
          generalize upd H' D (.lst (ds.map V.int ++ [nV d])) = H2 at eD eR eT eW fD wl2 ⊢
          have eD2 : H2 D = some (.lst ((ds ++ [(d : Int)]).map V.int)) := by rw [eD, List.map_append]; rfl
          walk_at "go"
          refine g_rev ?_
          walk_at "go"
          refine g_fldV rfl eR T2.cL T2.lT rfl ?_
          walk_at "go"
          refine g_slL (SqL.of eT) fun S hS => ?_
          rw [cut_toV _ (by omega)]
          have sS := same_new (o := .lst (ts.take d)) hS
          have eS := upd_same (H := H2) (a := S) (o := .lst (ts.take d))
          have nSD : S ≠ D := fun y => by rw [y, eD2] at hS; cases hS
          have fS := frm_trans fD (.of sS)
          have eD3 := sS _ _ eD2
          have eW3 := sS _ _ eW
          have wl3 := WaysL.same sS wl2
          generalize upd H2 S (.lst (ts.take d)) = H3 at sS eS fS eD3 eW3 wl3
          have tdl : (ts.take d).length = d := by rw [List.length_take]; omega
          refine w_revL (xs := ts.take d) (fun i σ H4 => ∃ (gi g1 : Nat) (as : List Int) (v4 : Option V), σ = [some (.ref R), some (nV g1), some (.ref D), some (nV d), v4] ∧ Frm D H3 H4 ∧ H4 D = some (.lst ((ds ++ (d : Int) :: as).map V.int)) ∧ zs[d - i]? = some gi ∧ gi.testBit g1 = true ∧ g1 ≤ hi + 1 ∧
            (∀ b g2, Go lo hi (iter (rn p) (d - i)) g1 b g2 → Go lo hi (iter (rn p) d) g (as ++ b) g2) ∧ as.length ≤ i * mx p) ?_ ?_ ?_ ?_
          · exact ⟨gd, g, [], _, rfl, fun b o _ h => h, by rw [eD3], hgd, c, hg, fun b g2 h => h, Nat.zero_le _⟩
          · rintro i σ H4 ⟨gi, g1, as, v4, rfl, f1, _⟩
            exact SqL.of (f1 _ _ nSD eS)
          · rintro i x σ H4 hi' hx ⟨gi, g1, as, v4, rfl, f1, e1, z1, t1, le1, go1, m1⟩
            rw [tdl] at hi' hx
            rw [List.getElem?_take_of_lt (by omega)] at hx
            obtain ⟨g3, g4, h3, h4, wa⟩ := wl3.at hx
            have ei : d - 1 - i + 1 = d - i := by omega
            rw [ei, z1] at h4
            obtain rfl := Option.some.inj h4
            have wa4 := WayA.keep (keepF nD f1) wa
            have e9 := Nat.mul_le_mul_right (mx p) (show i + 1 ≤ 9 by omega)
            rw [Nat.succ_mul] at e9
            walk_at "go"
            refine g_mtS ?_
            walk_at "go"
            refine use_ldV (l := l) rfl rfl wa4 nD ⟨dw, f1 _ _ nWD eW3⟩ l1 e1 ok.2.2.2 le1 t1 (by rw [List.length_append, List.length_cons]; omega) fun H5 as2 g2 f2 e2 go2 t2 le2 m2 => ?_
            walk_at "go"
            refine ⟨g3, g2, as ++ as2, _, rfl, frm_trans f1 f2, by rw [e2, List.append_assoc, List.cons_append], by rw [show d - (i + 1) = d - 1 - i by omega]; exact h3, t2, le2, fun b' g5 hb => ?_, by rw [List.length_append, Nat.succ_mul]; omega⟩
            rw [List.append_assoc]
            refine go1 _ _ ?_
            rw [show d - i = d - (i + 1) + 1 by omega]
            exact go_iter go2 hb
          · rintro σ H4 ⟨gi, g1, as, v4, rfl, f1, e1, z1, t1, le1, go1, m1⟩
            rw [tdl, Nat.sub_self] at z1 go1
            rw [tdl] at m1
            rw [wl.zero] at z1
            obtain rfl := Option.some.inj z1
            have e9 := Nat.mul_le_mul_right (mx p) (show d ≤ 9 by omega)
            walk_at "go"
            refine q _ ((d : Int) :: as) g1 (frm_trans fS f1) e1 (go_loop c1 (by omega) (by have := go1 [] g1 go_iter0; rw [List.append_nil] at this; exact this)) t1 le1 (by rw [List.length_cons]; omega)
        · rw [if_pos (by rw [Bool.not_eq_true] at c; rw [c]; rfl)]
          have ne : d ≠ n0 := fun y => by
            subst y
            exact c (bd.mpr b3)
          refine ⟨fun σ' H'' => ∃ (d' : Nat) (v4 : Option V), σ' = [some (.ref R), some (nV g), some (.ref D), some (nV d'), v4] ∧ H'' = H' ∧ a ≤ d' ∧ d' ≤ n0 ∧ d < d', fun σ' H'' ⟨d', v4, e1, e2, e3, e4, e5⟩ => ⟨n0 - d', by omega, d', v4, e1, e2, e3, e4, rfl⟩, ?_⟩
          refine ⟨_, rfl, ⟨_, _, rfl, rfl, ?_⟩⟩
          exact ⟨d + 1, _, rfl, rfl, by omega, by omega, by omega⟩
end
end K10
namespace K10
open PySem PySem.Spec PyProof.Rows L2 Wd RT
local macro_rules | `(tactic| walk_at "gs") => `(tactic| repeat (first
  | with_reducible refine Wd.g_seq ?_
  | ((with_reducible show L2.Ends.nx _ _ _); (with_reducible refine Wd.g_nx ?_))
  | with_reducible refine Wd.g_asg ?_
  | ((with_reducible refine' Wd.g_var ?h1 ?_); (case h1 => exact rfl))
  | with_reducible refine Wd.g_c ?_
  | with_reducible refine Wd.g_op ?_
  | with_reducible refine Wd.g_un ?_
  | with_reducible refine Wd.g_I0 ?_
  | with_reducible refine Wd.g_U ?_
  | with_reducible refine Wd.g_eqI ?_
  | with_reducible refine Wd.g_neI ?_
  | with_reducible refine Wd.g_eqS ?_
  | with_reducible refine Wd.g_neS ?_
  | with_reducible refine Wd.g_eqB ?_
  | with_reducible refine Wd.g_neB ?_
  | with_reducible refine Wd.g_isN ?_
  | with_reducible refine Wd.g_notN ?_
  | with_reducible refine Wd.g_lc ?_
  | with_reducible refine Wd.g_yes ?_
  | with_reducible refine Wd.g_test ?_
  | with_reducible refine Wd.g_tB ?_
  | with_reducible refine Wd.g_bl ?_
  | with_reducible refine Wd.g_blI ?_
  | with_reducible refine Wd.g_and ?_
  | with_reducible refine Wd.g_or ?_
  | with_reducible refine Wd.g_not ?_
  | with_reducible refine Wd.g_andV ?_
  | with_reducible refine Wd.g_orV ?_
  | with_reducible refine Wd.g_notV ?_
  | with_reducible refine Wd.g_if ?_
  | with_reducible refine Wd.g_chain ?_
  | with_reducible refine Wd.g_chain3 ?_
  | with_reducible refine Wd.g_nil ?_
  | with_reducible refine Wd.g_cons ?_
  | with_reducible refine Wd.g_tup ?_
  | with_reducible refine Wd.g_lst ?_
  | with_reducible refine Wd.g_CB ?_
  | with_reducible refine Wd.g_call ?_
  | with_reducible refine Wd.g_callS ?_
  | with_reducible refine Wd.g_bm ?_
  | with_reducible refine Wd.g_bm0 ?_
  | with_reducible refine Wd.g_sl ?_
  | with_reducible refine Wd.g_part ?_
  | with_reducible refine Wd.g_part1 ?_
  | with_reducible refine Wd.g_noPart ?_
  | with_reducible refine Wd.g_next ?_
  | with_reducible refine Wd.g_name ?_
  | with_reducible refine Wd.g_sub ?_
  | with_reducible refine Wd.g_gnil ?_
  | with_reducible refine Wd.g_gcons ?_
  | with_reducible refine Wd.g_drop ?_
  | with_reducible refine Wd.g_ret ?_
  | with_reducible refine Wd.g_retN ?_
  | with_reducible refine Wd.g_brk ?_
  | with_reducible refine Wd.g_cont ?_
  | ((with_reducible show L2.Ends.bk _ _ _); (with_reducible refine Wd.g_bk ?_))
  | ((with_reducible show L2.Ends.ct _ _ _); (with_reducible refine Wd.g_ct ?_))
  | ((with_reducible show L2.Ends.rt _ _ _); (with_reducible refine Wd.g_rt ?_))
  | with_reducible refine Wd.g_for ?_
  | with_reducible refine Wd.g_rng1 ?_
  | with_reducible refine Wd.g_rng2 ?_
  | with_reducible refine Wd.g_iList ?_
  | with_reducible refine Wd.g_iTup ?_
  | ((with_reducible refine Wd.g_fit ?h1 ?_); (case h1 => exact rfl))
  | with_reducible refine Wd.g_max2 ?_
  | with_reducible refine Wd.g_min2 ?_
  | with_reducible refine Wd.g_int1B ?_
  | with_reducible refine L2.iteT ?_
  | with_reducible refine L2.iteF ?_
  | ((with_reducible refine Wd.g_itT ?h1 ?_); (case h1 => exact rfl))
  | ((with_reducible refine Wd.g_itF ?h1 ?_); (case h1 => exact rfl))))
section
variable {P : Program} {w : World} {K : PySem.W.Frag} {mg : Str → Option Value} {base : Heap} {CWt WP WK WR WE WL : Addr}
theorem ld0 {s : Nat} (hs : 2 ≤ s) {vs : List V} {H : Hp} {Q : VK} {E : XK} (h : sp_ld K CWt WP WK WR WE WL 0 s vs H Q E) : False := by
  obtain ⟨N, v, D, Wt, ds, p, g, lo, hi, l, z, gz, e, _, _, _, _, _, _, ok, _⟩ := h
  cases p with
  | pat => simp only [shp] at e; omega
  | work a b => simp only [shp] at e; omega
  | row ps => unfold okP at ok; exact ok
  | either ps => unfold okP at ok; exact ok
  | loop a b p => unfold okP at ok; exact ok
theorem fn_ld0 {s : Nat} (hs : 2 ≤ s) {f : Addr} {fd : FuncData} {ps : List Str} : FnOk P w K mg base C8.CX0 2 f fd ps (sp_ld K CWt WP WK WR WE WL 0 s) :=
  ⟨fun vs H Q E h => (ld0 (K := K) (vs := vs) (H := H) (Q := Q) (E := E) hs h).elim, fun A o s H _ _ vs Q E _ _ _ _ h => (ld0 (K := K) (vs := vs) (H := H) (Q := Q) (E := E) hs h).elim⟩
theorem ok_lead (T2 : TxtY K WP WK WR WE WL) (T : TxtJ K mg) {fP fK fR fE fL : Addr} {dP dK dR dE dL : FuncData}
    (meP : Meth K WP "lead" fP) (FP : C8.Fun K "lead" "PatWay.lead" s_PatWay_lead fP dP) (bP : Binds K dP ["self", "gap", "delays"] [])
    (meK : Meth K WK "lead" fK) (FK : C8.Fun K "lead" "WorkWay.lead" s_WorkWay_lead fK dK) (bK : Binds K dK ["self", "gap", "delays"] [])
    (meR : Meth K WR "lead" fR) (FR : C8.Fun K "lead" "RowWay.lead" s_RowWay_lead fR dR) (bR : Binds K dR ["self", "gap", "delays"] [])
    (meE : Meth K WE "lead" fE) (FE : C8.Fun K "lead" "EitherWay.lead" s_EitherWay_lead fE dE) (bE : Binds K dE ["self", "gap", "delays"] [])
    (meL : Meth K WL "lead" fL) (FL : C8.Fun K "lead" "LoopWay.lead" s_LoopWay_lead fL dL) (bL : Binds K dL ["self", "gap", "delays"] [])
    (m_gbp : C8.Met P w K mg base 1 CWt "gap_behind_pat" (sp_gbp CWt) []) (m_gbw : C8.Met P w K mg base 1 CWt "gap_behind_work" (sp_gbw CWt) []) (g_holds : C8.Cal P w K mg base 1 "holds" sp_holds []) :
    ∀ n, MetS P w K mg base (2 + n) (CsL K CWt WP WK WR WE WL n) "lead"
  | 0 => fun c hc => by
    simp only [CsL, List.mem_cons, List.not_mem_nil, or_false] at hc
    rcases hc with rfl | rfl | rfl | rfl | rfl
    · exact ⟨2, Nat.le_refl _, ok_plead T2 meP FP bP m_gbp⟩
    · exact ⟨2, Nat.le_refl _, ok_klead T2 meK FK bK m_gbw g_holds⟩
    · exact ⟨2, Nat.le_refl _, fR, dR, ["self", "gap", "delays"], [], T2.cR, meR, fn_ld0 (by decide), bR, .nil⟩
    · exact ⟨2, Nat.le_refl _, fE, dE, ["self", "gap", "delays"], [], T2.cE, meE, fn_ld0 (by decide), bE, .nil⟩
    · exact ⟨2, Nat.le_refl _, fL, dL, ["self", "gap", "delays"], [], T2.cL, meL, fn_ld0 (by decide), bL, .nil⟩
  | n + 1 => fun c hc => by
    have ih := ok_lead T2 T meP FP bP meK FK bK meR FR bR meE FE bE meL FL bL m_gbp m_gbw g_holds n
    have lv : 2 + (n + 1) = 3 + n := by omega
    simp only [CsL, List.mem_cons, List.not_mem_nil, or_false] at hc
    rcases hc with rfl | rfl | rfl | rfl | rfl
    · exact ⟨2, by omega, ok_plead T2 meP FP bP m_gbp⟩
    · exact ⟨2, by omega, ok_klead T2 meK FK bK m_gbw g_holds⟩
    · exact ⟨3 + n, by omega, ok_rlead T2 T meR FR bR ih⟩
    · exact ⟨3 + n, by omega, ok_elead T2 T meE FE bE ih g_holds⟩
    · exact ⟨3 + n, by omega, ok_llead T2 T meL FL bL ih g_holds⟩
abbrev s_goals_of_rounds : Stmt := top 47
theorem sc_goals_of_rounds : FnScope ["watcher", "plan", "goals", "gaps"] ["watcher", "plan"] (C8.fnScope s_goals_of_rounds) := C8.fnScope_by (by decide +kernel)
/-- the goals of more rounds, the bite first -/
structure Chn (lo hi : Nat) (p : Pl) (zs : List Nat) : Prop where
  zero : zs[0]? = some (2 ^ (hi + 1))
  next : ∀ k a b, zs[k]? = some a → zs[k + 1]? = some b → Bits hi (Led lo hi p) a b
def sp_gr (CWt : Addr) (n : Nat) : Sp := fun vs H Q _ => ∃ (Wt : Addr) (lo hi : Nat) (v : V) (p : Pl) (l : Nat), vs = [.ref Wt, v] ∧ IsWt H CWt Wt lo hi ∧ lo ≤ hi ∧ hi ≤ 1000 ∧ PlA H v p ∧ okP n l p ∧
  (∀ H' Z, Same H H' → Bits hi (Led lo hi p) Z Z → Z.testBit (hi + 1) = true → Z.testBit 0 = false → Q .non H') ∧
  ∀ H' L zs g, Same H H' → H' L = some (.lst ((zs ++ [g]).map nV)) → Chn lo hi p (zs ++ [g]) → g.testBit 0 = true → zs.length ≤ hi + 1 → Q (.ref L) H'
theorem chn_snoc {lo hi : Nat} {p : Pl} {zs : List Nat} {g g2 : Nat} (h : Chn lo hi p (zs ++ [g])) (b : Bits hi (Led lo hi p) g g2) : Chn lo hi p (zs ++ [g] ++ [g2]) where
  zero := by rw [List.getElem?_append_left (by rw [List.length_append, List.length_singleton]; omega)]; exact h.zero
  next := fun k x y hx hy => by
    by_cases c : k + 1 < (zs ++ [g]).length
    · rw [List.getElem?_append_left c] at hy
      rw [List.getElem?_append_left (by omega)] at hx
      exact h.next k x y hx hy
    · have c2 : k + 1 < (zs ++ [g] ++ [g2]).length := (List.getElem?_eq_some_iff.mp hy).1
      rw [List.length_append (bs := [g2]), List.length_singleton] at c2
      rw [List.length_append, List.length_singleton] at c c2
      have ek : k = zs.length := by omega
      subst ek
      rw [show zs.length + 1 = (zs ++ [g]).length by rw [List.length_append]; rfl, List.getElem?_concat_length] at hy
      rw [List.getElem?_append_left (by rw [List.length_append, List.length_singleton]; omega), List.getElem?_concat_length] at hx
      obtain rfl := Option.some.inj hx
      obtain rfl := Option.some.inj hy
      exact b
theorem ok_gr {n : Nat} (T2 : TxtY K WP WK WR WE WL) (TW : TxtWt K CWt) (T : TxtJ K mg) {f : Addr} {fd : FuncData} (D : C8.Def K mg "goals_of_rounds" s_goals_of_rounds f fd) (b : Binds K fd ["watcher", "plan"] []) (g_holds : C8.Cal P w K mg base 1 "holds" sp_holds []) (g_way_to : C8.Cal P w K mg base (5 + 3 * n) "way_to" (sp_way CWt WP WK WR WE WL n) []) :
    C8.Cal P w K mg base (6 + 3 * n) "goals_of_rounds" (sp_gr CWt n) [] := by
  have lv : 6 + 3 * n = (5 + 3 * n) + 1 := by omega
  rw [lv]
  refine C8.cal0 D b .nil sc_goals_of_rounds (fun vs H Q E h => ?_) fun cdv A outer s H vs Q E hr h => ?_
  · obtain ⟨Wt, lo, hi, v, p, l, rfl, _⟩ := h; rfl
  · obtain ⟨Wt, lo, hi, v, p, l, rfl, ⟨dw, hW⟩, l1, l2, pA, ok, q1, q2⟩ := h
    have nd := sc_goals_of_rounds.nd
    refine ⟨_, (pss_cons (ps_set (i := 2) nd rfl (Or.inl rfl) (pe_lst (pa_cons (pe_fld (pv 0) rfl) pa_nil)))
      (pss_cons (ps_while PassesOwn.never (pt_not (pt_val (C8.pe_c g_holds hr (by first | decide | exact Nat.le_refl _ | omega) (by rfl) (pa_cons (pe_ix (r := rIxL K) ix_list (pv 2) (pe_un un_neg pe_int) (fun _ _ => rfl)) (pa_cons pe_int pa_nil))))) (pss_cons (ps_set (i := 3) nd rfl (Or.inl rfl) (pe_fld (C8.pe_c g_way_to hr (by first | decide | exact Nat.le_refl _ | omega) (by rfl) (pa_cons (pv 0) (pa_cons (pv 1) (pa_cons (pe_ix (r := rIxL K) ix_list (pv 2) (pe_un un_neg pe_int) (fun _ _ => rfl)) pa_nil)))) rfl))
      (pss_cons (ps_if (pt_cmpR op_eq (pv 3) (pe_ix (r := rIxL K) ix_list (pv 2) (pe_un un_neg pe_int) (fun _ _ => rfl)) (nomark _)) (pss_one (ps_ret pe_non)) pss_nil)
      (pss_one (ps_expr (pe_bmK (K := K) rfl PySem.F.plainAttrs_list PySem.F.slot_list_append PySem.F.type_list_append mt_append (pv 2) (pa_cons (pv 3) pa_nil)))))))
      (pss_one (ps_ret (pv 2))))), ?_⟩
    walk_at "go"
    refine g_fldV rfl hW TW.c TW.nI rfl ?_
    walk_at "go"
    intro L hL
    have s1 := same_new (o := .lst [nV (2 ^ (hi + 1))]) hL
    have e1 := upd_same (H := H) (a := L) (o := .lst [nV (2 ^ (hi + 1))])
    generalize upd H L (.lst [nV (2 ^ (hi + 1))]) = H1 at s1 e1
    walk_at "go"
    have one : ∀ i, i ≤ hi + 1 → inS (2 ^ (hi + 1)) i → Led lo hi p (inS (2 ^ (hi + 1))) i := fun i _ hi' => by
      have : hi + 1 = i := by rw [show inS (2 ^ (hi + 1)) i = ((2 ^ (hi + 1)).testBit i = true) from rfl, tb_one, decide_eq_true_eq] at hi'; exact hi'
      subst this
      exact led_bitten p ok hi'
    have bo : (2 ^ (hi + 1)).testBit (hi + 1) = true := by rw [tb_one]; exact decide_eq_true rfl
    have crd : 1 ≤ card (hi + 2) (2 ^ (hi + 1)) := by
      have c0 : Below (hi + 2) 0 := fun i h => by rw [Nat.zero_testBit] at h; cases h
      have := card_lt c0 (below_bite hi) (fun i h => by rw [Nat.zero_testBit] at h; cases h) (fun y => by rw [← y, Nat.zero_testBit] at bo; cases bo)
      omega
    refine w_loop (fun k σ H' => ∃ (zs : List Nat) (g : Nat) (v3 : Option V), σ = [some (.ref Wt), some v, some (.ref L), v3] ∧ Same H H' ∧ H' L = some (.lst ((zs ++ [g]).map nV)) ∧ Chn lo hi p (zs ++ [g]) ∧ Below (hi + 2) g ∧ g.testBit (hi + 1) = true ∧
      (∀ i, i ≤ hi + 1 → inS g i → Led lo hi p (inS g) i) ∧ zs.length + 1 ≤ card (hi + 2) g ∧ k = hi + 2 - zs.length) (hi + 2) ?_ ?_
    · refine ⟨[], 2 ^ (hi + 1), _, rfl, s1, e1, ⟨rfl, fun k a b ha hb => by rw [show ([] ++ [2 ^ (hi + 1)])[k + 1]? = none from rfl] at hb; cases hb⟩, below_bite hi, bo, one, crd, rfl⟩
    · rintro k σ H' ⟨zs, g, v3, rfl, f1, e2, ch, bg, bb, inc, cd, rfl⟩
      have cl := card_le (hi + 2) g
      have atg : atI ((zs ++ [g]).map nV) (-1) = some (nV g) := atI_back (by rw [List.length_map, List.length_append, List.length_singleton, Nat.add_sub_cancel, List.getElem?_map, List.getElem?_concat_length]; rfl)
      walk_at "go"
      refine g_ixL (SqL.of e2) atg ?_
      walk_at "go"
      refine ⟨g, 0, rfl, ?_⟩
      refine ⟨_, rfl, ?_⟩
      cases c : g.testBit 0 with
      | true =>
        rw [if_neg (by exact Bool.false_ne_true)]
        walk_at "go"
        exact q2 _ _ zs g f1 e2 ch c (by omega)
      | false =>
        rw [if_pos (by rfl)]
        refine ⟨fun σ' H'' => ∃ (zs2 : List Nat) (g2 : Nat) (v3 : Option V), σ' = [some (.ref Wt), some v, some (.ref L), v3] ∧ Same H H'' ∧ H'' L = some (.lst ((zs2 ++ [g2]).map nV)) ∧ Chn lo hi p (zs2 ++ [g2]) ∧ Below (hi + 2) g2 ∧ g2.testBit (hi + 1) = true ∧
          (∀ i, i ≤ hi + 1 → inS g2 i → Led lo hi p (inS g2) i) ∧ zs2.length + 1 ≤ card (hi + 2) g2 ∧ zs2.length = zs.length + 1, fun σ' H'' ⟨zs2, g2, v3, a1, a2, a3, a4, a5, a6, a7, a8, a9⟩ => ⟨hi + 2 - zs2.length, by omega, zs2, g2, v3, a1, a2, a3, a4, a5, a6, a7, a8, rfl⟩, ?_⟩
        walk_at "go"
        refine g_fld ?_
        walk_at "go"
        refine g_ixL (SqL.of e2) atg ?_
        walk_at "go"
        refine ⟨Wt, lo, hi, v, p, l, g, rfl, ⟨dw, f1 _ _ hW⟩, l1, l2, PlA_keep (keepT_same f1) _ _ pA, ok, bg, fun H3 u g2 s3 wa => ?_⟩
        obtain ⟨R', C', dx', fs', rfl, hR', _, cls', na', lk', _⟩ := WayA.at_ (K := K) T2 wa
        have bits : Bits hi (Led lo hi p) g g2 := wa.bits
        refine ⟨R', C', dx', fs', nV g2, rfl, hR', cls', na', lk', ?_⟩
        walk_at "go"
        have e3 := s3 _ _ e2
        refine g_ixL (SqL.of e3) atg ?_
        walk_at "go"
        by_cases c2 : g2 = g
        · rw [if_pos (decide_eq_true (by rw [c2]))]
          walk_at "go"
          subst c2
          exact q1 _ g2 (f1.trans s3) bits bb c
        · rw [if_neg (by rw [decide_eq_false (by omega)]; exact Bool.false_ne_true)]
          walk_at "go"
          refine g_tyL e3 ?_
          walk_at "go"
          refine g_append e3 (by rw [List.length_map, List.length_append, List.length_singleton]; omega) ?_
          have eq : (zs ++ [g]).map nV ++ [nV g2] = (zs ++ [g] ++ [g2]).map nV := by rw [List.map_append (l₂ := [g2])]; rfl
          rw [eq]
          have up : ∀ i, inS g i → inS g2 i := fun i h => (bits.bit i (by have := bg i h; omega)).mpr (inc i (by have := bg i h; omega) h)
          refine ⟨zs ++ [g], g2, _, rfl, fun b o h => ?_, upd_same, chn_snoc ch bits, bits.low, up _ bb, fun i hi' h => Led.mono p up i ((bits.bit i hi').mp h), ?_, by rw [List.length_append]; rfl⟩
          · have nbL : b ≠ L := ne_of_none h hL
            rw [upd_ne nbL]; exact s3 _ _ (f1 _ _ h)
          · have := card_lt bg bits.low up (fun y => c2 y.symm)
            rw [List.length_append, List.length_singleton]; omega
end
end K10
namespace K10
open PySem PySem.Spec PyProof.Rows L2 Wd
theorem iter_le {f : List Int → Int → Res} {B : Nat} (hf : ∀ ds t nq ds' t', f ds t = some (nq, ds', t') → nq.length ≤ B) : ∀ (n : Nat) (ds : List Int) (t : Int) (nq ds' : List Int) (t' : Int), iter f n ds t = some (nq, ds', t') → nq.length ≤ n * B
  | 0, ds, t, nq, ds', t', h => by simp only [iter, Option.some.injEq, Prod.mk.injEq] at h; rw [← h.1]; exact Nat.zero_le _
  | n + 1, ds, t, nq, ds', t', h => by
    simp only [iter] at h
    obtain ⟨a, d2, t2, b, h1, h2, rfl⟩ := seqR_inv h
    have := hf _ _ _ _ _ h1
    have := iter_le hf n _ _ _ _ _ h2
    rw [List.length_append, Nat.add_mul]
    omega
mutual
theorem np_le : ∀ (p : Pl) (d l : Nat) (ds : List Int) (t : Int) (nq ds' : List Int) (t' : Int), okP d l p → rn p ds t = some (nq, ds', t') → nq.length ≤ Wd.cnt p * 10 ^ l
  | .pat, d, l, ds, t, nq, ds', t', _, h => by
    simp only [rn, Option.some.injEq, Prod.mk.injEq] at h
    rw [← h.1]
    simp only [Wd.cnt, Nat.one_mul, List.length_singleton]; exact ten_pos l
  | .work _ _, d, l, [], t, nq, ds', t', _, h => by simp only [rn] at h; cases h
  | .work _ _, d, l, _ :: _, t, nq, ds', t', _, h => by
    simp only [rn] at h
    split at h
    · simp only [Option.some.injEq, Prod.mk.injEq] at h
      rw [← h.1]; exact Nat.zero_le _
    · cases h
  | .row ps, 0, l, _, _, _, _, _, h, _ => by unfold okP at h; exact h.elim
  | .row ps, d + 1, l, ds, t, nq, ds', t', ok, h => by
    unfold okP at ok
    simp only [rn] at h
    have := nps_le ps d l ds t nq ds' t' ok.2.2 h
    simp only [Wd.cnt, Nat.add_mul]
    omega
  | .either ps, 0, l, _, _, _, _, _, h, _ => by unfold okP at h; exact h.elim
  | .either _, d + 1, l, [], t, nq, ds', t', _, h => by simp only [rn] at h; cases h
  | .either ps, d + 1, l, x :: ds, t, nq, ds', t', ok, h => by
    unfold okP at ok
    simp only [rn] at h
    split at h
    · have := npAt_le ps x.toNat d l ds t nq ds' t' ok.2.2 h
      simp only [Wd.cnt, Nat.add_mul]
      omega
    · cases h
  | .loop _ _ _, 0, l, _, _, _, _, _, h, _ => by unfold okP at h; exact h.elim
  | .loop _ _ _, d + 1, 0, _, _, _, _, _, h, _ => by unfold okP at h; exact h.elim
  | .loop _ _ _, d + 1, l + 1, [], t, nq, ds', t', _, h => by simp only [rn] at h; cases h
  | .loop a b p, d + 1, l + 1, x :: ds, t, nq, ds', t', ok, h => by
    unfold okP at ok
    simp only [rn] at h
    split at h
    · rename_i bd
      have h1 := iter_le (fun ds t nq ds' t' e => np_le p d l ds t nq ds' t' ok.2.2.2 e) _ _ _ _ _ _ h
      have h9 : x.toNat ≤ 9 := by omega
      have h2 : x.toNat * (Wd.cnt p * 10 ^ l) ≤ 9 * (Wd.cnt p * 10 ^ l) := Nat.mul_le_mul_right _ h9
      simp only [Wd.cnt, Nat.add_mul, Nat.pow_succ]
      have e : Wd.cnt p * (10 ^ l * 10) = 10 * (Wd.cnt p * 10 ^ l) := by rw [← Nat.mul_assoc, Nat.mul_comm]
      omega
    · cases h
theorem nps_le : ∀ (ps : List Pl) (d l : Nat) (ds : List Int) (t : Int) (nq ds' : List Int) (t' : Int), okPs d l ps → rns ps ds t = some (nq, ds', t') → nq.length ≤ Wd.cnts ps * 10 ^ l
  | [], d, l, ds, t, nq, ds', t', _, h => by simp only [rns, Option.some.injEq, Prod.mk.injEq] at h; rw [← h.1]; exact Nat.zero_le _
  | p :: ps, d, l, ds, t, nq, ds', t', ok, h => by
    unfold okPs at ok
    simp only [rns] at h
    obtain ⟨a, d2, t2, b, h1, h2, rfl⟩ := seqR_inv h
    have := np_le p d l _ _ _ _ _ ok.1 h1
    have := nps_le ps d l _ _ _ _ _ ok.2 h2
    simp only [Wd.cnts, Nat.add_mul, List.length_append]
    omega
theorem npAt_le : ∀ (ps : List Pl) (n d l : Nat) (ds : List Int) (t : Int) (nq ds' : List Int) (t' : Int), okPs d l ps → rnAt ps n ds t = some (nq, ds', t') → nq.length ≤ Wd.cnts ps * 10 ^ l
  | [], n, d, l, ds, t, nq, ds', t', _, h => by simp only [rnAt] at h; cases h
  | p :: ps, 0, d, l, ds, t, nq, ds', t', ok, h => by
    unfold okPs at ok
    simp only [rnAt] at h
    have := np_le p d l _ _ _ _ _ ok.1 h
    simp only [Wd.cnts, Nat.add_mul]
    omega
  | p :: ps, n + 1, d, l, ds, t, nq, ds', t', ok, h => by
    unfold okPs at ok
    simp only [rnAt] at h
    have := npAt_le ps n d l _ _ _ _ _ ok.2 h
    simp only [Wd.cnts, Nat.add_mul]
    omega
end
end K10
namespace K10
open PySem PySem.Spec PyProof.Rows L2 Wd RT
local macro_rules | `(tactic| walk_at "gs") => `(tactic| repeat (first
  | with_reducible refine Wd.g_seq ?_
  | ((with_reducible show L2.Ends.nx _ _ _); (with_reducible refine Wd.g_nx ?_))
  | with_reducible refine Wd.g_asg ?_
  | ((with_reducible refine' Wd.g_var ?h1 ?_); (case h1 => exact rfl))
  | with_reducible refine Wd.g_c ?_
  | with_reducible refine Wd.g_op ?_
  | with_reducible refine Wd.g_un ?_
  | with_reducible refine Wd.g_I0 ?_
  | with_reducible refine Wd.g_U ?_
  | with_reducible refine Wd.g_eqI ?_
  | with_reducible refine Wd.g_neI ?_
  | with_reducible refine Wd.g_eqS ?_
  | with_reducible refine Wd.g_neS ?_
  | with_reducible refine Wd.g_eqB ?_
  | with_reducible refine Wd.g_neB ?_
  | with_reducible refine Wd.g_isN ?_
  | with_reducible refine Wd.g_notN ?_
  | with_reducible refine Wd.g_lc ?_
  | with_reducible refine Wd.g_yes ?_
  | with_reducible refine Wd.g_test ?_
  | with_reducible refine Wd.g_tB ?_
  | with_reducible refine Wd.g_bl ?_
  | with_reducible refine Wd.g_blI ?_
  | with_reducible refine Wd.g_and ?_
  | with_reducible refine Wd.g_or ?_
  | with_reducible refine Wd.g_not ?_
  | with_reducible refine Wd.g_andV ?_
  | with_reducible refine Wd.g_orV ?_
  | with_reducible refine Wd.g_notV ?_
  | with_reducible refine Wd.g_if ?_
  | with_reducible refine Wd.g_chain ?_
  | with_reducible refine Wd.g_chain3 ?_
  | with_reducible refine Wd.g_nil ?_
  | with_reducible refine Wd.g_cons ?_
  | with_reducible refine Wd.g_tup ?_
  | with_reducible refine Wd.g_lst ?_
  | with_reducible refine Wd.g_CB ?_
  | with_reducible refine Wd.g_call ?_
  | with_reducible refine Wd.g_callS ?_
  | with_reducible refine Wd.g_bm ?_
  | with_reducible refine Wd.g_bm0 ?_
  | with_reducible refine Wd.g_sl ?_
  | with_reducible refine Wd.g_part ?_
  | with_reducible refine Wd.g_part1 ?_
  | with_reducible refine Wd.g_noPart ?_
  | with_reducible refine Wd.g_next ?_
  | with_reducible refine Wd.g_name ?_
  | with_reducible refine Wd.g_sub ?_
  | with_reducible refine Wd.g_gnil ?_
  | with_reducible refine Wd.g_gcons ?_
  | with_reducible refine Wd.g_drop ?_
  | with_reducible refine Wd.g_ret ?_
  | with_reducible refine Wd.g_retN ?_
  | with_reducible refine Wd.g_brk ?_
  | with_reducible refine Wd.g_cont ?_
  | ((with_reducible show L2.Ends.bk _ _ _); (with_reducible refine Wd.g_bk ?_))
  | ((with_reducible show L2.Ends.ct _ _ _); (with_reducible refine Wd.g_ct ?_))
  | ((with_reducible show L2.Ends.rt _ _ _); (with_reducible refine Wd.g_rt ?_))
  | with_reducible refine Wd.g_for ?_
  | with_reducible refine Wd.g_rng1 ?_
  | with_reducible refine Wd.g_rng2 ?_
  | with_reducible refine Wd.g_iList ?_
  | with_reducible refine Wd.g_iTup ?_
  | ((with_reducible refine Wd.g_fit ?h1 ?_); (case h1 => exact rfl))
  | with_reducible refine Wd.g_max2 ?_
  | with_reducible refine Wd.g_min2 ?_
  | with_reducible refine Wd.g_int1B ?_
  | with_reducible refine L2.iteT ?_
  | with_reducible refine L2.iteF ?_
  | ((with_reducible refine Wd.g_itT ?h1 ?_); (case h1 => exact rfl))
  | ((with_reducible refine Wd.g_itF ?h1 ?_); (case h1 => exact rfl))))
theorem cut_last (zs : List Nat) (g : Nat) : cutV ((zs ++ [g]).map nV) none (some (-1)) = zs.map nV := by
  unfold cutV
  have e : HT.sIx ((zs ++ [g]).map nV).length ((zs ++ [g]).map nV).length (some (-1)) = zs.length := by
    show (if (-1 : Int) < 0 then ((-1 : Int) + ((((zs ++ [g]).map nV).length : Nat) : Int)).toNat else min (-1 : Int).toNat ((zs ++ [g]).map nV).length) = zs.length
    rw [if_pos (by decide), List.length_map, List.length_append, List.length_singleton]
    omega
  rw [e, HT.sIx_none, List.drop_zero, Nat.sub_zero, List.map_append, List.take_left' (by rw [List.length_map])]
theorem chn_below {lo hi : Nat} {p : Pl} {zs : List Nat} (h : Chn lo hi p zs) : ∀ {k g : Nat}, zs[k]? = some g → Below (hi + 2) g
  | 0, g, e => by rw [h.zero] at e; obtain rfl := Option.some.inj e; exact below_bite hi
  | k + 1, g, e => by
    have hl := (List.getElem?_eq_some_iff.mp e).1
    exact (h.next k zs[k] g (List.getElem?_eq_getElem (by omega)) e).low
section
variable {P : Program} {w : World} {K : PySem.W.Frag} {mg : Str → Option Value} {base : Heap} {CWt WP WK WR WE WL : Addr}
abbrev s_delays_of_rounds : Stmt := top 48
theorem sc_delays_of_rounds : FnScope ["watcher", "plan", "goals", "gap", "delays", "goal"] ["watcher", "plan", "goals"] (C8.fnScope s_delays_of_rounds) := C8.fnScope_by (by decide +kernel)
def sp_dr (CWt : Addr) (n : Nat) : Sp := fun vs H Q _ => ∃ (Wt L : Addr) (lo hi : Nat) (v : V) (p : Pl) (l : Nat) (zs : List Nat) (g0 : Nat), vs = [.ref Wt, v, .ref L] ∧ IsWt H CWt Wt lo hi ∧ lo ≤ hi ∧ hi ≤ 1000 ∧ PlA H v p ∧ okP n l p ∧ mx p ≤ 3000 ∧
  H L = some (.lst ((zs ++ [g0]).map nV)) ∧ Chn lo hi p (zs ++ [g0]) ∧ g0.testBit 0 = true ∧ zs.length ≤ hi + 1 ∧
  ∀ H' D as, Same H H' → H D = none → H' D = some (.lst (as.map V.int)) → Go lo hi (iter (rn p) zs.length) 0 as (hi + 1) → as.length ≤ zs.length * mx p → Q (.ref D) H'
theorem ok_dr {n : Nat} (T2 : TxtY K WP WK WR WE WL) (T : TxtJ K mg) {f : Addr} {fd : FuncData} (D : C8.Def K mg "delays_of_rounds" s_delays_of_rounds f fd) (b : Binds K fd ["watcher", "plan", "goals"] []) (m_lead : MetS P w K mg base (2 + n) (CsL K CWt WP WK WR WE WL n) "lead") (g_way_to : C8.Cal P w K mg base (5 + 3 * n) "way_to" (sp_way CWt WP WK WR WE WL n) []) :
    C8.Cal P w K mg base (6 + 3 * n) "delays_of_rounds" (sp_dr CWt n) [] := by
  have lv : 6 + 3 * n = (5 + 3 * n) + 1 := by omega
  rw [lv]
  refine C8.cal0 D b .nil sc_delays_of_rounds (fun vs H Q E h => ?_) fun cdv A outer s H vs Q E hr h => ?_
  · obtain ⟨Wt, L, lo, hi, v, p, l, zs, g0, rfl, _⟩ := h; rfl
  · obtain ⟨Wt, L, lo, hi, v, p, l, zs, g0, rfl, ⟨dw, hW⟩, l1, l2, pA, ok, mb, hL, ch, b0, zl, q⟩ := h
    have nd := sc_delays_of_rounds.nd
    refine ⟨_, (pss_cons (ps_set (i := 3) nd rfl (Or.inl rfl) pe_int)
      (pss_cons (ps_set (i := 4) nd rfl (Or.inl rfl) (pe_lst pa_nil))
      (pss_cons (ps_for PassesOwn.never rfl (pi_revA (by rfl) T.n_reversed (pe_slice (r := rSlL K) sl_list (pv 2) po_none (po_some (pe_un un_neg pe_int)))) (pg_name (i := 5) nd rfl (Or.inl rfl)) (pss_one (ps_set (i := 3) nd rfl (Or.inl rfl) (pe_mtS m_lead hr (by first | decide | exact Nat.le_refl _ | omega) (C8.pe_c g_way_to hr (by first | decide | exact Nat.le_refl _ | omega) (by rfl) (pa_cons (pv 0) (pa_cons (pv 1) (pa_cons (pv 5) pa_nil)))) (pa_cons (pv 3) (pa_cons (pv 4) pa_nil))))))
      (pss_one (ps_ret (pv 4)))))), ?_⟩
    walk_at "go"
    intro DD hD
    have s1 := same_new (o := .lst []) hD
    have e1 := upd_same (H := H) (a := DD) (o := .lst [])
    generalize upd H DD (.lst []) = H1 at s1 e1
    walk_at "go"
    refine g_rev ?_
    walk_at "go"
    refine g_slL (SqL.of (s1 _ _ hL)) fun S hS => ?_
    rw [cut_last]
    have sS := same_new (o := .lst (zs.map nV)) hS
    have eS := upd_same (H := H1) (a := S) (o := .lst (zs.map nV))
    have nSD : S ≠ DD := fun y => by rw [y, e1] at hS; cases hS
    have s2 := s1.trans sS
    have e2 := sS _ _ e1
    generalize upd H1 S (.lst (zs.map nV)) = H2 at sS eS s2 e2
    refine w_revL (xs := zs.map nV) (fun i σ H' => ∃ (g1 gi : Nat) (as : List Int) (v5 : Option V), σ = [some (.ref Wt), some v, some (.ref L), some (nV g1), some (.ref DD), v5] ∧ Same H H' ∧ H' S = some (.lst (zs.map nV)) ∧ H' DD = some (.lst (as.map V.int)) ∧ (zs ++ [g0])[zs.length - i]? = some gi ∧ gi.testBit g1 = true ∧ g1 ≤ hi + 1 ∧
      (∀ b g2, Go lo hi (iter (rn p) (zs.length - i)) g1 b g2 → Go lo hi (iter (rn p) zs.length) 0 (as ++ b) g2) ∧ as.length ≤ i * mx p) ?_ ?_ ?_ ?_
    · exact ⟨0, g0, [], _, rfl, s2, eS, e2, List.getElem?_concat_length, b0, Nat.zero_le _, fun b g2 h => h, Nat.zero_le _⟩
    · rintro i σ H' ⟨g1, gi, as, v5, rfl, f1, e3, _⟩
      exact SqL.of e3
    · rintro i x σ H3 hi' hx ⟨g1, gi, as, v5, rfl, f1, e3, d3, z1, t1, le1, go1, m1⟩
      rw [List.length_map] at hi' hx
      obtain ⟨gx, hgx, rfl⟩ : ∃ gx, zs[zs.length - 1 - i]? = some gx ∧ x = nV gx := by
        rw [List.getElem?_map] at hx
        cases hq : zs[zs.length - 1 - i]? with
        | none => rw [hq] at hx; cases hx
        | some y => rw [hq] at hx; exact ⟨y, rfl, (Option.some.inj hx).symm⟩
      have hgx2 : (zs ++ [g0])[zs.length - 1 - i]? = some gx := by rw [List.getElem?_append_left (by omega)]; exact hgx
      have bt := ch.next (zs.length - 1 - i) gx gi hgx2 (by rw [show zs.length - 1 - i + 1 = zs.length - i by omega]; exact z1)
      have e9 := Nat.mul_le_mul_right (mx p) (show i + 1 ≤ 1001 by omega)
      rw [Nat.succ_mul] at e9
      walk_at "go"
      refine g_mtS ?_
      walk_at "go"
      refine ⟨Wt, lo, hi, v, p, l, gx, rfl, ⟨dw, f1 _ _ hW⟩, l1, l2, PlA_keep (keepT_same f1) _ _ pA, ok, chn_below ch hgx2, fun H4 u gg s4 wa => ?_⟩
      have eg : gg = gi := Bits.uniq (F := Led lo hi p) (z := gx) (hi := hi) wa.bits bt
      subst eg
      have nD : H3 DD ≠ none := by rw [d3]; exact fun y => nomatch y
      refine use_ldV (l := l) rfl rfl wa nD ⟨dw, s4 _ _ (f1 _ _ hW)⟩ l1 (s4 _ _ d3) ok le1 t1 (by omega) fun H5 as2 g2 f2 e5 go2 t2 le2 m2 => ?_
      walk_at "go"
      refine ⟨g2, gx, as ++ as2, _, rfl, fun b o h => f2 _ _ (ne_of_none h hD) (s4 _ _ (f1 _ _ h)), f2 _ _ nSD (s4 _ _ e3), e5, by rw [show zs.length - (i + 1) = zs.length - 1 - i by omega]; exact hgx2, t2, le2, fun b' g5 hb => ?_, by rw [List.length_append, Nat.succ_mul]; omega⟩
      rw [List.append_assoc]
      refine go1 _ _ ?_
      rw [show zs.length - i = zs.length - (i + 1) + 1 by omega]
      exact go_iter go2 hb
    · rintro σ H3 ⟨g1, gi, as, v5, rfl, f1, e3, d3, z1, t1, le1, go1, m1⟩
      rw [List.length_map, Nat.sub_self] at z1 go1
      rw [List.length_map] at m1
      rw [ch.zero] at z1
      obtain rfl := Option.some.inj z1
      have eg : hi + 1 = g1 := by rw [tb_one, decide_eq_true_eq] at t1; exact t1
      subst eg
      walk_at "go"
      exact q _ DD as f1 hD d3 (by have := go1 [] (hi + 1) go_iter0; rw [List.append_nil] at this; exact this) m1
end
end K10
namespace K10
open PySem PySem.Spec PyProof.Rows L2 Wd RT
local macro_rules | `(tactic| walk_at "gs") => `(tactic| repeat (first
  | with_reducible refine Wd.g_seq ?_
  | ((with_reducible show L2.Ends.nx _ _ _); (with_reducible refine Wd.g_nx ?_))
  | with_reducible refine Wd.g_asg ?_
  | ((with_reducible refine' Wd.g_var ?h1 ?_); (case h1 => exact rfl))
  | with_reducible refine Wd.g_c ?_
  | with_reducible refine Wd.g_op ?_
  | with_reducible refine Wd.g_un ?_
  | with_reducible refine Wd.g_I0 ?_
  | with_reducible refine Wd.g_U ?_
  | with_reducible refine Wd.g_eqI ?_
  | with_reducible refine Wd.g_neI ?_
  | with_reducible refine Wd.g_eqS ?_
  | with_reducible refine Wd.g_neS ?_
  | with_reducible refine Wd.g_eqB ?_
  | with_reducible refine Wd.g_neB ?_
  | with_reducible refine Wd.g_isN ?_
  | with_reducible refine Wd.g_notN ?_
  | with_reducible refine Wd.g_lc ?_
  | with_reducible refine Wd.g_yes ?_
  | with_reducible refine Wd.g_test ?_
  | with_reducible refine Wd.g_tB ?_
  | with_reducible refine Wd.g_bl ?_
  | with_reducible refine Wd.g_blI ?_
  | with_reducible refine Wd.g_and ?_
  | with_reducible refine Wd.g_or ?_
  | with_reducible refine Wd.g_not ?_
  | with_reducible refine Wd.g_andV ?_
  | with_reducible refine Wd.g_orV ?_
  | with_reducible refine Wd.g_notV ?_
  | with_reducible refine Wd.g_if ?_
  | with_reducible refine Wd.g_chain ?_
  | with_reducible refine Wd.g_chain3 ?_
  | with_reducible refine Wd.g_nil ?_
  | with_reducible refine Wd.g_cons ?_
  | with_reducible refine Wd.g_tup ?_
  | with_reducible refine Wd.g_lst ?_
  | with_reducible refine Wd.g_CB ?_
  | with_reducible refine Wd.g_call ?_
  | with_reducible refine Wd.g_callS ?_
  | with_reducible refine Wd.g_bm ?_
  | with_reducible refine Wd.g_bm0 ?_
  | with_reducible refine Wd.g_sl ?_
  | with_reducible refine Wd.g_part ?_
  | with_reducible refine Wd.g_part1 ?_
  | with_reducible refine Wd.g_noPart ?_
  | with_reducible refine Wd.g_next ?_
  | with_reducible refine Wd.g_name ?_
  | with_reducible refine Wd.g_sub ?_
  | with_reducible refine Wd.g_gnil ?_
  | with_reducible refine Wd.g_gcons ?_
  | with_reducible refine Wd.g_drop ?_
  | with_reducible refine Wd.g_ret ?_
  | with_reducible refine Wd.g_retN ?_
  | with_reducible refine Wd.g_brk ?_
  | with_reducible refine Wd.g_cont ?_
  | ((with_reducible show L2.Ends.bk _ _ _); (with_reducible refine Wd.g_bk ?_))
  | ((with_reducible show L2.Ends.ct _ _ _); (with_reducible refine Wd.g_ct ?_))
  | ((with_reducible show L2.Ends.rt _ _ _); (with_reducible refine Wd.g_rt ?_))
  | with_reducible refine Wd.g_for ?_
  | with_reducible refine Wd.g_rng1 ?_
  | with_reducible refine Wd.g_rng2 ?_
  | with_reducible refine Wd.g_iList ?_
  | with_reducible refine Wd.g_iTup ?_
  | ((with_reducible refine Wd.g_fit ?h1 ?_); (case h1 => exact rfl))
  | with_reducible refine Wd.g_max2 ?_
  | with_reducible refine Wd.g_min2 ?_
  | with_reducible refine Wd.g_int1B ?_
  | with_reducible refine L2.iteT ?_
  | with_reducible refine L2.iteF ?_
  | ((with_reducible refine Wd.g_itT ?h1 ?_); (case h1 => exact rfl))
  | ((with_reducible refine Wd.g_itF ?h1 ?_); (case h1 => exact rfl))))
structure TxtQ (K : PySem.W.Frag) (mg : Str → Option Value) : Prop extends TxtJ K mg where
  c_GREATEST_HIGH : ∃ t, mg "GREATEST_HIGH" = some (.int 1000 t)
section
variable {P : Program} {w : World} {K : PySem.W.Frag} {mg : Str → Option Value} {base : Heap} {CWt CR WP WK WR WE WL : Addr}
abbrev s_check_window : Stmt := top 27
theorem sc_check_window : FnScope ["window", "low", "high"] ["window"] (C8.fnScope s_check_window) := C8.fnScope_by (by decide +kernel)
def sp_check_window (K : PySem.W.Frag) : Sp := fun vs H Q _ => ∃ (W : Addr) (lo hi : Int), vs = [.ref W] ∧ SqT K H W [.int lo, .int hi] ∧ (0 ≤ lo ∧ lo ≤ hi ∧ hi ≤ 1000) ∧ Q .non H
theorem ok_check_window (T : TxtQ K mg) {f : Addr} {fd : FuncData} (D : C8.Def K mg "check_window" s_check_window f fd) (b : Binds K fd ["window"] []) (g_is_range : C8.Cal P w K mg base 2 "is_range" sp_is_range []) : C8.Cal P w K mg base 3 "check_window" (sp_check_window K) [] := by
  refine C8.cal0 D b .nil sc_check_window (fun vs H Q E h => ?_) fun cdv A outer s H vs Q E hr h => ?_
  · obtain ⟨W, lo, hi, rfl, _⟩ := h; rfl
  · obtain ⟨W, lo, hi, rfl, hW, ok, q⟩ := h
    have nd := sc_check_window.nd
    obtain ⟨tg, c_GREATEST_HIGH⟩ := T.c_GREATEST_HIGH
    refine ⟨_, (pss_cons (ps_asg (pv 0) (pg_tup rfl (pgs_cons (pg_name (i := 1) nd rfl (Or.inl rfl)) (pgs_cons (pg_name (i := 2) nd rfl (Or.inl rfl)) pgs_nil))))
      (pss_one (ps_if (pt_not (pt_val (C8.pe_c g_is_range hr (by first | decide | exact Nat.le_refl _ | omega) (by rfl) (pa_cons (pv 1) (pa_cons (pv 2) (pa_cons (pe_glob (v := .int 1000) rfl c_GREATEST_HIGH ⟨_, rfl⟩) pa_nil)))))) (pss_one ps_never) pss_nil))), ?_⟩
    walk_at "go"
    refine g_gtup hW rfl ?_
    walk_at "go"
    refine ⟨lo, hi, 1000, rfl, ok, ?_⟩
    walk_at "go"
    exact q

/-! ### the first bite -/
def fb (lo hi : Int) : Int → List Int → Int × Str
  | last, [] => (last + hi + 1, ("late" : Str))
  | last, p :: ps => if p > last + hi then (last + hi + 1, ("late" : Str)) else if p < last + lo then (p, ("early" : Str)) else fb lo hi p ps
theorem fb_nil (lo hi last : Int) : fb lo hi last [] = (last + hi + 1, ("late" : Str)) := rfl
theorem fb_late {lo hi last p : Int} {ps : List Int} (h : p > last + hi) : fb lo hi last (p :: ps) = (last + hi + 1, ("late" : Str)) := if_pos h
theorem fb_early {lo hi last p : Int} {ps : List Int} (h : ¬ p > last + hi) (h2 : p < last + lo) : fb lo hi last (p :: ps) = (p, ("early" : Str)) := (if_neg h).trans (if_pos h2)
theorem fb_next {lo hi last p : Int} {ps : List Int} (h : ¬ p > last + hi) (h2 : ¬ p < last + lo) : fb lo hi last (p :: ps) = fb lo hi p ps := (if_neg h).trans (if_neg h2)

abbrev s_first_bite : Stmt := top 28
theorem sc_first_bite : FnScope ["window", "pats", "low", "high", "last", "pat"] ["window", "pats"] (C8.fnScope s_first_bite) := C8.fnScope_by (by decide +kernel)
def sp_first_bite (K : PySem.W.Frag) : Sp := fun vs H Q _ => ∃ (W S : Addr) (lo hi : Int) (ps : List Int), vs = [.ref W, .ref S] ∧ SqT K H W [.int lo, .int hi] ∧ SqL K H S (ps.map V.int) ∧
  ∀ q, H q = none → Q (.ref q) (upd H q (.tup [.int (fb lo hi 0 ps).1, .str (fb lo hi 0 ps).2]))
theorem ok_first_bite (T : TxtQ K mg) {f : Addr} {fd : FuncData} (D : C8.Def K mg "first_bite" s_first_bite f fd) (b : Binds K fd ["window", "pats"] []) : C8.Cal P w K mg base 1 "first_bite" (sp_first_bite K) [] := by
  refine C8.cal0 D b .nil sc_first_bite (fun vs H Q E h => ?_) fun cdv A outer s H vs Q E hr h => ?_
  · obtain ⟨W, S, lo, hi, ps, rfl, _⟩ := h; rfl
  · obtain ⟨W, S, lo, hi, ps, rfl, hW, hS, q⟩ := h
    have nd := sc_first_bite.nd
    refine ⟨_, (pss_cons (ps_asg (pv 0) (pg_tup rfl (pgs_cons (pg_name (i := 2) nd rfl (Or.inl rfl)) (pgs_cons (pg_name (i := 3) nd rfl (Or.inl rfl)) pgs_nil))))
      (pss_cons (ps_set (i := 4) nd rfl (Or.inl rfl) pe_int)
      (pss_cons (ps_for PassesOwn.never rfl (pi_list (pv 1)) (pg_name (i := 5) nd rfl (Or.inl rfl)) (pss_cons (ps_if (pt_cmpR op_gt (pv 5) (pe_op op_add (pv 4) (pv 3)) (nomark _)) (pss_one ps_break) pss_nil)
      (pss_cons (ps_if (pt_cmpR op_lt (pv 5) (pe_op op_add (pv 4) (pv 2)) (nomark _)) (pss_one (ps_ret (pe_tup (pa_cons (pv 5) (pa_cons pe_str pa_nil))))) pss_nil)
      (pss_one (ps_set (i := 4) nd rfl (Or.inl rfl) (pv 5))))))
      (pss_one (ps_ret (pe_tup (pa_cons (pe_op op_add (pe_op op_add (pv 4) (pv 3)) pe_int) (pa_cons pe_str pa_nil)))))))), ?_⟩
    walk_at "go"
    refine g_gtup hW rfl ?_
    walk_at "go"
    refine w_list (xs := ps.map V.int) (fun i σ H' => H' = H ∧ ∃ (last : Int) (v : Option V), σ = [some (.ref W), some (.ref S), some (.int lo), some (.int hi), some (.int last), v] ∧ fb lo hi 0 ps = fb lo hi last (ps.drop i)) ?_ ?_ ?_ ?_
    · exact ⟨rfl, 0, none, rfl, rfl⟩
    · rintro i σ H' _ ⟨rfl, _⟩; exact hS
    · rintro i x σ H' hx ⟨rfl, last, v, rfl, e⟩
      obtain ⟨p, hp, rfl⟩ : ∃ p, ps[i]? = some p ∧ x = V.int p := by
        rw [List.getElem?_map] at hx
        cases hq : ps[i]? with
        | none => rw [hq] at hx; cases hx
        | some z => rw [hq] at hx; exact ⟨z, rfl, (Option.some.inj hx).symm⟩
      have ed : ps.drop i = p :: ps.drop (i + 1) := by
        obtain ⟨hl, hh⟩ := List.getElem?_eq_some_iff.mp hp
        rw [List.drop_eq_getElem_cons hl, hh]
      rw [ed] at e
      walk_at "go"
      refine g_ite (fun h1 => ?_) (fun h1 => ?_)
      · rw [fb_late h1] at e
        rw [e] at q
        walk_at "go"
        exact q
      · walk_at "go"
        refine g_ite (fun h2 => ?_) (fun h2 => ?_)
        · rw [fb_early h1 h2] at e
          rw [e] at q
          walk_at "go"
          exact q
        · rw [fb_next h1 h2] at e
          walk_at "go"
          exact ⟨rfl, p, _, rfl, e⟩
    · rintro σ H' ⟨rfl, last, v, rfl, e⟩
      rw [List.length_map, List.drop_length, fb_nil] at e
      rw [e] at q
      walk_at "go"
      exact q
abbrev s_bite_of_rounds : Stmt := top 49
theorem sc_bite_of_rounds : FnScope ["window", "plan", "rounds", "delays", "run", "turn"] ["window", "plan", "rounds", "delays"] (C8.fnScope s_bite_of_rounds) := C8.fnScope_by (by decide +kernel)
def sp_br (K : PySem.W.Frag) (n : Nat) : Sp := fun vs H Q _ => ∃ (W DL : Addr) (lo hi : Int) (v : V) (p : Pl) (l m : Nat) (ds nq : List Int) (t' : Int), vs = [.ref W, v, nV m, .ref DL] ∧ SqT K H W [.int lo, .int hi] ∧ H W = some (.tup [.int lo, .int hi]) ∧ PlA H v p ∧ okP n l p ∧ H DL = some (.lst (ds.map V.int)) ∧ m ≤ 1001 ∧
  iter (rn p) m ds 0 = some (nq, [], t') ∧ nq.length ≤ 10000000 ∧ ∀ H' q, Same H H' → H' q = some (.tup [.int (fb lo hi 0 nq).1, .str (fb lo hi 0 nq).2]) → Q (.ref q) H'
theorem ok_br {n : Nat} (T : TxtQ K mg) (TR : TxtR K CR) {f : Addr} {fd : FuncData} (D : C8.Def K mg "bite_of_rounds" s_bite_of_rounds f fd) (b : Binds K fd ["window", "plan", "rounds", "delays"] []) (g_Run : C8.Mak P w K mg base 1 "Run" CR (sp_init CR) []) (m_follow : C8.Met P w K mg base (n + 3) CR "follow" (sp_follow K CR (n + 1)) []) (g_first_bite : C8.Cal P w K mg base 1 "first_bite" (sp_first_bite K) []) :
    C8.Cal P w K mg base (n + 4) "bite_of_rounds" (sp_br K n) [] := by
  refine C8.cal0 D b .nil sc_bite_of_rounds (fun vs H Q E h => ?_) fun cdv A outer s H vs Q E hr h => ?_
  · obtain ⟨W, DL, lo, hi, v, p, l, m, ds, nq, t', rfl, _⟩ := h; rfl
  · obtain ⟨W, DL, lo, hi, v, p, l, m, ds, nq, t', rfl, _, hW, pA, ok, hD, m1, it, sz, q⟩ := h
    have nd := sc_bite_of_rounds.nd
    have hr : Room (n + 3) _ := hr
    refine ⟨_, (pss_cons (ps_set (i := 4) nd rfl (Or.inl rfl) (C8.pe_mk g_Run hr (by first | decide | exact Nat.le_refl _ | omega) (by rfl) (pa_cons (pv 3) pa_nil)))
      (pss_cons (ps_for PassesOwn.never rfl (pi_range1 rfl T.n_range (pa_cons (pv 2) pa_nil)) (pg_name (i := 5) nd rfl (Or.inl rfl)) (pss_one (ps_expr (C8.pe_mt m_follow hr (by first | decide | exact Nat.le_refl _ | omega) (pv 4) (pa_cons (pv 1) pa_nil)))))
      (pss_one (ps_ret (C8.pe_c g_first_bite hr (by first | decide | exact Nat.le_refl _ | omega) (by rfl) (pa_cons (pv 0) (pa_cons (pe_fld (pv 4) rfl) pa_nil))))))), ?_⟩
    walk_at "go"
    refine g_make ?_
    walk_at "go"
    intro R dx hx hd nx
    obtain ⟨G, eG, s1, g1, k1, n1⟩ := made (C := CR) hx hd nx
    rw [eG]
    refine ⟨R, dx, DL, rfl, g1, fun H2 PA f2 hPA e2 e3 => ⟨rfl, ?_⟩⟩
    have s2 := k1 _ f2
    have nPA : H PA = none := by
      cases hq : H PA with
      | none => rfl
      | some o => rw [s1 _ _ hq] at hPA; cases hPA
    have nDL : DL ≠ PA := ne_of_none hD nPA
    walk_at "go"
    refine w_range (by omega) (by omega) (fun i σ H' => ∃ (u : Nat) (np np2 : List Int) (t1 : Int) (v5 : Option V), σ = [some (.ref W), some v, some (nV m), some (.ref DL), some (.ref R), v5] ∧ Same H H' ∧ H' R = some (.ins CR dx (runF DL PA u t1)) ∧ H' PA = some (.lst (np.map V.int)) ∧ u ≤ ds.length ∧
      iter (rn p) (m - i) (ds.drop u) t1 = some (np2, [], t') ∧ np ++ np2 = nq) ?_ ?_ ?_
    · exact ⟨0, [], nq, 0, _, rfl, s2, e2, e3, Nat.zero_le _, it, rfl⟩
    · rintro i σ H3 hi' ⟨u, np, np2, t1, v5, rfl, s3, r3, p3, hu, it3, ea⟩
      rw [show m - i = m - (i + 1) + 1 by omega] at it3
      simp only [iter] at it3
      obtain ⟨a2, d2, t2, b2, c1, c2, rfl⟩ := seqR_inv it3
      walk_at "go"
      refine ⟨_, rfl, R, dx, _, rfl, r3, lk_follow, ?_⟩
      walk_at "go"
      refine ⟨R, dx, DL, PA, u, t1, v, p, l, ds, np, a2, d2, t2, rfl, PlA_keep (keepT_same s3) _ _ pA, ok, r3, s3 _ _ hD, nDL, p3, hu, c1, by rw [← ea, List.length_append, List.length_append] at sz; omega, fun H4 u2 f4 hu2 eu2 r4 p4 => ?_⟩
      subst eu2
      walk_at "go"
      exact ⟨u2, np ++ a2, b2, t2, _, rfl, fun b o h => f4 _ _ (ne_of_none h hx) (ne_of_none h nPA) (s3 _ _ h), r4, p4, hu2, c2, by rw [List.append_assoc]; exact ea⟩
    · rintro σ H3 ⟨u, np, np2, t1, v5, rfl, s3, r3, p3, hu, it3, ea⟩
      rw [show m - ((m : Int)).toNat = 0 by omega] at it3
      simp only [iter, Option.some.injEq, Prod.mk.injEq] at it3
      obtain ⟨rfl, _, _⟩ := it3
      rw [List.append_nil] at ea
      subst ea
      walk_at "go"
      refine g_fldV rfl r3 TR.c TR.nP lk_p ?_
      walk_at "go"
      refine ⟨W, PA, lo, hi, np, rfl, SqT.of (s3 _ _ hW), SqL.of p3, fun z hz => ?_⟩
      walk_at "go"
      exact q _ z (s3.trans (same_new hz)) upd_same
end
end K10
namespace K10
open PySem PySem.Spec PyProof.Rows L2 Wd RT
local macro_rules | `(tactic| walk_at "gs") => `(tactic| repeat (first
  | with_reducible refine Wd.g_seq ?_
  | ((with_reducible show L2.Ends.nx _ _ _); (with_reducible refine Wd.g_nx ?_))
  | with_reducible refine Wd.g_asg ?_
  | ((with_reducible refine' Wd.g_var ?h1 ?_); (case h1 => exact rfl))
  | with_reducible refine Wd.g_c ?_
  | with_reducible refine Wd.g_op ?_
  | with_reducible refine Wd.g_un ?_
  | with_reducible refine Wd.g_I0 ?_
  | with_reducible refine Wd.g_U ?_
  | with_reducible refine Wd.g_eqI ?_
  | with_reducible refine Wd.g_neI ?_
  | with_reducible refine Wd.g_eqS ?_
  | with_reducible refine Wd.g_neS ?_
  | with_reducible refine Wd.g_eqB ?_
  | with_reducible refine Wd.g_neB ?_
  | with_reducible refine Wd.g_isN ?_
  | with_reducible refine Wd.g_notN ?_
  | with_reducible refine Wd.g_lc ?_
  | with_reducible refine Wd.g_yes ?_
  | with_reducible refine Wd.g_test ?_
  | with_reducible refine Wd.g_tB ?_
  | with_reducible refine Wd.g_bl ?_
  | with_reducible refine Wd.g_blI ?_
  | with_reducible refine Wd.g_and ?_
  | with_reducible refine Wd.g_or ?_
  | with_reducible refine Wd.g_not ?_
  | with_reducible refine Wd.g_andV ?_
  | with_reducible refine Wd.g_orV ?_
  | with_reducible refine Wd.g_notV ?_
  | with_reducible refine Wd.g_if ?_
  | with_reducible refine Wd.g_chain ?_
  | with_reducible refine Wd.g_chain3 ?_
  | with_reducible refine Wd.g_nil ?_
  | with_reducible refine Wd.g_cons ?_
  | with_reducible refine Wd.g_tup ?_
  | with_reducible refine Wd.g_lst ?_
  | with_reducible refine Wd.g_CB ?_
  | with_reducible refine Wd.g_call ?_
  | with_reducible refine Wd.g_callS ?_
  | with_reducible refine Wd.g_bm ?_
  | with_reducible refine Wd.g_bm0 ?_
  | with_reducible refine Wd.g_sl ?_
  | with_reducible refine Wd.g_part ?_
  | with_reducible refine Wd.g_part1 ?_
  | with_reducible refine Wd.g_noPart ?_
  | with_reducible refine Wd.g_next ?_
  | with_reducible refine Wd.g_name ?_
  | with_reducible refine Wd.g_sub ?_
  | with_reducible refine Wd.g_gnil ?_
  | with_reducible refine Wd.g_gcons ?_
  | with_reducible refine Wd.g_drop ?_
  | with_reducible refine Wd.g_ret ?_
  | with_reducible refine Wd.g_retN ?_
  | with_reducible refine Wd.g_brk ?_
  | with_reducible refine Wd.g_cont ?_
  | ((with_reducible show L2.Ends.bk _ _ _); (with_reducible refine Wd.g_bk ?_))
  | ((with_reducible show L2.Ends.ct _ _ _); (with_reducible refine Wd.g_ct ?_))
  | ((with_reducible show L2.Ends.rt _ _ _); (with_reducible refine Wd.g_rt ?_))
  | with_reducible refine Wd.g_for ?_
  | with_reducible refine Wd.g_rng1 ?_
  | with_reducible refine Wd.g_rng2 ?_
  | with_reducible refine Wd.g_iList ?_
  | with_reducible refine Wd.g_iTup ?_
  | ((with_reducible refine Wd.g_fit ?h1 ?_); (case h1 => exact rfl))
  | with_reducible refine Wd.g_max2 ?_
  | with_reducible refine Wd.g_min2 ?_
  | with_reducible refine Wd.g_int1B ?_
  | with_reducible refine L2.iteT ?_
  | with_reducible refine L2.iteF ?_
  | ((with_reducible refine Wd.g_itT ?h1 ?_); (case h1 => exact rfl))
  | ((with_reducible refine Wd.g_itF ?h1 ?_); (case h1 => exact rfl))))
section
variable {P : Program} {w : World} {K : PySem.W.Frag} {mg : Str → Option Value} {base : Heap} {CWt CR WP WK WR WE WL : Addr}
abbrev s_judged : Stmt := top 50
theorem sc_judged : FnScope ["window", "plan", "watcher", "goals", "rounds", "delays"] ["window", "plan"] (C8.fnScope s_judged) := C8.fnScope_by (by decide +kernel)
/-- safe: a set of gaps without 0 and with the bite, out of which nothing leads; bitten: a run that is bitten -/
def sp_jd (n : Nat) : Sp := fun vs H Q _ => ∃ (W : Addr) (lo hi : Nat) (v : V) (p : Pl) (l : Nat), vs = [.ref W, v] ∧ H W = some (.tup [nV lo, nV hi]) ∧ lo ≤ hi ∧ hi ≤ 1000 ∧ PlA H v p ∧ okP n l p ∧ n ≤ 5 ∧ l ≤ 2 ∧ cnt p ≤ 30 ∧
  (∀ H' t Z, Same H H' → H t = none → H' t = some (.tup [.str "safe"]) → Bits hi (Led lo hi p) Z Z → Z.testBit (hi + 1) = true → Z.testBit 0 = false → Q (.ref t) H') ∧
  ∀ H' t D q m ds nq t', Same H H' → H t = none → H D = none → D ≠ t → H' t = some (.tup [.str "bitten", nV m, .ref D, .ref q]) → H' D = some (.lst (ds.map V.int)) → H' q = some (.tup [.int (fb lo hi 0 nq).1, .str (fb lo hi 0 nq).2]) →
    m ≤ 1001 → iter (rn p) m ds 0 = some (nq, [], t') → gapOf lo hi nq t' = ((hi + 1 : Nat) : Int) → ds.length ≤ 3003000 → nq.length ≤ 3003000 → Q (.ref t) H'
theorem ok_judged {n : Nat} (T : TxtQ K mg) {f : Addr} {fd : FuncData} (D : C8.Def K mg "judged" s_judged f fd) (b : Binds K fd ["window", "plan"] []) (g_check_window : C8.Cal P w K mg base 3 "check_window" (sp_check_window K) []) (g_check_plan : C8.Cal P w K mg base 4 "check_plan" (sp_check_plan K) [])
    (g_Watcher : C8.Mak P w K mg base 1 "Watcher" CWt (sp_winit K CWt) []) (g_goals_of_rounds : C8.Cal P w K mg base (6 + 3 * n) "goals_of_rounds" (sp_gr CWt n) []) (g_delays_of_rounds : C8.Cal P w K mg base (6 + 3 * n) "delays_of_rounds" (sp_dr CWt n) []) (g_bite_of_rounds : C8.Cal P w K mg base (n + 4) "bite_of_rounds" (sp_br K n) []) :
    C8.Cal P w K mg base (7 + 3 * n) "judged" (sp_jd n) [] := by
  have lv : 7 + 3 * n = (6 + 3 * n) + 1 := by omega
  rw [lv]
  refine C8.cal0 D b .nil sc_judged (fun vs H Q E h => ?_) fun cdv A outer s H vs Q E hr h => ?_
  · obtain ⟨W, lo, hi, v, p, l, rfl, _⟩ := h; rfl
  · obtain ⟨W, lo, hi, v, p, l, rfl, hW, l1, l2, pA, ok, n5, ll, cn, q1, q2⟩ := h
    have nd := sc_judged.nd
    have m3 : mx p ≤ 3000 := by
      have h1 := mx_le p n l ok
      have h2 : 10 ^ l ≤ 10 ^ 2 := Nat.pow_le_pow_right (by decide) ll
      have h3 := Nat.mul_le_mul cn h2
      omega
    refine ⟨_, (pss_cons (ps_expr (C8.pe_c g_check_window hr (by first | decide | exact Nat.le_refl _ | omega) (by rfl) (pa_cons (pv 0) pa_nil)))
      (pss_cons (ps_expr (C8.pe_c g_check_plan hr (by first | decide | exact Nat.le_refl _ | omega) (by rfl) (pa_cons (pv 1) pa_nil)))
      (pss_cons (ps_set (i := 2) nd rfl (Or.inl rfl) (C8.pe_mk g_Watcher hr (by first | decide | exact Nat.le_refl _ | omega) (by rfl) (pa_cons (pv 0) pa_nil)))
      (pss_cons (ps_set (i := 3) nd rfl (Or.inl rfl) (C8.pe_c g_goals_of_rounds hr (by first | decide | exact Nat.le_refl _ | omega) (by rfl) (pa_cons (pv 2) (pa_cons (pv 1) pa_nil))))
      (pss_cons (ps_if (pt_cmpR op_isN1 (pv 3) pe_non (nomark _)) (pss_one (ps_ret (pe_tup (pa_cons pe_str pa_nil)))) pss_nil)
      (pss_cons (ps_set (i := 4) nd rfl (Or.inl rfl) (pe_op op_sub (pe_callB (r := Wd.rLen K) call_len1 (by rfl) T.n_len PySem.boot_len (pa_cons (pv 3) pa_nil)) pe_int))
      (pss_cons (ps_set (i := 5) nd rfl (Or.inl rfl) (C8.pe_c g_delays_of_rounds hr (by first | decide | exact Nat.le_refl _ | omega) (by rfl) (pa_cons (pv 2) (pa_cons (pv 1) (pa_cons (pv 3) pa_nil)))))
      (pss_one (ps_ret (pe_tup (pa_cons pe_str (pa_cons (pv 4) (pa_cons (pv 5) (pa_cons (C8.pe_c g_bite_of_rounds hr (by first | decide | exact Nat.le_refl _ | omega) (by rfl) (pa_cons (pv 0) (pa_cons (pv 1) (pa_cons (pv 4) (pa_cons (pv 5) pa_nil))))) pa_nil)))))))))))))), ?_⟩
    walk_at "go"
    refine ⟨W, lo, hi, rfl, SqT.of hW, ⟨by omega, by omega, by omega⟩, ?_⟩
    walk_at "go"
    refine ⟨v, p, n, l, rfl, pA, ok, n5, ll, cn, fun H1 s1 => ?_⟩
    walk_at "go"
    refine g_make ?_
    walk_at "go"
    intro x dx hx hd nx
    obtain ⟨G, eG, s2, g2, k2, n2⟩ := made (C := CWt) hx hd nx
    rw [eG]
    refine ⟨x, dx, W, lo, hi, rfl, g2, SqT.of (s2 _ _ (s1 _ _ hW)), l1, l2, fun H2 f2 e2 => ⟨rfl, ?_⟩⟩
    have s3 : Same H H2 := s1.trans (k2 _ f2)
    walk_at "go"
    refine ⟨x, lo, hi, v, p, l, rfl, ⟨dx, e2⟩, l1, l2, PlA_keep (keepT_same s3) _ _ pA, ok, fun H4 Z s4 bz z1 z0 => ?_, fun H4 L zs g s4 hL ch b0 zl => ?_⟩
    · walk_at "go"
      intro t ht
      walk_at "go"
      have s5 := s3.trans s4
      refine q1 _ t Z (s5.trans (same_new ht)) ?_ upd_same bz z1 z0
      cases hq : H t with
      | none => rfl
      | some o => rw [s5 _ _ hq] at ht; cases ht
    · have s5 := s3.trans s4
      walk_at "go"
      refine g_len (.inl (SqL.of hL)) ?_
      walk_at "go"
      have el : (((zs ++ [g]).map nV).length : Int) - 1 = ((zs.length : Nat) : Int) := by rw [List.length_map, List.length_append, List.length_singleton]; omega
      rw [el]
      walk_at "go"
      refine ⟨x, L, lo, hi, v, p, l, zs, g, rfl, ⟨dx, s4 _ _ e2⟩, l1, l2, PlA_keep (keepT_same s5) _ _ pA, ok, m3, hL, ch, b0, zl, fun H5 DD as s6 nD eD go al => ?_⟩
      have s7 := s5.trans s6
      have nDH : H DD = none := by
        cases hq : H DD with
        | none => rfl
        | some o => rw [s5 _ _ hq] at nD; cases nD
      obtain ⟨nq, t', it, gp⟩ := go [] 0
      rw [List.append_nil] at it
      have gp0 := gp [] (by unfold gapOf stL; simp only; omega)
      rw [List.nil_append] at gp0
      have al2 : as.length ≤ 3003000 := by
        have := Nat.mul_le_mul (show zs.length ≤ 1001 by omega) m3
        omega
      have nl : nq.length ≤ 3003000 := by
        have h1 := iter_le (B := cnt p * 10 ^ l) (fun ds t nq ds' t' h => np_le p n l ds t nq ds' t' ok h) zs.length as 0 nq [] t' it
        have h2 : 10 ^ l ≤ 10 ^ 2 := Nat.pow_le_pow_right (by decide) ll
        have h3 := Nat.mul_le_mul cn h2
        have h4 := Nat.mul_le_mul (show zs.length ≤ 1001 by omega) h3
        omega
      walk_at "go"
      refine ⟨W, DD, lo, hi, v, p, l, zs.length, as, nq, t', rfl, SqT.of (s7 _ _ hW), s7 _ _ hW, PlA_keep (keepT_same s7) _ _ pA, ok, eD, by omega, it, by omega, fun H6 qq s8 eq => ?_⟩
      walk_at "go"
      intro t ht
      walk_at "go"
      have s9 := s7.trans s8
      have eD6 := s8 _ _ eD
      refine q2 _ t DD qq zs.length as nq t' (s9.trans (same_new ht)) ?_ nDH (fun y => by rw [y, ht] at eD6; cases eD6) upd_same (same_new ht _ _ eD6) (same_new ht _ _ eq) (by omega) it gp0 al2 nl
      cases hq : H t with
      | none => rfl
      | some o => rw [s9 _ _ hq] at ht; cases ht
end
end K10
namespace K10
open PySem PySem.Spec PyProof.Rows L2 Wd RT
local macro_rules | `(tactic| walk_at "gs") => `(tactic| repeat (first
  | with_reducible refine Wd.g_seq ?_
  | ((with_reducible show L2.Ends.nx _ _ _); (with_reducible refine Wd.g_nx ?_))
  | with_reducible refine Wd.g_asg ?_
  | ((with_reducible refine' Wd.g_var ?h1 ?_); (case h1 => exact rfl))
  | with_reducible refine Wd.g_c ?_
  | with_reducible refine Wd.g_op ?_
  | with_reducible refine Wd.g_un ?_
  | with_reducible refine Wd.g_I0 ?_
  | with_reducible refine Wd.g_U ?_
  | with_reducible refine Wd.g_eqI ?_
  | with_reducible refine Wd.g_neI ?_
  | with_reducible refine Wd.g_eqS ?_
  | with_reducible refine Wd.g_neS ?_
  | with_reducible refine Wd.g_eqB ?_
  | with_reducible refine Wd.g_neB ?_
  | with_reducible refine Wd.g_isN ?_
  | with_reducible refine Wd.g_notN ?_
  | with_reducible refine Wd.g_lc ?_
  | with_reducible refine Wd.g_yes ?_
  | with_reducible refine Wd.g_test ?_
  | with_reducible refine Wd.g_tB ?_
  | with_reducible refine Wd.g_bl ?_
  | with_reducible refine Wd.g_blI ?_
  | with_reducible refine Wd.g_and ?_
  | with_reducible refine Wd.g_or ?_
  | with_reducible refine Wd.g_not ?_
  | with_reducible refine Wd.g_andV ?_
  | with_reducible refine Wd.g_orV ?_
  | with_reducible refine Wd.g_notV ?_
  | with_reducible refine Wd.g_if ?_
  | with_reducible refine Wd.g_chain ?_
  | with_reducible refine Wd.g_chain3 ?_
  | with_reducible refine Wd.g_nil ?_
  | with_reducible refine Wd.g_cons ?_
  | with_reducible refine Wd.g_tup ?_
  | with_reducible refine Wd.g_lst ?_
  | with_reducible refine Wd.g_CB ?_
  | with_reducible refine Wd.g_call ?_
  | with_reducible refine Wd.g_callS ?_
  | with_reducible refine Wd.g_bm ?_
  | with_reducible refine Wd.g_bm0 ?_
  | with_reducible refine Wd.g_sl ?_
  | with_reducible refine Wd.g_part ?_
  | with_reducible refine Wd.g_part1 ?_
  | with_reducible refine Wd.g_noPart ?_
  | with_reducible refine Wd.g_next ?_
  | with_reducible refine Wd.g_name ?_
  | with_reducible refine Wd.g_sub ?_
  | with_reducible refine Wd.g_gnil ?_
  | with_reducible refine Wd.g_gcons ?_
  | with_reducible refine Wd.g_drop ?_
  | with_reducible refine Wd.g_ret ?_
  | with_reducible refine Wd.g_retN ?_
  | with_reducible refine Wd.g_brk ?_
  | with_reducible refine Wd.g_cont ?_
  | ((with_reducible show L2.Ends.bk _ _ _); (with_reducible refine Wd.g_bk ?_))
  | ((with_reducible show L2.Ends.ct _ _ _); (with_reducible refine Wd.g_ct ?_))
  | ((with_reducible show L2.Ends.rt _ _ _); (with_reducible refine Wd.g_rt ?_))
  | with_reducible refine Wd.g_for ?_
  | with_reducible refine Wd.g_rng1 ?_
  | with_reducible refine Wd.g_rng2 ?_
  | with_reducible refine Wd.g_iList ?_
  | with_reducible refine Wd.g_iTup ?_
  | ((with_reducible refine Wd.g_fit ?h1 ?_); (case h1 => exact rfl))
  | with_reducible refine Wd.g_max2 ?_
  | with_reducible refine Wd.g_min2 ?_
  | with_reducible refine Wd.g_int1B ?_
  | with_reducible refine L2.iteT ?_
  | with_reducible refine L2.iteF ?_
  | ((with_reducible refine Wd.g_itT ?h1 ?_); (case h1 => exact rfl))
  | ((with_reducible refine Wd.g_itF ?h1 ?_); (case h1 => exact rfl))))
/-! ### whatever a run does, Led knows -/
def Snd (lo hi : Nat) (f : List Int → Int → Res) (L : (Nat → Prop) → Nat → Prop) : Prop := ∀ x t nq y t' pats (g : Nat), g ≤ hi + 1 → gapOf lo hi pats t = (g : Int) → f x t = some (nq, y, t') → ∃ g' : Nat, g' ≤ hi + 1 ∧ gapOf lo hi (pats ++ nq) t' = (g' : Int) ∧ ∀ G : Nat → Prop, G g' → L G g
theorem snd_id {lo hi : Nat} {f : List Int → Int → Res} {L : (Nat → Prop) → Nat → Prop} (h : ∀ x t, f x t = some ([], x, t)) (hl : ∀ G g, G g → L G g) : Snd lo hi f L := fun x t nq y t' pats g hg gp e => by
  rw [h] at e
  simp only [Option.some.injEq, Prod.mk.injEq] at e
  obtain ⟨rfl, rfl, rfl⟩ := e
  exact ⟨g, hg, by rw [List.append_nil]; exact gp, fun G hG => hl G g hG⟩
theorem snd_seq {lo hi : Nat} {f k h : List Int → Int → Res} {L1 L2 L : (Nat → Prop) → Nat → Prop} (e : ∀ ds t, h ds t = seqR (f ds t) k) (hl : ∀ G g, L1 (L2 G) g → L G g) (c1 : Snd lo hi f L1) (c2 : Snd lo hi k L2) : Snd lo hi h L := fun x t nq y t' pats g hg gp r => by
  rw [e] at r
  obtain ⟨a, ds, t1, b, h1, h2, rfl⟩ := seqR_inv r
  obtain ⟨g1, i1, j1, k1⟩ := c1 _ _ _ _ _ _ _ hg gp h1
  obtain ⟨g2, i2, j2, k2⟩ := c2 _ _ _ _ _ _ _ i1 j1 h2
  exact ⟨g2, i2, by rw [← List.append_assoc]; exact j2, fun G hG => hl G g (k1 _ (k2 G hG))⟩
theorem snd_iter {lo hi : Nat} {f : List Int → Int → Res} {L : (Nat → Prop) → Nat → Prop} (c : Snd lo hi f L) : ∀ n, Snd lo hi (iter f n) (iterP L n)
  | 0 => snd_id (fun x t => by simp only [iter]) fun G g h => h
  | n + 1 => snd_seq (f := f) (k := iter f n) (L1 := L) (L2 := iterP L n) (fun ds t => by simp only [iter]) (fun G g h => h) c (snd_iter c n)
mutual
theorem rn_led {lo hi : Nat} (hl : lo ≤ hi) : ∀ (p : Pl) (d l : Nat), okP d l p → Snd lo hi (rn p) (Led lo hi p)
  | .pat, d, l, ok => fun x t nq y t' pats g hg gp e => by
    obtain ⟨n1, t1, e1, q1⟩ := go_pat (g := g) hl x t
    rw [List.nil_append, e] at e1
    simp only [Option.some.injEq, Prod.mk.injEq] at e1
    obtain ⟨rfl, _, rfl⟩ := e1
    exact ⟨_, gP_le, q1 pats gp, fun G h => by unfold Led; exact h⟩
  | .work a b, d, l, ok => fun x t nq y t' pats g hg gp e => by
    unfold okP at ok
    cases x with
    | nil => simp only [rn] at e; cases e
    | cons d0 ds =>
      have e0 := e
      simp only [rn] at e
      split at e
      · rename_i c
        obtain ⟨a', rfl⟩ : ∃ a' : Nat, a = a' := ⟨a.toNat, by omega⟩
        obtain ⟨b', rfl⟩ : ∃ b' : Nat, b = b' := ⟨b.toNat, by omega⟩
        obtain ⟨d', rfl⟩ : ∃ d' : Nat, d0 = d' := ⟨d0.toNat, by omega⟩
        obtain ⟨n1, t1, e1, q1⟩ := go_work (lo := lo) (hi := hi) (g := g) (a := a') (b := b') (d := d') (by omega) (by omega) ds t
        rw [show [(d' : Int)] ++ ds = (d' : Int) :: ds from rfl, e0] at e1
        simp only [Option.some.injEq, Prod.mk.injEq] at e1
        obtain ⟨rfl, _, rfl⟩ := e1
        exact ⟨_, gW_le, q1 pats gp, fun G h => by unfold Led; exact ⟨d', by omega, by omega, h⟩⟩
      · cases e
  | .row ps, 0, l, ok => by unfold okP at ok; exact ok.elim
  | .row ps, d + 1, l, ok => fun x t nq y t' pats g hg gp e => by
    unfold okP at ok
    simp only [rn] at e
    obtain ⟨g', h1, h2, h3⟩ := rns_led hl ps d l ok.2.2 _ _ _ _ _ _ _ hg gp e
    exact ⟨g', h1, h2, fun G h => by unfold Led; exact h3 G h⟩
  | .either ps, 0, l, ok => by unfold okP at ok; exact ok.elim
  | .either ps, d + 1, l, ok => fun x t nq y t' pats g hg gp e => by
    unfold okP at ok
    cases x with
    | nil => simp only [rn] at e; cases e
    | cons d0 ds =>
      simp only [rn] at e
      split at e
      · obtain ⟨g', h1, h2, h3⟩ := rnAt_led hl ps d0.toNat d l ok.2.2 _ _ _ _ _ _ _ hg gp e
        exact ⟨g', h1, h2, fun G h => by unfold Led; exact h3 G h⟩
      · cases e
  | .loop a b p, 0, l, ok => by unfold okP at ok; exact ok.elim
  | .loop a b p, d + 1, 0, ok => by unfold okP at ok; exact ok.elim
  | .loop a b p, d + 1, l + 1, ok => fun x t nq y t' pats g hg gp e => by
    unfold okP at ok
    cases x with
    | nil => simp only [rn] at e; cases e
    | cons d0 ds =>
      simp only [rn] at e
      split at e
      · rename_i c
        obtain ⟨g', h1, h2, h3⟩ := snd_iter (rn_led hl p d l ok.2.2.2) d0.toNat _ _ _ _ _ _ _ hg gp e
        exact ⟨g', h1, h2, fun G h => by unfold Led; exact ⟨d0.toNat, by omega, by omega, h3 G h⟩⟩
      · cases e
theorem rns_led {lo hi : Nat} (hl : lo ≤ hi) : ∀ (ps : List Pl) (d l : Nat), okPs d l ps → Snd lo hi (rns ps) (Leds lo hi ps)
  | [], d, l, ok => snd_id (fun x t => by simp only [rns]) fun G g h => by unfold Leds; exact h
  | p :: ps, d, l, ok => by
    unfold okPs at ok
    exact snd_seq (fun ds t => by simp only [rns]) (fun G g h => by unfold Leds; exact h) (rn_led hl p d l ok.1) (rns_led hl ps d l ok.2)
theorem rnAt_led {lo hi : Nat} (hl : lo ≤ hi) : ∀ (ps : List Pl) (n d l : Nat), okPs d l ps → Snd lo hi (rnAt ps n) (LedE lo hi ps)
  | [], n, d, l, ok => fun x t nq y t' pats g hg gp e => by simp only [rnAt] at e; cases e
  | p :: ps, 0, d, l, ok => fun x t nq y t' pats g hg gp e => by
    unfold okPs at ok
    simp only [rnAt] at e
    obtain ⟨g', h1, h2, h3⟩ := rn_led hl p d l ok.1 _ _ _ _ _ _ _ hg gp e
    exact ⟨g', h1, h2, fun G h => by unfold LedE; exact .inl (h3 G h)⟩
  | p :: ps, n + 1, d, l, ok => fun x t nq y t' pats g hg gp e => by
    unfold okPs at ok
    simp only [rnAt] at e
    obtain ⟨g', h1, h2, h3⟩ := rnAt_led hl ps n d l ok.2 _ _ _ _ _ _ _ hg gp e
    exact ⟨g', h1, h2, fun G h => by unfold LedE; exact .inr (h3 G h)⟩
end
theorem fix_iter {lo hi Z : Nat} {p : Pl} (bz : Bits hi (Led lo hi p) Z Z) : ∀ (m i : Nat), i ≤ hi + 1 → iterP (Led lo hi p) m (inS Z) i → inS Z i
  | 0, i, _, h => h
  | m + 1, i, hi', h => (bz.bit i hi').mpr (Led.congr p (fun j hj x => fix_iter bz m j hj x) i hi' h)
/-- out of a closed set of gaps no run leads -/
theorem safe_runs {lo hi Z : Nat} {p : Pl} {d l : Nat} (hl : lo ≤ hi) (ok : okP d l p) (bz : Bits hi (Led lo hi p) Z Z) (z1 : Z.testBit (hi + 1) = true) (z0 : Z.testBit 0 = false) {m : Nat} {ds nq y : List Int} {t' : Int} (it : iter (rn p) m ds 0 = some (nq, y, t')) : gapOf lo hi nq t' ≠ ((hi + 1 : Nat) : Int) := fun h => by
  obtain ⟨g', h1, h2, h3⟩ := snd_iter (rn_led hl p d l ok) m ds 0 nq y t' [] 0 (Nat.zero_le _) (by unfold gapOf stL; simp only; omega) it
  rw [List.nil_append, h] at h2
  have e : hi + 1 = g' := by omega
  subst e
  have := fix_iter bz m 0 (Nat.zero_le _) (h3 _ z1)
  rw [show inS Z 0 = (Z.testBit 0 = true) from rfl, z0] at this
  cases this
/-! ### what is found, as data -/
theorem fb_kind (lo hi : Int) : ∀ (ps : List Int) (last : Int), (fb lo hi last ps).2 = ("late" : Str) ∨ (fb lo hi last ps).2 = ("early" : Str)
  | [], last => .inl rfl
  | p :: ps, last => by
    by_cases c1 : p > last + hi
    · rw [fb_late c1]; exact .inl rfl
    · by_cases c2 : p < last + lo
      · rw [fb_early c1 c2]; exact .inr rfl
      · rw [fb_next c1 c2]; exact fb_kind lo hi ps p
def btD (z : Int × Str) : PyData := .tuple [.int z.1, .str z.2]
theorem dp_bt {K : PySem.W.Frag} {H : Hp} {q : Addr} {z : Int × Str} (h : H q = some (.tup [.int z.1, .str z.2])) : Dp K H (.ref q) (btD z) := .tup (SqT.of h) (.cons (.int _) (.cons (.str _) .nil))
def fdD (m : Int) (ds : List Int) (z : Int × Str) : PyData := .tuple [.str "bitten", .int m, .list (ds.map PyData.int), btD z]
theorem fd_shaped (m : Int) (ds : List Int) {z : Int × Str} (h : z.2 = ("late" : Str) ∨ z.2 = ("early" : Str)) : SeqAt.shaped (fdD m ds z) = true := by
  have ok : PyData.strOk z.2 = true := by rcases h with h | h <;> rw [h] <;> decide +kernel
  have ok2 : PyData.strOk ("bitten" : Str) = true := by decide +kernel
  unfold SeqAt.shaped fdD btD
  rw [Bool.and_eq_true]
  refine ⟨by simp only [PyData.canLay0, PyData.canLayAll0, PySem.W.ke_canLayAll0, ok, ok2, Bool.and_true], decide_eq_true ?_⟩
  simp only [PyData.depth, PyData.depthAll, PySem.W.ke_depthAll]
  omega
theorem bt_shaped {z : Int × Str} (h : z.2 = ("late" : Str) ∨ z.2 = ("early" : Str)) : SeqAt.shaped (btD z) = true := by
  have ok : PyData.strOk z.2 = true := by rcases h with h | h <;> rw [h] <;> decide +kernel
  unfold SeqAt.shaped btD
  rw [Bool.and_eq_true]
  refine ⟨by simp only [PyData.canLay0, PyData.canLayAll0, ok, Bool.and_true], decide_eq_true ?_⟩
  simp only [PyData.depth, PyData.depthAll]
  omega
theorem safe_shaped : SeqAt.shaped (.tuple [.str ("safe" : Str)]) = true := by
  have ok : PyData.strOk ("safe" : Str) = true := by decide +kernel
  simp [SeqAt.shaped, PyData.canLay0, PyData.canLayAll0, PyData.depth, PyData.depthAll, ok]
theorem g_eqSafe {K : PySem.W.Frag} {a b : Addr} {H : Hp} {Q : VK} (h1 : H a = some (.tup [.str "safe"])) (h2 : H b = some (.tup [.str "safe"])) (q : Q (.bl true) H) : rEqD K (.ref a) (.ref b) H Q :=
  ⟨_, _, .tup (SqT.of h1) (.cons (.str _) .nil), .tup (SqT.of h2) (.cons (.str _) .nil), safe_shaped, safe_shaped, by
    have : PyData.eqv (.tuple [.str ("safe" : Str)]) (.tuple [.str ("safe" : Str)]) = true := by simp [PyData.eqv, PyData.eqvAll]
    rw [this]; exact q⟩
theorem g_eqFd {K : PySem.W.Frag} {a b D q : Addr} {m : Int} {ds : List Int} {z : Int × Str} {H : Hp} {Q : VK} (hk : z.2 = ("late" : Str) ∨ z.2 = ("early" : Str)) (h1 : H a = some (.tup [.str "bitten", .int m, .ref D, .ref q])) (hD : H D = some (.lst (ds.map V.int))) (hq : H q = some (.tup [.int z.1, .str z.2])) (h2 : H b = some (.tup [.str "safe"])) (k : Q (.bl false) H) : rEqD K (.ref a) (.ref b) H Q :=
  ⟨fdD m ds z, _, .tup (SqT.of h1) (.cons (.str _) (.cons (.int _) (.cons (dp_ints (SqL.of hD)) (.cons (dp_bt hq) .nil)))), .tup (SqT.of h2) (.cons (.str _) .nil), fd_shaped _ _ hk, safe_shaped, by
    have : PyData.eqv (fdD m ds z) (.tuple [.str ("safe" : Str)]) = false := by simp [fdD, PyData.eqv, PyData.eqvAll]
    rw [this]; exact k⟩
end K10
namespace K10R
open PySem PySem.Spec PyProof.Rows L2 Wd K10
section
variable {P : Program} {w : World} {K : PySem.W.Frag} {mg : Str → Option Value} {base : Heap}
abbrev s_is_number : Stmt := top 12
theorem sc_is_number : FnScope ["value"] ["value"] (C8.fnScope s_is_number) := C8.fnScope_by (by decide +kernel)
def sp_is_number : Sp := fun vs H Q _ => ∃ i : Int, vs = [.int i] ∧ Q (.bl true) H
theorem ok_is_number (T : Txt K mg) {f : Addr} {fd : FuncData} (D : C8.Def K mg "is_number" s_is_number f fd) (b : Binds K fd ["value"] []) : C8.Cal P w K mg base 1 "is_number" sp_is_number [] := by
  refine C8.cal0 D b .nil sc_is_number (fun vs H Q E h => ?_) fun cdv A outer s H vs Q E hr h => ?_
  · obtain ⟨i, rfl, _⟩ := h; rfl
  · obtain ⟨i, rfl, q⟩ := h
    have nd := sc_is_number.nd
    refine ⟨_, (pss_one (ps_ret (pe_and (pe_callB (r := rIsi K) call_isi (by rfl) T.n_isinstance (by decide +kernel) (pa_cons (pv 0) (pa_cons (pe_bltn (v := .ty "int") (by rfl) T.n_int (by decide +kernel) rfl) pa_nil))) (pe_one (pe_not (pe_callB (r := rIsi K) call_isi (by rfl) T.n_isinstance (by decide +kernel) (pa_cons (pv 0) (pa_cons (pe_bltn (v := .ty "bool") (by rfl) T.n_bool (by decide +kernel) rfl) pa_nil)))))))), ?_⟩
    walk_at "go"
    refine g_isi (.ty "int") (.base (.int i)) (kit_ty (r := true) (by decide +kernel)) ?_
    walk_at "go"
    refine g_isi (.ty "bool") (.base (.int i)) (kit_ty (r := false) (by decide +kernel)) ?_
    walk_at "go"
    exact q

abbrev s_is_range : Stmt := top 13
theorem sc_is_range : FnScope ["least", "most", "limit"] ["least", "most", "limit"] (C8.fnScope s_is_range) := C8.fnScope_by (by decide +kernel)
def sp_is_range : Sp := fun vs H Q _ => ∃ i j k : Int, vs = [.int i, .int j, .int k] ∧ (0 ≤ i ∧ i ≤ j ∧ j ≤ k) ∧ Q (.bl true) H
theorem ok_is_range (T : Txt K mg) {f : Addr} {fd : FuncData} (D : C8.Def K mg "is_range" s_is_range f fd) (b : Binds K fd ["least", "most", "limit"] []) (g_is_number : C8.Cal P w K mg base 1 "is_number" sp_is_number []) : C8.Cal P w K mg base 2 "is_range" sp_is_range [] := by
  refine C8.cal0 D b .nil sc_is_range (fun vs H Q E h => ?_) fun cdv A outer s H vs Q E hr h => ?_
  · obtain ⟨i, j, k, rfl, _⟩ := h; rfl
  · obtain ⟨i, j, k, rfl, ⟨h1, h2, h3⟩, q⟩ := h
    have nd := sc_is_range.nd
    refine ⟨_, (pss_one (ps_ret (pe_and (C8.pe_c g_is_number hr (by first | decide | exact Nat.le_refl _ | omega) (by rfl) (pa_cons (pv 0) pa_nil)) (pe_and (C8.pe_c g_is_number hr (by first | decide | exact Nat.le_refl _ | omega) (by rfl) (pa_cons (pv 1) pa_nil)) (pe_one (pe_chain3 op_le op_le op_le pe_int (pv 0) (pv 1) (pv 2))))))), ?_⟩
    walk_at "go"
    refine ⟨i, rfl, ?_⟩
    walk_at "go"
    refine ⟨j, rfl, ?_⟩
    walk_at "go"
    refine g_ite (fun _ => ?_) (fun h => absurd h1 h)
    walk_at "go"
    refine g_ite (fun _ => ?_) (fun h => absurd h2 h)
    walk_at "go"
    rw [decide_eq_true h3]
    exact q

end
end K10R
namespace K10R
open PySem PySem.Spec PyProof.Rows L2 Wd K10
/-- the program's names and constants; the refusal NoPats at CN -/
structure TxtW (K : PySem.W.Frag) (mg : Str → Option Value) (CN : Addr) : Prop extends Txt K mg where
  n_max : mg "max" = none
  n_min : mg "min" = none
  n_sorted : mg "sorted" = none
  n_set : mg "set" = none
  n_enumerate : mg "enumerate" = none
  c_GREATEST_HIGH : ∃ t, mg "GREATEST_HIGH" = some (.int 1000 t)
  c_MOST_WORKS : ∃ t, mg "MOST_WORKS" = some (.int 10 t)
  c_LONGEST_WORK : ∃ t, mg "LONGEST_WORK" = some (.int 1000 t)
  g_NoPats : mg "NoPats" = some (.ref CN)
  x_NoPats : PySem.W.excIn K CN [.type "ValueError", .type "Exception", .type "BaseException", .type "object"] "ValueError.__new__" = true
  k_NoPats : PySem.W.keepIn K (.ref CN) = true
  b_NoPats : PySem.W.subIn K (.ref CN) (.type "BaseException") = some true
  t_NoPats : PySem.W.typeIn K (.ref CN) = some (.type "type")
structure TxtR (K : PySem.W.Frag) (CR : Addr) : Prop where
  c : Cls K CR
  nL : NoAttr K CR "low"
  nH : NoAttr K CR "high"
  nW : NoAttr K CR "works"
/-- works in a list -/
abbrev Wk := Addr × Int × Int
structure WkL (H : Hp) (L : Addr) (zs : List Wk) : Prop where
  at_ : H L = some (.lst (zs.map fun z => V.ref z.1))
  own : ∀ z ∈ zs, H z.1 = some (.tup [.int z.2.1, .int z.2.2])
theorem WkL.same {H H' : Hp} {L : Addr} {zs : List Wk} (w : WkL H L zs) (e : Same H H') : WkL H' L zs := ⟨e _ _ w.at_, fun z hz => e _ _ (w.own z hz)⟩
def okZ (zs : List Wk) : Prop := ∀ z ∈ zs, 0 ≤ z.2.1 ∧ z.2.1 ≤ z.2.2 ∧ z.2.2 ≤ 1000
def okW (lo hi : Int) : Prop := 0 ≤ lo ∧ lo ≤ hi ∧ hi ≤ 1000
theorem zs_at {zs : List Wk} {i : Nat} {x : V} (h : (zs.map fun z => V.ref z.1)[i]? = some x) : ∃ z, zs[i]? = some z ∧ x = .ref z.1 := by
  rw [List.getElem?_map] at h
  cases hq : zs[i]? with
  | none => rw [hq] at h; cases h
  | some z => rw [hq] at h; exact ⟨z, rfl, (Option.some.inj h).symm⟩
/-! ### the mirror of a ring -/
def sumA (xs : List (Int × Int)) : Int := (xs.map (·.1)).sum
def sumB (xs : List (Int × Int)) : Int := (xs.map (·.2)).sum
def tim (lo hi : Int) (xs : List (Int × Int)) : Bool := decide (lo ≤ sumA xs ∧ sumB xs ≤ hi)
/-- from behind b up to p, around if need be -/
def gapL {α : Type} (l : List α) (b p : Nat) : List α := if b < p then (l.drop (b + 1)).take (p - b) else l.drop (b + 1) ++ l.take (p + 1)
def fit (lo hi : Int) (ws : List (Int × Int)) (p b : Nat) : Bool := tim lo hi (gapL ws b p)
/-- numbers from s on -/
def ups (s : Nat) : Nat → List Nat
  | 0 => []
  | n + 1 => ups s n ++ [s + n]
theorem ups_mem {s : Nat} : ∀ {n x : Nat}, x ∈ ups s n ↔ s ≤ x ∧ x < s + n
  | 0, x => by constructor; (intro h; cases h); (intro h; omega)
  | n + 1, x => by
    show x ∈ ups s n ++ [s + n] ↔ _
    rw [List.mem_append, List.mem_singleton, ups_mem]
    omega
theorem ups_len (s : Nat) : ∀ n, (ups s n).length = n
  | 0 => rfl
  | n + 1 => by show (ups s n ++ [s + n]).length = _; rw [List.length_append, ups_len s n]; rfl
theorem ups_pw (s : Nat) : ∀ n, (ups s n).Pairwise (· < ·)
  | 0 => List.Pairwise.nil
  | n + 1 => List.pairwise_append.mpr ⟨ups_pw s n, List.pairwise_singleton _ _, fun a ha b hb => by
    rw [List.mem_singleton] at hb; have := (ups_mem.mp ha).2; omega⟩
def firsts (lo hi : Int) (ws : List (Int × Int)) : List Nat := (ups 0 ws.length).filter fun p => tim lo hi (ws.take (p + 1))
def nexts (lo hi : Int) (ws : List (Int × Int)) (b : Nat) : List Nat := (ups (b + 1) (ws.length - (b + 1))).filter fun p => fit lo hi ws p b
abbrev nI (n : Nat) : V := .int n
theorem nI_at {ns : List Nat} {i : Nat} {x : V} (h : (ns.map nI)[i]? = some x) : ∃ n, ns[i]? = some n ∧ x = nI n := by
  rw [List.getElem?_map] at h
  cases hq : ns[i]? with
  | none => rw [hq] at h; cases h
  | some z => rw [hq] at h; exact ⟨z, rfl, (Option.some.inj h).symm⟩
/-- a cut between two places in bounds -/
theorem cut_two {α : Type} (l : List α) (f : α → V) {a b : Nat} (ha : a ≤ l.length) (hb : b ≤ l.length) : cutV (l.map f) (some (a : Int)) (some (b : Int)) = ((l.drop a).take (b - a)).map f := by
  unfold cutV
  rw [HT.sIx_nat, HT.sIx_nat, List.length_map, Nat.min_eq_left ha, Nat.min_eq_left hb, List.map_take, List.map_drop]
theorem cut_from {α : Type} (l : List α) (f : α → V) {a : Nat} (ha : a ≤ l.length) : cutV (l.map f) (some (a : Int)) none = (l.drop a).map f := by
  unfold cutV
  rw [HT.sIx_nat, HT.sIx_none, List.length_map, Nat.min_eq_left ha, ← List.map_drop, List.take_of_length_le (by rw [List.length_map, List.length_drop]; exact Nat.le_refl _)]
theorem cut_to {α : Type} (l : List α) (f : α → V) {b : Nat} (hb : b ≤ l.length) : cutV (l.map f) none (some (b : Int)) = (l.take b).map f := by
  unfold cutV
  rw [HT.sIx_nat, HT.sIx_none, List.length_map, Nat.min_eq_left hb, List.drop_zero, Nat.sub_zero, List.map_take]
section
variable {P : Program} {w : World} {K : PySem.W.Frag} {mg : Str → Option Value} {base : Heap} {CN CR : Addr}
abbrev s_check_window : Stmt := top 27
theorem sc_check_window : FnScope ["window", "low", "high"] ["window"] (C8.fnScope s_check_window) := C8.fnScope_by (by decide +kernel)
def sp_check_window (K : PySem.W.Frag) : Sp := fun vs H Q _ => ∃ (W : Addr) (lo hi : Int), vs = [.ref W] ∧ SqT K H W [.int lo, .int hi] ∧ okW lo hi ∧ Q .non H
theorem ok_check_window (T : TxtW K mg CN) {f : Addr} {fd : FuncData} (D : C8.Def K mg "check_window" s_check_window f fd) (b : Binds K fd ["window"] []) (g_is_range : C8.Cal P w K mg base 2 "is_range" sp_is_range []) : C8.Cal P w K mg base 3 "check_window" (sp_check_window K) [] := by
  refine C8.cal0 D b .nil sc_check_window (fun vs H Q E h => ?_) fun cdv A outer s H vs Q E hr h => ?_
  · obtain ⟨W, lo, hi, rfl, _⟩ := h; rfl
  · obtain ⟨W, lo, hi, rfl, hW, ok, q⟩ := h
    have nd := sc_check_window.nd
    obtain ⟨tg, c_GREATEST_HIGH⟩ := T.c_GREATEST_HIGH
    refine ⟨_, (pss_cons (ps_asg (pv 0) (pg_tup rfl (pgs_cons (pg_name (i := 1) nd rfl (Or.inl rfl)) (pgs_cons (pg_name (i := 2) nd rfl (Or.inl rfl)) pgs_nil))))
      (pss_one (ps_if (pt_not (pt_val (C8.pe_c g_is_range hr (by first | decide | exact Nat.le_refl _ | omega) (by rfl) (pa_cons (pv 1) (pa_cons (pv 2) (pa_cons (pe_glob (v := .int 1000) rfl c_GREATEST_HIGH ⟨_, rfl⟩) pa_nil)))))) (pss_one ps_never) pss_nil))), ?_⟩
    walk_at "go"
    refine g_gtup hW rfl ?_
    walk_at "go"
    refine ⟨lo, hi, 1000, rfl, ok, ?_⟩
    walk_at "go"
    exact q

abbrev s_check_works : Stmt := top 31
theorem sc_check_works : FnScope ["works", "least", "most"] ["works"] (C8.fnScope s_check_works) := C8.fnScope_by (by decide +kernel)
def sp_check_works : Sp := fun vs H Q _ => ∃ (L : Addr) (zs : List Wk), vs = [.ref L] ∧ WkL H L zs ∧ okZ zs ∧ zs ≠ [] ∧ zs.length ≤ 10 ∧ Q .non H
theorem ok_check_works (T : TxtW K mg CN) {f : Addr} {fd : FuncData} (D : C8.Def K mg "check_works" s_check_works f fd) (b : Binds K fd ["works"] []) (g_is_range : C8.Cal P w K mg base 2 "is_range" sp_is_range []) : C8.Cal P w K mg base 3 "check_works" sp_check_works [] := by
  refine C8.cal0 D b .nil sc_check_works (fun vs H Q E h => ?_) fun cdv A outer s H vs Q E hr h => ?_
  · obtain ⟨L, zs, rfl, _⟩ := h; rfl
  · obtain ⟨L, zs, rfl, wk, ok, ne, ln, q⟩ := h
    have nd := sc_check_works.nd
    have lp : 0 < zs.length := List.length_pos_iff.mpr ne
    obtain ⟨t1, c_MOST_WORKS⟩ := T.c_MOST_WORKS
    obtain ⟨t2, c_LONGEST_WORK⟩ := T.c_LONGEST_WORK
    refine ⟨_, (pss_cons (ps_if (pt_not (pt_chain op_le op_le pe_int (pe_callB (r := Wd.rLen K) call_len1 (by rfl) T.n_len PySem.boot_len (pa_cons (pv 0) pa_nil)) (pe_glob (v := .int 10) rfl c_MOST_WORKS ⟨_, rfl⟩))) (pss_one ps_never) pss_nil)
      (pss_one (ps_for PassesOwn.never rfl (pi_list (pv 0)) (pg_tup rfl (pgs_cons (pg_name (i := 1) nd rfl (Or.inl rfl)) (pgs_cons (pg_name (i := 2) nd rfl (Or.inl rfl)) pgs_nil))) (pss_one (ps_if (pt_not (pt_val (C8.pe_c g_is_range hr (by first | decide | exact Nat.le_refl _ | omega) (by rfl) (pa_cons (pv 1) (pa_cons (pv 2) (pa_cons (pe_glob (v := .int 1000) rfl c_LONGEST_WORK ⟨_, rfl⟩) pa_nil)))))) (pss_one ps_never) pss_nil))))), ?_⟩
    walk_at "go"
    refine g_len (.inl (SqL.of wk.at_)) ?_
    walk_at "go"
    rw [List.length_map]
    refine g_ite (fun _ => ?_) (fun h => absurd (show (1 : Int) ≤ (zs.length : Int) by omega) h)
    walk_at "go"
    refine g_iteN (fun h => absurd (show (zs.length : Int) ≤ 10 by omega) h) (fun _ => ?_)
    walk_at "go"
    refine w_list (xs := zs.map fun z => V.ref z.1) (fun i σ H' => H' = H ∧ ∃ (v1 v2 : Option V), σ = [some (.ref L), v1, v2]) ?_ ?_ ?_ ?_
    · exact ⟨rfl, _, _, rfl⟩
    · rintro i σ H' _ ⟨rfl, _⟩; exact SqL.of wk.at_
    · rintro i x σ H' hx ⟨rfl, v1, v2, rfl⟩
      obtain ⟨z, hz, rfl⟩ := zs_at hx
      have zm := List.mem_of_getElem? hz
      walk_at "go"
      refine g_gtup (SqT.of (wk.own z zm)) rfl ?_
      walk_at "go"
      refine ⟨z.2.1, z.2.2, 1000, rfl, ok z zm, ?_⟩
      walk_at "go"
      exact ⟨rfl, _, _, rfl⟩
    · rintro σ H' ⟨rfl, v1, v2, rfl⟩
      walk_at "go"
      exact q

/-! ### a ring -/
abbrev ringF (lo hi : Int) (L : Addr) : List (Str × V) := [("low", .int lo), ("high", .int hi), ("works", .ref L)]
theorem lk_l {lo hi : Int} {L : Addr} : (ringF lo hi L).lookup ("low" : Str) = some (.int lo) := rfl
theorem lk_h {lo hi : Int} {L : Addr} : (ringF lo hi L).lookup ("high" : Str) = some (.int hi) := rfl
theorem lk_w {lo hi : Int} {L : Addr} : (ringF lo hi L).lookup ("works" : Str) = some (.ref L) := rfl
abbrev s_Ring_init : Stmt := (C8.clsBody (top 34)).getD 0 (.Pass ⟨0, 0, 0, 0⟩)
abbrev s_Ring_is_timely : Stmt := (C8.clsBody (top 34)).getD 1 (.Pass ⟨0, 0, 0, 0⟩)
abbrev s_Ring_fits : Stmt := (C8.clsBody (top 34)).getD 2 (.Pass ⟨0, 0, 0, 0⟩)
abbrev s_Ring_first_places : Stmt := (C8.clsBody (top 34)).getD 3 (.Pass ⟨0, 0, 0, 0⟩)
abbrev s_Ring_next_places : Stmt := (C8.clsBody (top 34)).getD 4 (.Pass ⟨0, 0, 0, 0⟩)
abbrev s_Ring_next_level : Stmt := (C8.clsBody (top 34)).getD 5 (.Pass ⟨0, 0, 0, 0⟩)
abbrev s_Ring_levels_of : Stmt := (C8.clsBody (top 34)).getD 6 (.Pass ⟨0, 0, 0, 0⟩)
abbrev s_Ring_comes_back : Stmt := (C8.clsBody (top 34)).getD 7 (.Pass ⟨0, 0, 0, 0⟩)
theorem sc_Ring_init : FnScope ["self", "window", "works"] ["self", "window", "works"] (C8.fnScope s_Ring_init) := C8.fnScope_by (by decide +kernel)
def sp_init (K : PySem.W.Frag) (CR : Addr) : Sp := fun vs H Q _ => ∃ (R dx W L : Addr) (lo hi : Int) (zs : List Wk), vs = [.ref R, .ref W, .ref L] ∧ H R = some (.ins CR dx []) ∧ SqT K H W [.int lo, .int hi] ∧ okW lo hi ∧ WkL H L zs ∧ okZ zs ∧ zs ≠ [] ∧ zs.length ≤ 10 ∧
  ∀ H', Frm R H H' → H' R = some (.ins CR dx (ringF lo hi L)) → Q .non H'
theorem ok_init (T : TxtW K mg CN) (TR : TxtR K CR) {f : Addr} {fd : FuncData} (M : Mk K CR f) (hm : mg "Ring" = some (.ref CR)) (F : C8.Fun K "__init__" "Ring.__init__" s_Ring_init f fd) (b : Binds K fd ["self", "window", "works"] [])
    (g_check_window : C8.Cal P w K mg base 3 "check_window" (sp_check_window K) []) (g_check_works : C8.Cal P w K mg base 3 "check_works" sp_check_works []) : C8.Mak P w K mg base 4 "Ring" CR (sp_init K CR) [] := by
  refine C8.mak0 M hm F b .nil sc_Ring_init (fun vs H Q E h => ?_) fun cdv A outer s H vs Q E hr h => ?_
  · obtain ⟨R, dx, W, L, lo, hi, zs, rfl, _⟩ := h; rfl
  · obtain ⟨R, dx, W, L, lo, hi, zs, rfl, hR, hW, okw, wk, okz, ne, ln, q⟩ := h
    have nd := sc_Ring_init.nd
    refine ⟨_, (pss_cons (ps_expr (C8.pe_c g_check_window hr (by first | decide | exact Nat.le_refl _ | omega) (by rfl) (pa_cons (pv 1) pa_nil)))
      (pss_cons (ps_expr (C8.pe_c g_check_works hr (by first | decide | exact Nat.le_refl _ | omega) (by rfl) (pa_cons (pv 2) pa_nil)))
      (pss_cons (ps_asg (pv 1) (pg_tup rfl (pgs_cons (pg_att (pv 0)) (pgs_cons (pg_att (pv 0)) pgs_nil))))
      (pss_one (ps_fld (pv 0) (pv 2) rfl))))), ?_⟩
    walk_at "go"
    refine ⟨W, lo, hi, rfl, hW, okw, ?_⟩
    walk_at "go"
    refine ⟨L, zs, rfl, wk, okz, ne, ln, ?_⟩
    walk_at "go"
    refine g_gtup hW rfl ?_
    walk_at "go"
    refine ⟨_, rfl, R, CR, dx, _, rfl, hR, TR.c, TR.nL, by decide, ?_⟩
    walk_at "go"
    refine ⟨_, rfl, R, CR, dx, _, rfl, upd_same, TR.c, TR.nH, by show 1 < 1000; decide, ?_⟩
    walk_at "go"
    refine ⟨_, rfl, _, rfl, R, CR, dx, _, rfl, upd_same, TR.c, TR.nW, by show 2 < 1000; decide, ?_⟩
    walk_at "go"
    exact q _ ((Frm.set.trans .set).trans .set) upd_same

theorem sc_Ring_is_timely : FnScope ["self", "works", "least", "work", "most"] ["self", "works"] (C8.fnScope s_Ring_is_timely) := C8.fnScope_by (by decide +kernel)
def sp_timely (K : PySem.W.Frag) (CR : Addr) : Sp := fun vs H Q _ => ∃ (R dx L L2 : Addr) (lo hi : Int) (zs : List Wk), vs = [.ref R, .ref L2] ∧ H R = some (.ins CR dx (ringF lo hi L)) ∧ WkL H L2 zs ∧ zs.length ≤ 1000 ∧ ∀ H', Same H H' → Q (.bl (tim lo hi (zs.map (·.2)))) H'
theorem map_at2 {α : Type} {l : List α} {f : α → V} {i : Nat} {x : V} (h : (l.map f)[i]? = some x) : ∃ z, l[i]? = some z ∧ x = f z := by
  rw [List.getElem?_map] at h
  cases hq : l[i]? with
  | none => rw [hq] at h; cases h
  | some z => rw [hq] at h; exact ⟨z, rfl, (Option.some.inj h).symm⟩
theorem take_snocM {α β : Type} {l : List α} {i : Nat} {x : α} (f : α → β) (h : l[i]? = some x) : (l.take (i + 1)).map f = (l.take i).map f ++ [f x] := by
  rw [List.take_add_one, h, List.map_append]; rfl
theorem ok_timely (T : TxtW K mg CN) (TR : TxtR K CR) {f : Addr} {fd : FuncData} (me : Meth K CR "is_timely" f) (F : C8.Fun K "is_timely" "Ring.is_timely" s_Ring_is_timely f fd) (b : Binds K fd ["self", "works"] []) : C8.Met P w K mg base 1 CR "is_timely" (sp_timely K CR) [] := by
  refine C8.met0 TR.c me F b sc_Ring_is_timely (fun vs H Q E h => ?_) fun cdv A outer s H vs Q E hr h => ?_
  · obtain ⟨R, dx, L, L2, lo, hi, zs, rfl, _⟩ := h; rfl
  · obtain ⟨R, dx, L, L2, lo, hi, zs, rfl, hR, wk, ln, q⟩ := h
    have nd := sc_Ring_is_timely.nd
    refine ⟨_, (pss_cons (ps_set (i := 2) nd rfl (Or.inl rfl) (pe_callB (r := rSum K) (cr_sum rfl) (by rfl) T.n_sum (by decide +kernel) (pa_cons (pe_lc (own := [("work", 3)]) (g := gName 3) (tt := tYes) rfl nd (pi_list (pv 1)) (blkOk_by (N := ["self", "works", "least", "work", "most"]) (sc := C8.fnScope s_Ring_is_timely) (by decide +kernel)) (fun _ _ _ _ _ => pg_name (i := 3) nd rfl (Or.inl rfl)) (fun _ _ _ _ _ => pts_nil) (fun _ _ _ _ _ => (pe_ix (r := rIxT K) ix_tup (pv 3) pe_int (fun _ _ => rfl)))) pa_nil)))
      (pss_cons (ps_set (i := 4) nd rfl (Or.inl rfl) (pe_callB (r := rSum K) (cr_sum rfl) (by rfl) T.n_sum (by decide +kernel) (pa_cons (pe_lc (own := [("work", 3)]) (g := gName 3) (tt := tYes) rfl nd (pi_list (pv 1)) (blkOk_by (N := ["self", "works", "least", "work", "most"]) (sc := C8.fnScope s_Ring_is_timely) (by decide +kernel)) (fun _ _ _ _ _ => pg_name (i := 3) nd rfl (Or.inl rfl)) (fun _ _ _ _ _ => pts_nil) (fun _ _ _ _ _ => (pe_ix (r := rIxT K) ix_tup (pv 3) pe_int (fun _ _ => rfl)))) pa_nil)))
      (pss_one (ps_ret (pe_and (pe_cmpR op_le (pe_fld (pv 0) rfl) (pv 2) (nomark _)) (pe_one (pe_cmpR op_le (pv 4) (pe_fld (pv 0) rfl) (nomark _)))))))), ?_⟩
    walk_at "go"
    refine w_lcList (SqL.of wk.at_) (fun D i H' => Same H H' ∧ H' D = some (.lst (((zs.take i).map fun z => z.2.1).map V.int))) (fun D hD => ⟨same_new hD, upd_same⟩) (fun D i H' hD _ h => SqL.of (h.1 _ _ wk.at_)) (fun D i y H' hD hy h => ?_) (fun D1 H1 hD1 h => ?_)
    · obtain ⟨z, hz, rfl⟩ := zs_at hy
      have il := (List.getElem?_eq_some_iff.mp hz).1
      walk_at "go"
      refine ⟨rfl, ?_⟩
      walk_at "go"
      refine g_ixT (SqT.of (h.1 _ _ (wk.own z (List.mem_of_getElem? hz)))) rfl ?_
      exact ⟨_, h.2, by rw [sizeLine_eq, List.length_map, List.length_map]; have := List.length_take_le i zs; omega, Wd.Same.mut h.1 hD, by rw [upd_same, take_snocM _ hz, List.map_append]; rfl⟩
    obtain ⟨s1, e1⟩ := h
    rw [List.length_map, List.take_length] at e1
    walk_at "go"
    refine g_sum (SqL.of e1) ?_
    walk_at "go"
    have wk1 := wk.same s1
    refine w_lcList (SqL.of wk1.at_) (fun D i H' => Same H1 H' ∧ H' D = some (.lst (((zs.take i).map fun z => z.2.2).map V.int))) (fun D hD => ⟨same_new hD, upd_same⟩) (fun D i H' hD _ h => SqL.of (h.1 _ _ wk1.at_)) (fun D i y H' hD hy h => ?_) (fun D2 H2 hD2 h => ?_)
    · obtain ⟨z, hz, rfl⟩ := zs_at hy
      have il := (List.getElem?_eq_some_iff.mp hz).1
      walk_at "go"
      refine ⟨rfl, ?_⟩
      walk_at "go"
      refine g_ixT (SqT.of (h.1 _ _ (wk1.own z (List.mem_of_getElem? hz)))) rfl ?_
      exact ⟨_, h.2, by rw [sizeLine_eq, List.length_map, List.length_map]; have := List.length_take_le i zs; omega, Wd.Same.mut h.1 hD, by rw [upd_same, take_snocM _ hz, List.map_append]; rfl⟩
    obtain ⟨s2, e2⟩ := h
    rw [List.length_map, List.take_length] at e2
    walk_at "go"
    refine g_sum (SqL.of e2) ?_
    have s12 := s1.trans s2
    have hR2 := s12 _ _ hR
    have ea : (zs.map fun z => z.2.1).sum = sumA (zs.map (·.2)) := by unfold sumA; rw [List.map_map]; rfl
    have eb : (zs.map fun z => z.2.2).sum = sumB (zs.map (·.2)) := by unfold sumB; rw [List.map_map]; rfl
    rw [ea, eb]
    unfold tim at q
    walk_at "go"
    refine ⟨_, rfl, R, CR, dx, _, _, rfl, hR2, TR.c, TR.nL, lk_l, ?_⟩
    walk_at "go"
    generalize sumA (zs.map (·.2)) = a at q ⊢
    generalize sumB (zs.map (·.2)) = c at q ⊢
    refine g_ite (fun h1 => ?_) (fun h1 => ?_)
    · walk_at "go"
      refine ⟨_, rfl, R, CR, dx, _, _, rfl, hR2, TR.c, TR.nH, lk_h, ?_⟩
      walk_at "go"
      have e : decide (lo ≤ a ∧ c ≤ hi) = decide (c ≤ hi) := by
        by_cases h2 : c ≤ hi
        · rw [decide_eq_true h2, decide_eq_true ⟨h1, h2⟩]
        · rw [decide_eq_false h2, decide_eq_false (fun z => h2 z.2)]
      rw [← e]
      exact q _ s12
    · rw [decide_eq_false (fun z => h1 z.1)] at q
      walk_at "go"
      exact q _ s12
end
end K10R
namespace K10R
open PySem PySem.Spec PyProof.Rows L2 Wd K10
section
variable {P : Program} {w : World} {K : PySem.W.Frag} {mg : Str → Option Value} {base : Heap} {CN CR : Addr}
theorem gapL_map {α β : Type} (f : α → β) (l : List α) (b p : Nat) : (gapL l b p).map f = gapL (l.map f) b p := by
  unfold gapL
  split
  · rw [List.map_take, List.map_drop]
  · rw [List.map_append, List.map_drop, List.map_take]
theorem gapL_len {α : Type} (l : List α) (b p : Nat) : (gapL l b p).length ≤ 2 * l.length := by
  unfold gapL
  split
  · rw [List.length_take, List.length_drop]; omega
  · rw [List.length_append, List.length_drop, List.length_take]; omega
theorem gapL_mem {α : Type} {l : List α} {b p : Nat} {x : α} (h : x ∈ gapL l b p) : x ∈ l := by
  unfold gapL at h
  split at h
  · exact List.mem_of_mem_drop (List.mem_of_mem_take h)
  · rw [List.mem_append] at h
    exact h.elim List.mem_of_mem_drop List.mem_of_mem_take
theorem use_timely {R dx L L2 : Addr} {lo hi : Int} {zs : List Wk} {H : Hp} {Q : VK} {E : XK} {vs : List V} (hv : vs = [.ref R, .ref L2]) (hR : H R = some (.ins CR dx (ringF lo hi L))) (wk : WkL H L2 zs) (ln : zs.length ≤ 1000) (k : ∀ H', Same H H' → Q (.bl (tim lo hi (zs.map (·.2)))) H') : sp_timely K CR vs H Q E :=
  ⟨R, dx, L, L2, lo, hi, zs, hv, hR, wk, ln, k⟩
theorem sc_Ring_fits : FnScope ["self", "place", "behind"] ["self", "place", "behind"] (C8.fnScope s_Ring_fits) := C8.fnScope_by (by decide +kernel)
def sp_fits (K : PySem.W.Frag) (CR : Addr) : Sp := fun vs H Q _ => ∃ (R dx L : Addr) (lo hi : Int) (zs : List Wk) (p b : Nat), vs = [.ref R, .int p, .int b] ∧ H R = some (.ins CR dx (ringF lo hi L)) ∧ WkL H L zs ∧ zs.length ≤ 10 ∧ p < zs.length ∧ b < zs.length ∧ ∀ H', Same H H' → Q (.bl (fit lo hi (zs.map (·.2)) p b)) H'
theorem ok_fits (T : TxtW K mg CN) (TR : TxtR K CR) {f : Addr} {fd : FuncData} (me : Meth K CR "fits" f) (F : C8.Fun K "fits" "Ring.fits" s_Ring_fits f fd) (b : Binds K fd ["self", "place", "behind"] []) (m_is_timely : C8.Met P w K mg base 1 CR "is_timely" (sp_timely K CR) []) : C8.Met P w K mg base 2 CR "fits" (sp_fits K CR) [] := by
  refine C8.met0 TR.c me F b sc_Ring_fits (fun vs H Q E h => ?_) fun cdv A outer s H vs Q E hr h => ?_
  · obtain ⟨R, dx, L, lo, hi, zs, p, b, rfl, _⟩ := h; rfl
  · obtain ⟨R, dx, L, lo, hi, zs, p, b, rfl, hR, wk, ln, hp, hb, q⟩ := h
    have nd := sc_Ring_fits.nd
    have lg := gapL_len zs b p
    refine ⟨_, (pss_cons (ps_if (pt_cmpR op_gt (pv 1) (pv 2) (nomark _)) (pss_one (ps_ret (C8.pe_mt m_is_timely hr (by first | decide | exact Nat.le_refl _ | omega) (pv 0) (pa_cons (pe_slice (r := rSlL K) sl_list (pe_fld (pv 0) rfl) (po_some (pe_op op_add (pv 2) pe_int)) (po_some (pe_op op_add (pv 1) pe_int))) pa_nil)))) pss_nil)
      (pss_one (ps_ret (C8.pe_mt m_is_timely hr (by first | decide | exact Nat.le_refl _ | omega) (pv 0) (pa_cons (pe_op op_cat (pe_slice (r := rSlL K) sl_list (pe_fld (pv 0) rfl) (po_some (pe_op op_add (pv 2) pe_int)) po_none) (pe_slice (r := rSlL K) sl_list (pe_fld (pv 0) rfl) po_none (po_some (pe_op op_add (pv 1) pe_int)))) pa_nil))))), ?_⟩
    have e1 : (b : Int) + 1 = ((b + 1 : Nat) : Int) := by omega
    have e2 : (p : Int) + 1 = ((p + 1 : Nat) : Int) := by omega
    walk_at "go"
    refine g_ite (fun hg => ?_) (fun hg => ?_)
    · have gg : gapL zs b p = (zs.drop (b + 1)).take (p + 1 - (b + 1)) := by unfold gapL; rw [if_pos (by omega)]; congr 1; omega
      walk_at "go"
      refine ⟨_, rfl, R, dx, _, rfl, hR, rfl, ?_⟩
      walk_at "go"
      refine ⟨_, rfl, R, CR, dx, _, _, rfl, hR, TR.c, TR.nW, lk_w, ?_⟩
      walk_at "go"
      rw [e1, e2]
      refine g_slL (SqL.of wk.at_) fun L2 hL2 => ?_
      rw [cut_two zs _ (by omega) (by omega), ← gg]
      have s1 := same_new (o := .lst ((gapL zs b p).map fun z => V.ref z.1)) hL2
      walk_at "go"
      refine use_timely rfl (s1 _ _ hR) ⟨upd_same, fun z hz => s1 _ _ (wk.own z (gapL_mem hz))⟩ (by omega) fun H' s' => ?_
      rw [gapL_map]
      exact q H' (s1.trans s')
    · have gg : gapL zs b p = zs.drop (b + 1) ++ zs.take (p + 1) := by unfold gapL; rw [if_neg (by omega)]
      walk_at "go"
      refine ⟨_, rfl, R, dx, _, rfl, hR, rfl, ?_⟩
      walk_at "go"
      refine ⟨_, rfl, R, CR, dx, _, _, rfl, hR, TR.c, TR.nW, lk_w, ?_⟩
      walk_at "go"
      rw [e1]
      refine g_slL (SqL.of wk.at_) fun L1 hL1 => ?_
      rw [cut_from zs _ (by omega)]
      have s1 := same_new (o := .lst ((zs.drop (b + 1)).map fun z => V.ref z.1)) hL1
      have i1 := upd_same (H := H) (a := L1) (o := .lst ((zs.drop (b + 1)).map fun z => V.ref z.1))
      generalize upd H L1 (.lst ((zs.drop (b + 1)).map fun z => V.ref z.1)) = H1 at s1 i1
      walk_at "go"
      refine ⟨_, rfl, R, CR, dx, _, _, rfl, s1 _ _ hR, TR.c, TR.nW, lk_w, ?_⟩
      walk_at "go"
      rw [e2]
      refine g_slL (SqL.of (s1 _ _ wk.at_)) fun L2 hL2 => ?_
      rw [cut_to zs _ (by omega)]
      have s2 := same_new (o := .lst ((zs.take (p + 1)).map fun z => V.ref z.1)) hL2
      have i2 := upd_same (H := H1) (a := L2) (o := .lst ((zs.take (p + 1)).map fun z => V.ref z.1))
      generalize upd H1 L2 (.lst ((zs.take (p + 1)).map fun z => V.ref z.1)) = H2 at s2 i2
      refine ⟨L1, L2, _, _, rfl, rfl, s2 _ _ i1, i2, by rw [sizeLine_eq, List.length_map, List.length_map, List.length_drop, List.length_take]; omega, fun L3 hL3 => ?_⟩
      rw [← List.map_append, ← gg]
      have s3 := (s1.trans s2).trans (same_new (o := .lst ((gapL zs b p).map fun z => V.ref z.1)) hL3)
      walk_at "go"
      refine use_timely rfl (s3 _ _ hR) ⟨upd_same, fun z hz => s3 _ _ (wk.own z (gapL_mem hz))⟩ (by omega) fun H' s' => ?_
      rw [gapL_map]
      exact q H' (s3.trans s')

theorem sc_Ring_first_places : FnScope ["self", "place"] ["self"] (C8.fnScope s_Ring_first_places) := C8.fnScope_by (by decide +kernel)
def sp_firsts (K : PySem.W.Frag) (CR : Addr) : Sp := fun vs H Q _ => ∃ (R dx L : Addr) (lo hi : Int) (zs : List Wk), vs = [.ref R] ∧ H R = some (.ins CR dx (ringF lo hi L)) ∧ WkL H L zs ∧ zs.length ≤ 10 ∧ ∀ H' D, Same H H' → H D = none → H' D = some (.lst ((firsts lo hi (zs.map (·.2))).map nI)) → Q (.ref D) H'
theorem filter_snoc {α : Type} (p : α → Bool) (l : List α) (x : α) : (l ++ [x]).filter p = l.filter p ++ (if p x = true then [x] else []) := by
  rw [List.filter_append]
  congr 1
  by_cases h : p x = true
  · rw [if_pos h, List.filter_cons_of_pos h, List.filter_nil]
  · rw [if_neg h, List.filter_cons_of_neg h, List.filter_nil]
theorem ok_firsts (T : TxtW K mg CN) (TR : TxtR K CR) {f : Addr} {fd : FuncData} (me : Meth K CR "first_places" f) (F : C8.Fun K "first_places" "Ring.first_places" s_Ring_first_places f fd) (b : Binds K fd ["self"] []) (m_is_timely : C8.Met P w K mg base 1 CR "is_timely" (sp_timely K CR) []) : C8.Met P w K mg base 2 CR "first_places" (sp_firsts K CR) [] := by
  refine C8.met0 TR.c me F b sc_Ring_first_places (fun vs H Q E h => ?_) fun cdv A outer s H vs Q E hr h => ?_
  · obtain ⟨R, dx, L, lo, hi, zs, rfl, _⟩ := h; rfl
  · obtain ⟨R, dx, L, lo, hi, zs, rfl, hR, wk, ln, q⟩ := h
    have nd := sc_Ring_first_places.nd
    refine ⟨_, (pss_one (ps_ret (pe_lc (own := [("place", 1)]) (g := gName 1) rfl nd (pi_range1 rfl T.n_range (pa_cons (pe_callB (r := Wd.rLen K) call_len1 (by rfl) T.n_len PySem.boot_len (pa_cons (pe_fld (pv 0) rfl) pa_nil)) pa_nil)) (blkOk_by (N := ["self", "place"]) (sc := C8.fnScope s_Ring_first_places) (by decide +kernel)) (fun _ _ _ _ _ => pg_name (i := 1) nd rfl (Or.inl rfl)) (fun _ _ _ _ _ => pts_one (pt_val (C8.pe_mt m_is_timely hr (by first | decide | exact Nat.le_refl _ | omega) (pv 0) (pa_cons (pe_slice (r := rSlL K) sl_list (pe_fldK (K := K) rfl (pv 0) rfl) po_none (po_some (pe_op op_add (pv 1) pe_int))) pa_nil)))) (fun _ _ _ _ _ => (pv 1))))), ?_⟩
    walk_at "go"
    refine ⟨_, rfl, R, CR, dx, _, _, rfl, hR, TR.c, TR.nW, lk_w, ?_⟩
    walk_at "go"
    refine g_len (.inl (SqL.of wk.at_)) ?_
    walk_at "go"
    rw [List.length_map]
    refine w_lcRange (by omega) (by omega) (fun D i H' => Same H H' ∧ H' D = some (.lst (((ups 0 i).filter fun p => tim lo hi ((zs.map (·.2)).take (p + 1))).map nI))) (fun D hD => ⟨same_new hD, upd_same⟩) (fun D i H' hD hi' h => ?_) (fun D H' hD h => ?_)
    · have il : i < zs.length := by omega
      have hR' := h.1 _ _ hR
      have wk' := wk.same h.1
      have lf := List.length_filter_le (fun p => tim lo hi ((zs.map (·.2)).take (p + 1))) (ups 0 i)
      have lu := ups_len 0 i
      have ex : (ups 0 (i + 1)).filter (fun p => tim lo hi ((zs.map (·.2)).take (p + 1))) = _ := filter_snoc (fun p => tim lo hi ((zs.map (·.2)).take (p + 1))) (ups 0 i) (0 + i)
      rw [Nat.zero_add] at ex
      have e2 : (i : Int) + 1 = ((i + 1 : Nat) : Int) := by omega
      walk_at "go"
      refine ⟨rfl, ?_⟩
      walk_at "go"
      refine ⟨_, rfl, R, dx, _, rfl, hR', rfl, ?_⟩
      walk_at "go"
      refine ⟨_, rfl, R, CR, dx, _, _, rfl, hR', TR.c, TR.nW, lk_w, ?_⟩
      walk_at "go"
      rw [e2]
      refine g_slL (SqL.of wk'.at_) fun L2 hL2 => ?_
      rw [cut_to zs _ (by omega)]
      have s2 := same_new (o := .lst ((zs.take (i + 1)).map fun z => V.ref z.1)) hL2
      walk_at "go"
      refine use_timely rfl (s2 _ _ hR') ⟨upd_same, fun z hz => s2 _ _ (wk'.own z (List.mem_of_mem_take hz))⟩ (by rw [List.length_take]; omega) fun H3 s3 => ?_
      have s03 := (h.1.trans s2).trans s3
      have eD := s3 _ _ (s2 _ _ h.2)
      rw [List.map_take]
      refine ⟨_, rfl, ?_⟩
      cases ht : tim lo hi ((zs.map (·.2)).take (i + 1)) with
      | true =>
        rw [if_pos ht] at ex
        walk_at "go"
        exact ⟨_, eD, by rw [sizeLine_eq, List.length_map]; omega, Wd.Same.mut s03 hD, by rw [upd_same, ex, List.map_append]; rfl⟩
      | false =>
        rw [ht, if_neg (by decide), List.append_nil] at ex
        walk_at "go"
        exact ⟨s03, by rw [ex]; exact eD⟩
    · have et : ((zs.length : Nat) : Int).toNat = (zs.map (·.2)).length := by rw [List.length_map]; omega
      rw [et] at h
      walk_at "go"
      exact q H' D h.1 hD h.2

theorem sc_Ring_next_places : FnScope ["self", "behind", "place"] ["self", "behind"] (C8.fnScope s_Ring_next_places) := C8.fnScope_by (by decide +kernel)
def sp_nexts (K : PySem.W.Frag) (CR : Addr) : Sp := fun vs H Q _ => ∃ (R dx L : Addr) (lo hi : Int) (zs : List Wk) (b : Nat), vs = [.ref R, .int b] ∧ H R = some (.ins CR dx (ringF lo hi L)) ∧ WkL H L zs ∧ zs.length ≤ 10 ∧ b < zs.length ∧ ∀ H' D, Same H H' → H D = none → H' D = some (.lst ((nexts lo hi (zs.map (·.2)) b).map nI)) → Q (.ref D) H'
theorem w_lcRange2 {σ : L2.St} {H : Hp} {Q : VK} {g : TG} {tt : TT} {te : TE} {vs : List Nat} {lo n : Int} (h1 : -(2 ^ 62) ≤ lo ∧ lo < 2 ^ 62 ∧ -(2 ^ 62) ≤ n ∧ n < 2 ^ 62) (Pv : Addr → Nat → Hp → Prop) (h0 : ∀ D, H D = none → Pv D 0 (upd H D (.lst [])))
    (hs : ∀ D i H', H D = none → i < (n - lo).toNat → Pv D i H' → g (.int (lo + i)) (wipe σ vs) H' fun σ2 H2 => wipe σ2 vs = wipe σ vs ∧ tt σ2 H2 fun b H3 =>
      if b = true then te σ2 H3 fun y H4 => ∃ acc, H4 D = some (.lst acc) ∧ acc.length < sizeLine ∧ Pv D (i + 1) (upd H4 D (.lst (acc ++ [y]))) else Pv D (i + 1) H3) (hd : ∀ D H', H D = none → Pv D (n - lo).toNat H' → Q (.ref D) H') :
    ∃ i j : Int, [V.int lo, .int n] = [.int i, .int j] ∧ (-(2 ^ 62) ≤ i ∧ i < 2 ^ 62 ∧ -(2 ^ 62) ≤ j ∧ j < 2 ^ 62) ∧ LcEnd g tt te vs σ Q (Itr i (j - i).toNat) H :=
  ⟨lo, n, rfl, h1, fun D hD => lc_range (Pv D) (h0 D hD) (fun i H' hi p => hs D i H' hD hi p) (fun H' p => hd D H' hD p)⟩
theorem ok_nexts (T : TxtW K mg CN) (TR : TxtR K CR) {f : Addr} {fd : FuncData} (me : Meth K CR "next_places" f) (F : C8.Fun K "next_places" "Ring.next_places" s_Ring_next_places f fd) (b : Binds K fd ["self", "behind"] []) (m_fits : C8.Met P w K mg base 2 CR "fits" (sp_fits K CR) []) : C8.Met P w K mg base 3 CR "next_places" (sp_nexts K CR) [] := by
  refine C8.met0 TR.c me F b sc_Ring_next_places (fun vs H Q E h => ?_) fun cdv A outer s H vs Q E hr h => ?_
  · obtain ⟨R, dx, L, lo, hi, zs, b, rfl, _⟩ := h; rfl
  · obtain ⟨R, dx, L, lo, hi, zs, b, rfl, hR, wk, ln, hb, q⟩ := h
    have nd := sc_Ring_next_places.nd
    refine ⟨_, (pss_one (ps_ret (pe_lc (own := [("place", 2)]) (g := gName 2) rfl nd (pi_range2 rfl T.n_range (pa_cons (pe_op op_add (pv 1) pe_int) (pa_cons (pe_callB (r := Wd.rLen K) call_len1 (by rfl) T.n_len PySem.boot_len (pa_cons (pe_fld (pv 0) rfl) pa_nil)) pa_nil))) (blkOk_by (N := ["self", "behind", "place"]) (sc := C8.fnScope s_Ring_next_places) (by decide +kernel)) (fun _ _ _ _ _ => pg_name (i := 2) nd rfl (Or.inl rfl)) (fun _ _ _ _ _ => pts_one (pt_val (C8.pe_mt m_fits hr (by first | decide | exact Nat.le_refl _ | omega) (pv 0) (pa_cons (pv 2) (pa_cons (pv 1) pa_nil))))) (fun _ _ _ _ _ => (pv 2))))), ?_⟩
    walk_at "go"
    refine ⟨_, rfl, R, CR, dx, _, _, rfl, hR, TR.c, TR.nW, lk_w, ?_⟩
    walk_at "go"
    refine g_len (.inl (SqL.of wk.at_)) ?_
    walk_at "go"
    rw [List.length_map]
    refine w_lcRange2 (by omega) (fun D i H' => Same H H' ∧ H' D = some (.lst (((ups (b + 1) i).filter fun p => fit lo hi (zs.map (·.2)) p b).map nI))) (fun D hD => ⟨same_new hD, upd_same⟩) (fun D i H' hD hi' h => ?_) (fun D H' hD h => ?_)
    · have il : b + 1 + i < zs.length := by omega
      have hR' := h.1 _ _ hR
      have wk' := wk.same h.1
      have lf := List.length_filter_le (fun p => fit lo hi (zs.map (·.2)) p b) (ups (b + 1) i)
      have lu := ups_len (b + 1) i
      have ex : (ups (b + 1) (i + 1)).filter (fun p => fit lo hi (zs.map (·.2)) p b) = _ := filter_snoc (fun p => fit lo hi (zs.map (·.2)) p b) (ups (b + 1) i) (b + 1 + i)
      have e2 : (b : Int) + 1 + (i : Int) = ((b + 1 + i : Nat) : Int) := by omega
      rw [e2]
      walk_at "go"
      refine ⟨rfl, ?_⟩
      walk_at "go"
      refine ⟨_, rfl, R, dx, _, rfl, hR', rfl, ?_⟩
      walk_at "go"
      refine ⟨R, dx, L, lo, hi, zs, b + 1 + i, b, rfl, hR', wk', ln, il, hb, fun H3 s3 => ?_⟩
      have s03 := h.1.trans s3
      have eD := s3 _ _ h.2
      refine ⟨_, rfl, ?_⟩
      cases ht : fit lo hi (zs.map (·.2)) (b + 1 + i) b with
      | true =>
        rw [if_pos ht] at ex
        walk_at "go"
        exact ⟨_, eD, by rw [sizeLine_eq, List.length_map]; omega, Wd.Same.mut s03 hD, by rw [upd_same, ex, List.map_append]; rfl⟩
      | false =>
        rw [ht, if_neg (by decide), List.append_nil] at ex
        walk_at "go"
        exact ⟨s03, by rw [ex]; exact eD⟩
    · have et : (((zs.length : Nat) : Int) - ((b : Int) + 1)).toNat = (zs.map (·.2)).length - (b + 1) := by rw [List.length_map]; omega
      rw [et] at h
      walk_at "go"
      exact q H' D h.1 hD h.2
end
end K10R
namespace K10R
open PySem PySem.Spec PyProof.Rows L2 Wd K10
/-! ### two fors in a set comprehension, over lists -/
theorem inS_list {w : World} {K : PySem.W.Frag} {g1 : TG} {tt1 : TT} {te : TE} {vs1 : List Nat} {σ2 : L2.St} {D r : Addr} {N : Hp → Prop} {H4 : Hp} {ys : List V} (Pi : Nat → Hp → Prop) (h0 : Pi 0 H4) (hl : ∀ j H, j ≤ ys.length → Pi j H → SqL K H r ys)
    (hs : ∀ j y H, ys[j]? = some y → Pi j H → g1 y (wipe σ2 vs1) H fun σ3 H5 => wipe σ3 vs1 = wipe σ2 vs1 ∧ tt1 σ3 H5 fun b H6 =>
        if b = true then te σ3 H6 fun y H7 => ∃ (c : Int) (S : Int → Bool) (n : Nat), y = .int c ∧ H7 D = some (SetO w D S n) ∧ n + 1 < scanBound ∧ Pi (j + 1) (upd H7 D (SetO w D (fun j => S j || decide (j = c)) (if S c = true then n else n + 1))) else Pi (j + 1) H6) (hd : ∀ H, Pi ys.length H → N H) : InS w g1 tt1 te vs1 σ2 D N (Itl K r) H4 := by
  refine ⟨fun i m H => m = ys.length - i ∧ i ≤ ys.length ∧ Pi i H, ⟨ys.length, by simp, Nat.zero_le _, h0⟩, ?_⟩
  rintro i m H ⟨rfl, hi, p⟩
  have q := hl i H hi p
  by_cases hlt : i < ys.length
  · refine .inr ⟨⟨ys, ys[i], q, by simp [hlt]⟩, Pi (i + 1), fun H' p' => ⟨ys.length - (i + 1), by omega, rfl, hlt, p'⟩, fun x H' y => ?_⟩
    obtain ⟨e, y⟩ := y
    subst e
    exact hs i x _ (y ys q) p
  · have e : i = ys.length := by omega
    subst e
    exact .inl ⟨⟨ys, q, Nat.le_refl _⟩, hd H p⟩
theorem g_sc2 {w : World} {σ : L2.St} {H : Hp} {Q : VK} {wi : TI} {g : TG} {tt : TT} {wi1 : TI} {g1 : TG} {tt1 : TT} {te : TE} {vs vs1 : List Nat} (h : wi σ H (Sc2End w g tt wi1 g1 tt1 te vs vs1 σ Q)) : tSc2 w wi g tt wi1 g1 tt1 te vs vs1 σ H Q := h
theorem w_sc2 {w : World} {K : PySem.W.Frag} {σ : L2.St} {H : Hp} {Q : VK} {g : TG} {tt : TT} {wi1 : TI} {g1 : TG} {tt1 : TT} {te : TE} {vs vs1 : List Nat} {p : Addr} {xs : List V} (hp : SqL K H p xs) (Po : Addr → Nat → Hp → Prop)
    (h0 : ∀ D, H D = none → Po D 0 (upd H D (SetO w D (fun _ => false) 0))) (hl : ∀ D i H', H D = none → i ≤ xs.length → Po D i H' → SqL K H' p xs)
    (hs : ∀ D i x H', H D = none → xs[i]? = some x → Po D i H' → g x (wipe σ vs) H' fun σ2 H2 => wipe σ2 vs = wipe σ vs ∧ tt σ2 H2 fun b H3 => if b = true then wi1 σ2 H3 (InS w g1 tt1 te vs1 σ2 D (Po D (i + 1))) else Po D (i + 1) H3) (hd : ∀ D H', H D = none → Po D xs.length H' → Q (.ref D) H') :
    ∃ q, V.ref p = .ref q ∧ (∃ xs, SqL K H q xs) ∧ Sc2End w g tt wi1 g1 tt1 te vs vs1 σ Q (Itl K q) H := by
  refine ⟨p, rfl, ⟨xs, hp⟩, fun D hD => ?_⟩
  refine ⟨fun i m H => m = xs.length - i ∧ i ≤ xs.length ∧ Po D i H, ⟨xs.length, by simp, Nat.zero_le _, h0 D hD⟩, ?_⟩
  rintro i m H' ⟨rfl, hi, po⟩
  have q := hl D i H' hD hi po
  by_cases hlt : i < xs.length
  · refine .inr ⟨⟨xs, xs[i], q, by simp [hlt]⟩, Po D (i + 1), fun H' p' => ⟨xs.length - (i + 1), by omega, rfl, hlt, p'⟩, fun x H' y => ?_⟩
    obtain ⟨e, y⟩ := y
    subst e
    exact hs D i x _ hD (y xs q) po
  · have e : i = xs.length := by omega
    subst e
    exact .inl ⟨⟨xs, q, Nat.le_refl _⟩, hd D H' hD po⟩
/-! ### sets of places -/
def card (N : Nat) (S : Int → Bool) : Nat := ((ups 0 N).filter fun p : Nat => S (p : Int)).length
theorem card_le (N : Nat) (S : Int → Bool) : card N S ≤ N := by
  have := List.length_filter_le (fun p : Nat => S (p : Int)) (ups 0 N)
  rw [ups_len] at this; exact this
theorem card_step (N : Nat) (S : Int → Bool) : card (N + 1) S = card N S + if S (N : Int) = true then 1 else 0 := by
  unfold card
  show ((ups 0 N ++ [0 + N]).filter _).length = _
  rw [filter_snoc, List.length_append, Nat.zero_add]
  congr 1
  split <;> rfl
theorem card_add {c : Nat} (S : Int → Bool) : ∀ {N : Nat}, card N (fun j => S j || decide (j = (c : Int))) = card N S + if c < N ∧ S (c : Int) = false then 1 else 0
  | 0 => by rw [if_neg (fun z => Nat.not_lt_zero _ z.1)]; rfl
  | N + 1 => by
    rw [card_step, card_step, card_add (N := N)]
    by_cases hc : N = c
    · have h0 : ¬(c < N ∧ S (c : Int) = false) := fun z => by omega
      rw [if_neg h0]
      subst hc
      cases h : S (N : Int) with
      | true => simp
      | false => simp
    · have hd : decide ((N : Int) = (c : Int)) = false := decide_eq_false (by omega)
      have he : (c < N ∧ S (c : Int) = false) ↔ (c < N + 1 ∧ S (c : Int) = false) := ⟨fun z => ⟨by omega, z.2⟩, fun z => ⟨by omega, z.2⟩⟩
      simp only [hd, Bool.or_false, he]
      omega
theorem card_put {c N : Nat} (S : Int → Bool) (h : c < N) : card N (fun j => S j || decide (j = (c : Int))) = if S (c : Int) = true then card N S else card N S + 1 := by
  rw [card_add]
  cases hs : S (c : Int) with
  | true => simp
  | false => simp [h]
theorem card_nil : ∀ N, card N (fun _ => false) = 0
  | 0 => rfl
  | N + 1 => by rw [card_step, card_nil N]; rfl
theorem take_snoc1 {α : Type} {l : List α} {i : Nat} {x : α} (h : l[i]? = some x) : l.take (i + 1) = l.take i ++ [x] := by
  rw [List.take_add_one, h]; rfl
/-- two rising lists with the same members -/
theorem rise_eq : ∀ {a b : List Int}, a.Pairwise (· < ·) → b.Pairwise (· < ·) → (∀ k, k ∈ a ↔ k ∈ b) → a = b
  | [], [], _, _, _ => rfl
  | [], y :: b, _, _, h => absurd ((h y).mpr List.mem_cons_self) (fun z => nomatch z)
  | x :: a, [], _, _, h => absurd ((h x).mp List.mem_cons_self) (fun z => nomatch z)
  | x :: a, y :: b, p, q, h => by
    rw [List.pairwise_cons] at p q
    have hxy : x = y := by
      have h1 := (h x).mp List.mem_cons_self
      have h2 := (h y).mpr List.mem_cons_self
      rw [List.mem_cons] at h1 h2
      rcases h1 with h1 | h1
      · exact h1
      · rcases h2 with h2 | h2
        · exact h2.symm
        · have := q.1 x h1; have := p.1 y h2; omega
    subst hxy
    congr 1
    refine rise_eq p.2 q.2 fun k => ?_
    have hk := h k
    rw [List.mem_cons, List.mem_cons] at hk
    constructor
    · intro z
      have := p.1 k z
      exact (hk.mp (.inr z)).elim (fun e => by omega) id
    · intro z
      have := q.1 k z
      exact (hk.mpr (.inr z)).elim (fun e => by omega) id
section
variable (lo hi : Int) (ws : List (Int × Int))
def lev (l : List Nat) : List Nat := (ups 0 ws.length).filter fun p => decide (p ∈ l.flatMap (nexts lo hi ws))
def levs : Nat → List Nat → List (List Nat)
  | 0, _ => []
  | n + 1, l => if l = [] then [] else l :: levs n (lev lo hi ws l)
end
section
variable {lo hi : Int} {ws : List (Int × Int)}
theorem next_mem {b p : Nat} : p ∈ nexts lo hi ws b ↔ b < p ∧ p < ws.length ∧ fit lo hi ws p b = true := by
  unfold nexts
  rw [List.mem_filter, ups_mem]
  constructor
  · rintro ⟨h1, h2⟩; exact ⟨by omega, by omega, h2⟩
  · rintro ⟨h1, h2, h3⟩; exact ⟨by omega, h3⟩
theorem first_mem {p : Nat} : p ∈ firsts lo hi ws ↔ p < ws.length ∧ tim lo hi (ws.take (p + 1)) = true := by
  unfold firsts
  rw [List.mem_filter, ups_mem]
  constructor
  · rintro ⟨h1, h2⟩; exact ⟨by omega, h2⟩
  · rintro ⟨h1, h2⟩; exact ⟨by omega, h2⟩
theorem lev_mem {l : List Nat} {p : Nat} : p ∈ lev lo hi ws l ↔ p ∈ l.flatMap (nexts lo hi ws) := by
  unfold lev
  rw [List.mem_filter, decide_eq_true_iff, ups_mem]
  refine ⟨fun h => h.2, fun h => ⟨?_, h⟩⟩
  obtain ⟨b, _, hp⟩ := List.mem_flatMap.mp h
  have := (next_mem.mp hp).2.1
  omega
theorem lev_eq {l : List Nat} {ns : List Int} {S : Int → Bool} (hp : ns.Pairwise (· < ·)) (hm : ∀ k : Int, k ∈ ns ↔ S k = true) (hS : ∀ k, S k = true ↔ ∃ p : Nat, (p : Int) = k ∧ p ∈ l.flatMap (nexts lo hi ws)) : ns = (lev lo hi ws l).map fun p : Nat => (p : Int) := by
  refine rise_eq hp ?_ fun k => ?_
  · rw [List.pairwise_map]
    exact ((ups_pw 0 _).filter _).imp (fun h => by omega)
  · rw [hm, hS, List.mem_map]
    constructor
    · rintro ⟨p, e, h⟩; exact ⟨p, lev_mem.mpr h, e⟩
    · rintro ⟨p, h, e⟩; exact ⟨p, e, lev_mem.mp h⟩
theorem lev_lt {l : List Nat} {p : Nat} (h : p ∈ lev lo hi ws l) : p < ws.length := by
  obtain ⟨b, _, hp⟩ := List.mem_flatMap.mp (lev_mem.mp h)
  exact (next_mem.mp hp).2.1
theorem lev_ge {l : List Nat} {k p : Nat} (hk : ∀ x ∈ l, k ≤ x) (h : p ∈ lev lo hi ws l) : k + 1 ≤ p := by
  obtain ⟨b, hb, hp⟩ := List.mem_flatMap.mp (lev_mem.mp h)
  have := (next_mem.mp hp).1
  have := hk b hb
  omega
theorem lev_len (l : List Nat) : (lev lo hi ws l).length ≤ ws.length := by
  have := List.length_filter_le (fun p => decide (p ∈ l.flatMap (nexts lo hi ws))) (ups 0 ws.length)
  rw [ups_len] at this; exact this
theorem next_len (b : Nat) : (nexts lo hi ws b).length ≤ ws.length := by
  have := List.length_filter_le (fun p => fit lo hi ws p b) (ups (b + 1) (ws.length - (b + 1)))
  rw [ups_len] at this
  unfold nexts
  omega
end
section
variable {P : Program} {w : World} {K : PySem.W.Frag} {mg : Str → Option Value} {base : Heap} {CN CR : Addr}
theorem sc_Ring_next_level : FnScope ["self", "level", "behind", "place"] ["self", "level"] (C8.fnScope s_Ring_next_level) := C8.fnScope_by (by decide +kernel)
def sp_lev (K : PySem.W.Frag) (CR : Addr) : Sp := fun vs H Q _ => ∃ (R dx L A : Addr) (lo hi : Int) (zs : List Wk) (l : List Nat), vs = [.ref R, .ref A] ∧ H R = some (.ins CR dx (ringF lo hi L)) ∧ WkL H L zs ∧ zs.length ≤ 10 ∧ H A = some (.lst (l.map nI)) ∧ (∀ x ∈ l, x < zs.length) ∧ ∀ H' D, Same H H' → H D = none → H' D = some (.lst ((lev lo hi (zs.map (·.2)) l).map nI)) → Q (.ref D) H'
theorem ok_lev (T : TxtW K mg CN) (TR : TxtR K CR) {f : Addr} {fd : FuncData} (me : Meth K CR "next_level" f) (F : C8.Fun K "next_level" "Ring.next_level" s_Ring_next_level f fd) (b : Binds K fd ["self", "level"] []) (m_next_places : C8.Met P w K mg base 3 CR "next_places" (sp_nexts K CR) []) : C8.Met P w K mg base 4 CR "next_level" (sp_lev K CR) [] := by
  refine C8.met0 TR.c me F b sc_Ring_next_level (fun vs H Q E h => ?_) fun cdv A outer s H vs Q E hr h => ?_
  · obtain ⟨R, dx, L, A, lo, hi, zs, l, rfl, _⟩ := h; rfl
  · obtain ⟨R, dx, L, A, lo, hi, zs, l, rfl, hR, wk, ln, hA, hl, q⟩ := h
    have nd := sc_Ring_next_level.nd
    refine ⟨_, (pss_one (ps_ret (pe_callB (r := rSortedSet w) (cr_sortedSet rfl) (by rfl) T.n_sorted (by decide +kernel) (pa_cons (pe_sc2 (own := [("behind", 2), ("place", 3)]) (g := gName 2) (tt := tYes) (wi1 := iList K _) (g1 := gName 3) (tt1 := tYes) (vs1 := [3]) rfl nd (pi_list (pv 1)) (blkOk_by (N := ["self", "level", "behind", "place"]) (sc := C8.fnScope s_Ring_next_level) (by decide +kernel)) (by decide) (fun _ _ _ _ _ => pg_name (i := 2) nd rfl (Or.inl rfl)) (fun _ _ _ _ _ => pts_nil) (fun _ _ _ _ _ => (pi_list (C8.pe_mt m_next_places hr (by first | decide | exact Nat.le_refl _ | omega) (pv 0) (pa_cons (pv 2) pa_nil)))) (fun _ _ _ _ _ => pg_name (i := 3) nd rfl (Or.inl rfl)) (fun _ _ _ _ _ => pts_nil) (fun _ _ _ _ _ => (pv 3))) pa_nil)))), ?_⟩
    walk_at "go"
    refine g_sc2 ?_
    walk_at "go"
    generalize hws : zs.map (·.2) = ws at q
    have wl : ws.length = zs.length := by rw [← hws, List.length_map]
    refine w_sc2 (SqL.of hA) (fun D i H' => Same H H' ∧ ∃ S, H' D = some (SetO w D S (card ws.length S)) ∧ ∀ k : Int, S k = true ↔ ∃ p : Nat, (p : Int) = k ∧ p ∈ (l.take i).flatMap (nexts lo hi ws)) (fun D hD => ⟨same_new hD, fun _ => false, ?_, fun k => ?_⟩) (fun D i H' hD _ h => SqL.of (h.1 _ _ hA)) (fun D i x H' hD hx h => ?_) (fun D H' hD h => ?_)
    · rw [card_nil]; exact upd_same
    · exact ⟨fun z => Bool.noConfusion z, fun ⟨p, _, hp⟩ => by cases hp⟩
    · obtain ⟨b, hb, rfl⟩ := nI_at hx
      obtain ⟨s1, S, hS, eS⟩ := h
      have bl := hl b (List.mem_of_getElem? hb)
      have hR' := s1 _ _ hR
      walk_at "go"
      refine ⟨rfl, ?_⟩
      walk_at "go"
      refine ⟨_, rfl, R, dx, _, rfl, hR', rfl, ?_⟩
      walk_at "go"
      refine ⟨R, dx, L, lo, hi, zs, b, rfl, hR', wk.same s1, ln, bl, fun H2 D2 s2 hD2 eD2 => ?_⟩
      rw [hws] at eD2
      have s12 := s1.trans s2
      have nDD : D2 ≠ D := (ne_of_none hS hD2).symm
      refine ⟨D2, rfl, ⟨_, SqL.of eD2⟩, ?_⟩
      refine inS_list (ys := (nexts lo hi ws b).map nI) (fun j H3 => Same H H3 ∧ H3 D2 = some (.lst ((nexts lo hi ws b).map nI)) ∧ ∃ S, H3 D = some (SetO w D S (card ws.length S)) ∧ ∀ k : Int, S k = true ↔ ∃ p : Nat, (p : Int) = k ∧ p ∈ (l.take i).flatMap (nexts lo hi ws) ++ (nexts lo hi ws b).take j) ⟨s12, eD2, S, s2 _ _ hS, fun k => by rw [eS k, List.take_zero, List.append_nil]⟩ (fun j H' _ h => SqL.of h.2.1) (fun j y H' hy h => ?_) (fun H' h => ?_)
      · obtain ⟨p, hp, rfl⟩ := nI_at hy
        obtain ⟨s3, e3, S3, hS3, eS3⟩ := h
        have pm := (next_mem.mp (List.mem_of_getElem? hp)).2.1
        walk_at "go"
        refine ⟨rfl, ?_⟩
        walk_at "go"
        refine ⟨(p : Int), S3, _, rfl, hS3, ?_, Wd.Same.mut s3 hD, by rw [upd_ne nDD]; exact e3, fun j => S3 j || decide (j = (p : Int)), ?_, fun k => ?_⟩
        · have := card_le ws.length S3
          have : (12 : Nat) < scanBound := by decide
          omega
        · rw [upd_same, card_put S3 pm]; rfl
        · rw [Bool.or_eq_true, eS3 k, decide_eq_true_iff, take_snoc1 hp]
          constructor
          · rintro (⟨q, e, hq⟩ | e)
            · refine ⟨q, e, ?_⟩
              rw [List.mem_append] at hq ⊢
              rcases hq with hq | hq
              · exact .inl hq
              · exact .inr (List.mem_append_left _ hq)
            · exact ⟨p, e.symm, List.mem_append_right _ (List.mem_append_right _ (List.mem_singleton.mpr rfl))⟩
          · rintro ⟨q, e, hq⟩
            rw [List.mem_append, List.mem_append, List.mem_singleton] at hq
            rcases hq with hq | hq | hq
            · exact .inl ⟨q, e, List.mem_append_left _ hq⟩
            · exact .inl ⟨q, e, List.mem_append_right _ hq⟩
            · exact .inr (by omega)
      · obtain ⟨s3, e3, S3, hS3, eS3⟩ := h
        refine ⟨s3, S3, hS3, fun k => ?_⟩
        rw [eS3 k, List.length_map, List.take_length, take_snoc1 hb, List.flatMap_append, List.flatMap_singleton]
    · obtain ⟨s1, S, hS, eS⟩ := h
      rw [List.length_map, List.take_length] at eS
      walk_at "go"
      refine ⟨D, S, _, rfl, hS, by have := card_le ws.length S; omega, fun ns p hp hm hlen hpn => ?_⟩
      rw [lev_eq hp hm eS]
      rw [List.map_map]
      exact q _ p (s1.trans (same_new hpn)) (Wd.Same.back s1 hpn) upd_same
end
end K10R
namespace K10R
open PySem PySem.Spec PyProof.Rows L2 Wd K10
/-- rows in a list, all made behind H0 -/
structure RowsL (H0 H : Hp) (RR : Addr) (rs : List (Addr × List Nat)) : Prop where
  at_ : H RR = some (.lst (rs.map fun r => V.ref r.1))
  own : ∀ r ∈ rs, H r.1 = some (.lst (r.2.map nI)) ∧ H0 r.1 = none
theorem RowsL.same {H0 H H' : Hp} {RR : Addr} {rs : List (Addr × List Nat)} (t : RowsL H0 H RR rs) (e : Same H H') : RowsL H0 H' RR rs := ⟨e _ _ t.at_, fun r hr => ⟨e _ _ (t.own r hr).1, (t.own r hr).2⟩⟩
theorem RowsL.put {H0 H : Hp} {RR M : Addr} {rs : List (Addr × List Nat)} {r : List Nat} (t : RowsL H0 H RR rs) (h : H M = some (.lst (r.map nI))) (n : H0 M = none) (n2 : M ≠ RR) (ne : ∀ y ∈ rs, y.1 ≠ RR) : RowsL H0 (upd H RR (.lst ((rs.map fun r => V.ref r.1) ++ [.ref M]))) RR (rs ++ [(M, r)]) := by
  refine ⟨by rw [upd_same, List.map_append]; rfl, fun z hz => ?_⟩
  rw [List.mem_append, List.mem_singleton] at hz
  rcases hz with hz | rfl
  · exact ⟨by rw [upd_ne (ne z hz)]; exact (t.own z hz).1, (t.own z hz).2⟩
  · exact ⟨by rw [upd_ne n2]; exact h, n⟩
def levels (lo hi : Int) (ws : List (Int × Int)) (f : Nat) : List (List Nat) := levs lo hi ws (ws.length + 1) [f]
section
variable {P : Program} {w : World} {K : PySem.W.Frag} {mg : Str → Option Value} {base : Heap} {CN CR : Addr}
theorem sc_Ring_levels_of : FnScope ["self", "first", "told", "level"] ["self", "first"] (C8.fnScope s_Ring_levels_of) := C8.fnScope_by (by decide +kernel)
def sp_levels (K : PySem.W.Frag) (CR : Addr) : Sp := fun vs H Q _ => ∃ (R dx L : Addr) (lo hi : Int) (zs : List Wk) (f : Nat), vs = [.ref R, .int f] ∧ H R = some (.ins CR dx (ringF lo hi L)) ∧ WkL H L zs ∧ zs.length ≤ 10 ∧ f < zs.length ∧ ∀ H' T rs, Same H H' → H T = none → RowsL H H' T rs → rs.map (·.2) = levels lo hi (zs.map (·.2)) f → Q (.ref T) H'
theorem ok_levels (T : TxtW K mg CN) (TR : TxtR K CR) {f : Addr} {fd : FuncData} (me : Meth K CR "levels_of" f) (F : C8.Fun K "levels_of" "Ring.levels_of" s_Ring_levels_of f fd) (b : Binds K fd ["self", "first"] []) (m_next_level : C8.Met P w K mg base 4 CR "next_level" (sp_lev K CR) []) : C8.Met P w K mg base 5 CR "levels_of" (sp_levels K CR) [] := by
  refine C8.met0 TR.c me F b sc_Ring_levels_of (fun vs H Q E h => ?_) fun cdv A outer s H vs Q E hr h => ?_
  · obtain ⟨R, dx, L, lo, hi, zs, f, rfl, _⟩ := h; rfl
  · obtain ⟨R, dx, L, lo, hi, zs, f, rfl, hR, wk, ln, hf, q⟩ := h
    have nd := sc_Ring_levels_of.nd
    refine ⟨_, (pss_cons (ps_set (i := 2) nd rfl (Or.inl rfl) (pe_lst pa_nil))
      (pss_cons (ps_set (i := 3) nd rfl (Or.inl rfl) (pe_lst (pa_cons (pv 1) pa_nil)))
      (pss_cons (ps_while PassesOwn.never (pt_truth (pv 3) (by intro _; rfl)) (pss_cons (ps_expr (pe_bmK (K := K) rfl PySem.F.plainAttrs_list PySem.F.slot_list_append PySem.F.type_list_append mt_append (pv 2) (pa_cons (pv 3) pa_nil)))
      (pss_one (ps_set (i := 3) nd rfl (Or.inl rfl) (C8.pe_mt m_next_level hr (by first | decide | exact Nat.le_refl _ | omega) (pv 0) (pa_cons (pv 3) pa_nil))))))
      (pss_one (ps_ret (pv 2)))))), ?_⟩
    walk_at "go"
    intro TT hTT
    have s1 := same_new (o := .lst []) hTT
    have rl0 : RowsL H (upd H TT (.lst [])) TT [] := ⟨upd_same, fun r hr => nomatch hr⟩
    generalize upd H TT (.lst []) = H1 at s1 rl0
    walk_at "go"
    intro A0 hA0
    have s2 := same_new (o := .lst [nI f]) hA0
    have n0 := Wd.Same.back s1 hA0
    have nA : A0 ≠ TT := (ne_of_none rl0.at_ hA0).symm
    generalize hws : zs.map (·.2) = ws at q
    have wl : ws.length = zs.length := by rw [← hws, List.length_map]
    walk_at "go"
    refine w_loop (fun n σ H' => ∃ (rs : List (Addr × List Nat)) (A : Addr) (l : List Nat) (k : Nat), σ = [some (.ref R), some (nI f), some (.ref TT), some (.ref A)] ∧ Same H H' ∧ RowsL H H' TT rs ∧ (∀ y ∈ rs, y.1 ≠ TT) ∧ H' A = some (.lst (l.map nI)) ∧ H A = none ∧ A ≠ TT ∧ (∀ x ∈ l, k ≤ x ∧ x < ws.length) ∧ rs.map (·.2) ++ levs lo hi ws n l = levels lo hi ws f ∧ rs.length = k ∧ k + n = ws.length + 1) (ws.length + 1) ?_ ?_
    · refine ⟨[], A0, [f], 0, rfl, s1.trans s2, rl0.same s2, (fun y hy => nomatch hy), upd_same, n0, nA, fun x hx => ?_, rfl, rfl, by omega⟩
      rw [List.mem_singleton] at hx
      omega
    clear rl0 s1 s2 nA n0 hA0
    rintro n σ H4 ⟨rs, A, l, k, rfl, s4, rl, nr, eA, nA, nAT, lk, el, rk, kn⟩
    have wk4 := wk.same s4
    have eR4 := s4 _ _ hR
    walk_at "go"
    rcases l with _ | ⟨x0, l0⟩
    · refine ⟨false, .inl ⟨[], SqL.of eA, rfl⟩, ?_⟩
      walk_at "go"
      have e0 : levs lo hi ws n [] = [] := by cases n <;> rfl
      rw [e0, List.append_nil] at el
      exact q _ TT rs s4 hTT rl el
    · generalize hl : x0 :: l0 = l at eA lk el
      have ne' : l ≠ [] := by rw [← hl]; exact List.cons_ne_nil _ _
      have hk := lk x0 (by rw [← hl]; exact List.mem_cons_self)
      match n, kn, el with
      | 0, kn, _ => omega
      | n + 1, kn, el =>
      refine ⟨true, .inl ⟨_, SqL.of eA, by rw [← hl]; rfl⟩, ?_⟩
      refine L2.iteT ?_
      refine ⟨fun σ' H' => ∃ (rs : List (Addr × List Nat)) (A : Addr) (l : List Nat) (k : Nat), σ' = [some (.ref R), some (nI f), some (.ref TT), some (.ref A)] ∧ Same H H' ∧ RowsL H H' TT rs ∧ (∀ y ∈ rs, y.1 ≠ TT) ∧ H' A = some (.lst (l.map nI)) ∧ H A = none ∧ A ≠ TT ∧ (∀ x ∈ l, k ≤ x ∧ x < ws.length) ∧ rs.map (·.2) ++ levs lo hi ws n l = levels lo hi ws f ∧ rs.length = k ∧ k + n = ws.length + 1, fun σ' H' h => ⟨n, Nat.lt_succ_self n, h⟩, ?_⟩
      walk_at "go"
      refine ⟨.inl ⟨rfl, _, SqL.of rl.at_⟩, ?_⟩
      walk_at "go"
      refine g_append rl.at_ (by rw [List.length_map]; omega) ?_
      have rl5 := rl.put eA nA nAT nr
      have m5 := Wd.Same.mut (o := .lst ((rs.map fun r => V.ref r.1) ++ [.ref A])) s4 hTT
      have eA5 : upd H4 TT (.lst ((rs.map fun r => V.ref r.1) ++ [.ref A])) A = some (.lst (l.map nI)) := by rw [upd_ne nAT]; exact eA
      generalize upd H4 TT (.lst ((rs.map fun r => V.ref r.1) ++ [.ref A])) = H5 at rl5 m5 eA5
      walk_at "go"
      refine ⟨_, rfl, R, dx, _, rfl, m5 _ _ hR, rfl, ?_⟩
      walk_at "go"
      refine ⟨R, dx, L, A, lo, hi, zs, l, rfl, m5 _ _ hR, wk.same m5, ln, eA5, fun x hx => by have := lk x hx; omega, fun H6 A6 s6 hA6 eA6 => ?_⟩
      rw [hws] at eA6
      walk_at "go"
      refine ⟨rs ++ [(A, l)], A6, lev lo hi ws l, k + 1, rfl, m5.trans s6, rl5.same s6, fun y hy => ?_, eA6, Wd.Same.back m5 hA6, (ne_of_none rl5.at_ hA6).symm, fun x hx => ⟨lev_ge (fun y hy => (lk y hy).1) hx, lev_lt hx⟩, ?_, by rw [List.length_append, rk]; rfl, by omega⟩
      · rw [List.mem_append, List.mem_singleton] at hy
        rcases hy with hy | rfl
        · exact nr y hy
        · exact nAT
      · rw [← el, List.map_append, List.append_assoc]
        congr 1
        show [l] ++ _ = if l = [] then [] else _
        rw [if_neg ne']; rfl

theorem sc_Ring_comes_back : FnScope ["self", "first", "levels", "level", "place"] ["self", "first", "levels"] (C8.fnScope s_Ring_comes_back) := C8.fnScope_by (by decide +kernel)
def backTo (lo hi : Int) (ws : List (Int × Int)) (f : Nat) (ls : List (List Nat)) : Bool := ls.any fun l => l.any fun p => fit lo hi ws f p
def sp_comes (K : PySem.W.Frag) (CR : Addr) : Sp := fun vs H Q _ => ∃ (H0 : Hp) (R dx L A : Addr) (lo hi : Int) (zs : List Wk) (f : Nat) (rs : List (Addr × List Nat)), vs = [.ref R, .int f, .ref A] ∧ H R = some (.ins CR dx (ringF lo hi L)) ∧ WkL H L zs ∧ zs.length ≤ 10 ∧ f < zs.length ∧ RowsL H0 H A rs ∧ (∀ r ∈ rs, ∀ x ∈ r.2, x < zs.length) ∧ ∀ H', Same H H' → Q (.bl (backTo lo hi (zs.map (·.2)) f (rs.map (·.2)))) H'
theorem ok_comes (T : TxtW K mg CN) (TR : TxtR K CR) {f : Addr} {fd : FuncData} (me : Meth K CR "comes_back" f) (F : C8.Fun K "comes_back" "Ring.comes_back" s_Ring_comes_back f fd) (b : Binds K fd ["self", "first", "levels"] []) (m_fits : C8.Met P w K mg base 2 CR "fits" (sp_fits K CR) []) : C8.Met P w K mg base 3 CR "comes_back" (sp_comes K CR) [] := by
  refine C8.met0 TR.c me F b sc_Ring_comes_back (fun vs H Q E h => ?_) fun cdv A outer s H vs Q E hr h => ?_
  · obtain ⟨H0, R, dx, L, A, lo, hi, zs, f, rs, rfl, _⟩ := h; rfl
  · obtain ⟨H0, R, dx, L, A, lo, hi, zs, f, rs, rfl, hR, wk, ln, hf, rl, lt, q⟩ := h
    have nd := sc_Ring_comes_back.nd
    refine ⟨_, (pss_cons (ps_for PassesOwn.never rfl (pi_list (pv 2)) (pg_name (i := 3) nd rfl (Or.inl rfl)) (pss_one (ps_for PassesOwn.never rfl (pi_list (pv 3)) (pg_name (i := 4) nd rfl (Or.inl rfl)) (pss_one (ps_if (pt_val (C8.pe_mt m_fits hr (by first | decide | exact Nat.le_refl _ | omega) (pv 0) (pa_cons (pv 1) (pa_cons (pv 4) pa_nil)))) (pss_one (ps_ret pe_bl)) pss_nil)))))
      (pss_one (ps_ret pe_bl))), ?_⟩
    generalize hws : zs.map (·.2) = ws at q
    have wl : ws.length = zs.length := by rw [← hws, List.length_map]
    walk_at "go"
    refine w_list (xs := rs.map fun r => V.ref r.1) (fun i σ H' => ∃ v3 v4 : Option V, σ = [some (.ref R), some (nI f), some (.ref A), v3, v4] ∧ Same H H' ∧ ∀ j r, j < i → rs[j]? = some r → (r.2.any fun p => fit lo hi ws f p) = false) ?_ ?_ ?_ ?_
    · exact ⟨_, _, rfl, fun _ _ h => h, fun j r hj => by omega⟩
    · rintro i σ H' _ ⟨v3, v4, rfl, sm, _⟩
      exact SqL.of (sm _ _ rl.at_)
    · rintro i x σ H5 hx ⟨v3, v4, rfl, sm, no⟩
      obtain ⟨r, hr', rfl⟩ := map_at2 hx
      have rm := List.mem_of_getElem? hr'
      have ro := rl.own r rm
      have er5 := sm _ _ ro.1
      walk_at "go"
      refine w_list (xs := r.2.map nI) (fun j σ H' => ∃ v4 : Option V, σ = [some (.ref R), some (nI f), some (.ref A), some (.ref r.1), v4] ∧ Same H H' ∧ ∀ m p, m < j → r.2[m]? = some p → fit lo hi ws f p = false) ?_ ?_ ?_ ?_
      · exact ⟨_, rfl, sm, fun j r hj => by omega⟩
      · rintro j σ H' _ ⟨v4, rfl, s2, _⟩
        exact SqL.of (s2 _ _ ro.1)
      · rintro j x σ H6 hx ⟨v4, rfl, s2, no2⟩
        obtain ⟨p, hp, rfl⟩ := nI_at hx
        have pl := lt r rm p (List.mem_of_getElem? hp)
        walk_at "go"
        refine ⟨_, rfl, R, dx, _, rfl, s2 _ _ hR, rfl, ?_⟩
        walk_at "go"
        refine ⟨R, dx, L, lo, hi, zs, f, p, rfl, s2 _ _ hR, wk.same s2, ln, hf, pl, fun H7 s7 => ?_⟩
        rw [hws]
        refine ⟨_, rfl, ?_⟩
        cases hc : fit lo hi ws f p with
        | true =>
          walk_at "go"
          have e : backTo lo hi ws f (rs.map (·.2)) = true := by
            unfold backTo
            rw [List.any_eq_true]
            exact ⟨r.2, List.mem_map.mpr ⟨r, rm, rfl⟩, List.any_eq_true.mpr ⟨p, List.mem_of_getElem? hp, hc⟩⟩
          rw [e] at q
          exact q _ (s2.trans s7)
        | false =>
          walk_at "go"
          refine ⟨_, rfl, s2.trans s7, fun m p2 hm hp2 => ?_⟩
          by_cases c : m < j
          · exact no2 m p2 c hp2
          · have : m = j := by omega
            subst this
            cases hp.symm.trans hp2
            exact hc
      · rintro σ H6 ⟨v4, rfl, s2, no2⟩
        rw [List.length_map] at no2
        walk_at "go"
        refine ⟨_, _, rfl, s2, fun m r2 hm hr2 => ?_⟩
        by_cases c : m < i
        · exact no m r2 c hr2
        · have : m = i := by omega
          subst this
          cases hr'.symm.trans hr2
          rw [List.any_eq_false]
          intro p hp
          obtain ⟨j, hj, rfl⟩ := List.mem_iff_getElem.mp hp
          rw [no2 j _ hj (List.getElem?_eq_getElem hj)]
          decide
    · rintro σ H6 ⟨v3, v4, rfl, sm, no⟩
      rw [List.length_map] at no
      walk_at "go"
      have e : backTo lo hi ws f (rs.map (·.2)) = false := by
        unfold backTo
        rw [List.any_eq_false]
        intro l hl
        obtain ⟨r, hr', rfl⟩ := List.mem_map.mp hl
        obtain ⟨j, hj, rfl⟩ := List.mem_iff_getElem.mp hr'
        rw [no j _ hj (List.getElem?_eq_getElem hj)]
        decide
      rw [e] at q
      exact q _ sm
end
end K10R
namespace K10R
open PySem PySem.Spec PyProof.Rows L2 Wd K10
theorem cut_any {α : Type} (l : List α) (f : α → V) (b : Nat) : cutV (l.map f) none (some (b : Int)) = (l.take b).map f := by
  unfold cutV
  rw [HT.sIx_nat, HT.sIx_none, List.length_map, List.drop_zero, Nat.sub_zero, List.map_take]
  by_cases h : b ≤ l.length
  · rw [Nat.min_eq_left h]
  · rw [Nat.min_eq_right (by omega), List.take_of_length_le (by rw [List.length_map]; omega), List.take_of_length_le (by rw [List.length_map]; omega)]
def looked (m : Int) : Nat := (m - 1).toNat
def shownB (lo hi : Int) (ws : List (Int × Int)) (m : Int) : Bool := !((firsts lo hi ws).any fun f => backTo lo hi ws f ((levels lo hi ws f).take (looked m)))
section
variable {lo hi : Int} {ws : List (Int × Int)}
theorem levs_lt : ∀ (n : Nat) (l : List Nat), (∀ x ∈ l, x < ws.length) → ∀ r ∈ levs lo hi ws n l, r ≠ [] ∧ ∀ x ∈ r, x < ws.length
  | 0, l, _, r, hr => by cases hr
  | n + 1, l, h, r, hr => by
    unfold levs at hr
    split at hr
    · cases hr
    · rename_i hn
      rw [List.mem_cons] at hr
      rcases hr with rfl | hr
      · exact ⟨hn, h⟩
      · exact levs_lt n _ (fun x hx => lev_lt hx) r hr
end
theorem in_nI {l : List Nat} {f : Int} : inV (.int f) (l.map nI) = true ↔ ∃ p ∈ l, (p : Int) = f := by
  unfold inV
  rw [List.any_map, List.any_eq_true]
  constructor
  · rintro ⟨p, hp, e⟩
    have e' : decide ((p : Int) = f) = true := e
    exact ⟨p, hp, of_decide_eq_true e'⟩
  · rintro ⟨p, hp, e⟩
    have e' : decide ((p : Int) = f) = true := decide_eq_true e
    exact ⟨p, hp, e'⟩
theorem flat_nI (l : List Nat) : (l.map nI).all flatV = true := by
  rw [List.all_map, List.all_eq_true]
  intro x _
  rfl
section
variable {P : Program} {w : World} {K : PySem.W.Frag} {mg : Str → Option Value} {base : Heap} {CN CR : Addr}
abbrev s_shown : Stmt := top 36
theorem sc_shown : FnScope ["window", "works", "many", "ring", "looked_at", "first"] ["window", "works", "many"] (C8.fnScope s_shown) := C8.fnScope_by (by decide +kernel)
def sp_shown (K : PySem.W.Frag) (CN : Addr) : Sp := fun vs H Q _ => ∃ (W L : Addr) (lo hi : Int) (zs : List Wk) (m : Int), vs = [.ref W, .ref L, .int m] ∧ SqT K H W [.int lo, .int hi] ∧ okW lo hi ∧ WkL H L zs ∧ okZ zs ∧ zs ≠ [] ∧ zs.length ≤ 10 ∧ ∀ H', Same H H' → Q (.bl (shownB lo hi (zs.map (·.2)) m)) H'
theorem ok_shown (T : TxtW K mg CN) (TR : TxtR K CR) {f : Addr} {fd : FuncData} (D : C8.Def K mg "shown" s_shown f fd) (b : Binds K fd ["window", "works", "many"] []) (g_Ring : C8.Mak P w K mg base 4 "Ring" CR (sp_init K CR) [])
    (m_first_places : C8.Met P w K mg base 2 CR "first_places" (sp_firsts K CR) []) (m_levels_of : C8.Met P w K mg base 5 CR "levels_of" (sp_levels K CR) []) (m_comes_back : C8.Met P w K mg base 3 CR "comes_back" (sp_comes K CR) []) : C8.Cal P w K mg base 6 "shown" (sp_shown K CN) [] := by
  refine C8.cal0 D b .nil sc_shown (fun vs H Q E h => ?_) fun cdv A outer s H vs Q E hr h => ?_
  · obtain ⟨W, L, lo, hi, zs, m, rfl, _⟩ := h; rfl
  · obtain ⟨W, L, lo, hi, zs, m, rfl, hW, okw, wk, okz, ne, ln, q⟩ := h
    have nd := sc_shown.nd
    refine ⟨_, (pss_cons (ps_set (i := 3) nd rfl (Or.inl rfl) (C8.pe_mk g_Ring hr (by first | decide | exact Nat.le_refl _ | omega) (by rfl) (pa_cons (pv 0) (pa_cons (pv 1) pa_nil))))
      (pss_cons (ps_set (i := 4) nd rfl (Or.inl rfl) (pe_callB (call_max1 rfl) (by rfl) T.n_max (by decide +kernel) (pa_cons pe_int (pa_cons (pe_op op_sub (pv 2) pe_int) pa_nil))))
      (pss_cons (ps_for PassesOwn.never rfl (pi_list (C8.pe_mt0 m_first_places hr (by first | decide | exact Nat.le_refl _ | omega) (pv 3))) (pg_name (i := 5) nd rfl (Or.inl rfl)) (pss_one (ps_if (pt_val (C8.pe_mt m_comes_back hr (by first | decide | exact Nat.le_refl _ | omega) (pv 3) (pa_cons (pv 5) (pa_cons (pe_slice (r := rSlL K) sl_list (C8.pe_mt m_levels_of hr (by first | decide | exact Nat.le_refl _ | omega) (pv 3) (pa_cons (pv 5) pa_nil)) po_none (po_some (pv 4))) pa_nil)))) (pss_one (ps_ret pe_bl)) pss_nil)))
      (pss_one (ps_ret pe_bl))))), ?_⟩
    walk_at "go"
    refine ⟨_, rfl, _, rfl, fun R dx hR hdx ndx => ?_⟩
    have s1 := same_new (o := .own R) hdx
    have hR1 : upd H dx (.own R) R = none := by rw [upd_ne ndx.symm]; exact hR
    have s2 := s1.trans (same_new (o := .ins CR dx []) hR1)
    refine ⟨R, dx, W, L, lo, hi, zs, rfl, upd_same, tup_same s2 hW, okw, wk.same s2, okz, ne, ln, fun H1 f1 eR => ⟨rfl, ?_⟩⟩
    have sH : Same H H1 := fun a o h => f1 a o (fun z => by rw [z, hR] at h; cases h) (s2 a o h)
    clear f1 s2 s1 hR1
    have wk1 := wk.same sH
    walk_at "go"
    have elk : (if m - 1 > 0 then m - 1 else 0) = ((looked m : Nat) : Int) := by unfold looked; split <;> omega
    rw [elk]
    refine ⟨_, rfl, R, dx, _, rfl, eR, rfl, ?_⟩
    walk_at "go"
    refine ⟨R, dx, L, lo, hi, zs, rfl, eR, wk1, ln, fun H2 Fp s2 hFp eFp => ?_⟩
    have sH2 := sH.trans s2
    have eR2 := s2 _ _ eR
    have wk2 := wk1.same s2
    generalize hws : zs.map (·.2) = ws at eFp q
    have wl : ws.length = zs.length := by rw [← hws, List.length_map]
    refine w_list (xs := (firsts lo hi ws).map nI) (fun i σ H' => ∃ v5 : Option V, σ = [some (.ref W), some (.ref L), some (.int m), some (.ref R), some (.int (looked m : Nat)), v5] ∧ Same H2 H' ∧ ∀ j p, j < i → (firsts lo hi ws)[j]? = some p → backTo lo hi ws p ((levels lo hi ws p).take (looked m)) = false) ?_ ?_ ?_ ?_
    · exact ⟨_, rfl, fun _ _ h => h, fun j r hj => by omega⟩
    · rintro i σ H' _ ⟨v5, rfl, sm, _⟩
      exact SqL.of (sm _ _ eFp)
    · rintro i x σ H5 hx ⟨v5, rfl, sm, no⟩
      obtain ⟨p, hp, rfl⟩ := nI_at hx
      have pf := List.mem_of_getElem? hp
      have pl : p < zs.length := by have := (first_mem.mp pf).1; omega
      have eR5 := sm _ _ eR2
      have wk5 := wk2.same sm
      walk_at "go"
      refine ⟨_, rfl, R, dx, _, rfl, eR5, rfl, ?_⟩
      walk_at "go"
      refine ⟨_, rfl, R, dx, _, rfl, eR5, rfl, ?_⟩
      walk_at "go"
      refine ⟨R, dx, L, lo, hi, zs, p, rfl, eR5, wk5, ln, pl, fun H6 T6 rs s6 hT6 rl er => ?_⟩
      rw [hws] at er
      walk_at "go"
      refine g_slL (SqL.of rl.at_) fun A7 hA7 => ?_
      rw [cut_any]
      have s7 := same_new (o := .lst ((rs.take (looked m)).map fun r => V.ref r.1)) hA7
      have i7 := upd_same (H := H6) (a := A7) (o := .lst ((rs.take (looked m)).map fun r => V.ref r.1))
      generalize upd H6 A7 (.lst ((rs.take (looked m)).map fun r => V.ref r.1)) = H7 at s7 i7
      have s57 := s6.trans s7
      walk_at "go"
      refine ⟨H5, R, dx, L, A7, lo, hi, zs, p, rs.take (looked m), rfl, s57 _ _ eR5, wk5.same s57, ln, pl, ⟨i7, fun r hr => ⟨s7 _ _ (rl.own r (List.mem_of_mem_take hr)).1, (rl.own r (List.mem_of_mem_take hr)).2⟩⟩, fun r hr x hx => ?_, fun H8 s8 => ?_⟩
      · have rm : r.2 ∈ levels lo hi ws p := by rw [← er]; exact List.mem_map.mpr ⟨r, List.mem_of_mem_take hr, rfl⟩
        have := (levs_lt (ws.length + 1) [p] (fun y hy => by rw [List.mem_singleton] at hy; omega) r.2 rm).2 x hx
        omega
      · rw [hws, List.map_take, er]
        have s8' := (sm.trans s57).trans s8
        refine ⟨_, rfl, ?_⟩
        cases hc : backTo lo hi ws p ((levels lo hi ws p).take (looked m)) with
        | true =>
          walk_at "go"
          have e : shownB lo hi ws m = false := by
            unfold shownB
            rw [List.any_eq_true.mpr ⟨p, pf, hc⟩]; rfl
          rw [e] at q
          exact q _ (sH2.trans s8')
        | false =>
          walk_at "go"
          refine ⟨_, rfl, s8', fun j p2 hm hp2 => ?_⟩
          by_cases c : j < i
          · exact no j p2 c hp2
          · have : j = i := by omega
            subst this
            cases hp.symm.trans hp2
            exact hc
    · rintro σ H6 ⟨v5, rfl, sm, no⟩
      rw [List.length_map] at no
      walk_at "go"
      have e : shownB lo hi ws m = true := by
        unfold shownB
        rw [Bool.not_eq_true', List.any_eq_false]
        intro p hp
        obtain ⟨j, hj, rfl⟩ := List.mem_iff_getElem.mp hp
        rw [no j _ hj (List.getElem?_eq_getElem hj)]
        decide
      rw [e] at q
      exact q _ (sH2.trans sm)
end
end K10R
namespace K10R
open PySem PySem.Spec PyProof.Rows L2 Wd K10
/-! ### two fors in a comprehension, over lists -/
def InE (g1 : TG) (tt1 : TT) (te : TE) (vs1 : List Nat) (σ2 : L2.St) (D : Addr) (N : Hp → Prop) (J1 : It) (H4 : Hp) : Prop := ∃ W1 : Nat → Nat → Hp → Prop, (∃ m, W1 0 m H4) ∧ ∀ j k H, W1 j k H →
      (J1.stop j H ∧ N H) ∨ (J1.go j H ∧ ∃ Nx1 : Hp → Prop, (∀ H', Nx1 H' → ∃ k', k' < k ∧ W1 (j + 1) k' H') ∧ ∀ x H', J1.yld j H x H' → g1 x (wipe σ2 vs1) H' fun σ3 H5 => wipe σ3 vs1 = wipe σ2 vs1 ∧ tt1 σ3 H5 fun b H6 =>
        if b = true then te σ3 H6 fun y H7 => ∃ acc, H7 D = some (.lst acc) ∧ acc.length < sizeLine ∧ Nx1 (upd H7 D (.lst (acc ++ [y]))) else Nx1 H6)
theorem inE_list {K : PySem.W.Frag} {g1 : TG} {tt1 : TT} {te : TE} {vs1 : List Nat} {σ2 : L2.St} {D r : Addr} {N : Hp → Prop} {H4 : Hp} {ys : List V} (Pi : Nat → Hp → Prop) (h0 : Pi 0 H4) (hl : ∀ j H, j ≤ ys.length → Pi j H → SqL K H r ys)
    (hs : ∀ j y H, ys[j]? = some y → Pi j H → g1 y (wipe σ2 vs1) H fun σ3 H5 => wipe σ3 vs1 = wipe σ2 vs1 ∧ tt1 σ3 H5 fun b H6 =>
        if b = true then te σ3 H6 fun y H7 => ∃ acc, H7 D = some (.lst acc) ∧ acc.length < sizeLine ∧ Pi (j + 1) (upd H7 D (.lst (acc ++ [y]))) else Pi (j + 1) H6) (hd : ∀ H, Pi ys.length H → N H) : InE g1 tt1 te vs1 σ2 D N (Itl K r) H4 := by
  refine ⟨fun i m H => m = ys.length - i ∧ i ≤ ys.length ∧ Pi i H, ⟨ys.length, by simp, Nat.zero_le _, h0⟩, ?_⟩
  rintro i m H ⟨rfl, hi, p⟩
  have q := hl i H hi p
  by_cases hlt : i < ys.length
  · refine .inr ⟨⟨ys, ys[i], q, by simp [hlt]⟩, Pi (i + 1), fun H' p' => ⟨ys.length - (i + 1), by omega, rfl, hlt, p'⟩, fun x H' y => ?_⟩
    obtain ⟨e, y⟩ := y
    subst e
    exact hs i x _ (y ys q) p
  · have e : i = ys.length := by omega
    subst e
    exact .inl ⟨⟨ys, q, Nat.le_refl _⟩, hd H p⟩
def Lc2End (g : TG) (tt : TT) (wi1 : TI) (g1 : TG) (tt1 : TT) (te : TE) (vs vs1 : List Nat) (σ : L2.St) (Q : VK) (J : It) (H1 : Hp) : Prop := ∀ D, H1 D = none → ∃ W : Nat → Nat → Hp → Prop, (∃ m, W 0 m (upd H1 D (.lst []))) ∧ ∀ i m H, W i m H →
  (J.stop i H ∧ Q (.ref D) H) ∨ (J.go i H ∧ ∃ Nx : Hp → Prop, (∀ H', Nx H' → ∃ m', m' < m ∧ W (i + 1) m' H') ∧ ∀ x H', J.yld i H x H' → g x (wipe σ vs) H' fun σ2 H2 => wipe σ2 vs = wipe σ vs ∧ tt σ2 H2 fun b H3 =>
    if b = true then wi1 σ2 H3 (InE g1 tt1 te vs1 σ2 D Nx) else Nx H3)
theorem g_lc2 {σ : L2.St} {H : Hp} {Q : VK} {wi : TI} {g : TG} {tt : TT} {wi1 : TI} {g1 : TG} {tt1 : TT} {te : TE} {vs vs1 : List Nat} (h : wi σ H (Lc2End g tt wi1 g1 tt1 te vs vs1 σ Q)) : tLc2 wi g tt wi1 g1 tt1 te vs vs1 σ H Q := h
theorem w_lc2 {K : PySem.W.Frag} {σ : L2.St} {H : Hp} {Q : VK} {g : TG} {tt : TT} {wi1 : TI} {g1 : TG} {tt1 : TT} {te : TE} {vs vs1 : List Nat} {p : Addr} {xs : List V} (hp : SqL K H p xs) (Po : Addr → Nat → Hp → Prop)
    (h0 : ∀ D, H D = none → Po D 0 (upd H D (.lst []))) (hl : ∀ D i H', H D = none → i ≤ xs.length → Po D i H' → SqL K H' p xs)
    (hs : ∀ D i x H', H D = none → xs[i]? = some x → Po D i H' → g x (wipe σ vs) H' fun σ2 H2 => wipe σ2 vs = wipe σ vs ∧ tt σ2 H2 fun b H3 => if b = true then wi1 σ2 H3 (InE g1 tt1 te vs1 σ2 D (Po D (i + 1))) else Po D (i + 1) H3) (hd : ∀ D H', H D = none → Po D xs.length H' → Q (.ref D) H') :
    ∃ q, V.ref p = .ref q ∧ (∃ xs, SqL K H q xs) ∧ Lc2End g tt wi1 g1 tt1 te vs vs1 σ Q (Itl K q) H := by
  refine ⟨p, rfl, ⟨xs, hp⟩, fun D hD => ?_⟩
  refine ⟨fun i m H => m = xs.length - i ∧ i ≤ xs.length ∧ Po D i H, ⟨xs.length, by simp, Nat.zero_le _, h0 D hD⟩, ?_⟩
  rintro i m H' ⟨rfl, hi, po⟩
  have q := hl D i H' hD hi po
  by_cases hlt : i < xs.length
  · refine .inr ⟨⟨xs, xs[i], q, by simp [hlt]⟩, Po D (i + 1), fun H' p' => ⟨xs.length - (i + 1), by omega, rfl, hlt, p'⟩, fun x H' y => ?_⟩
    obtain ⟨e, y⟩ := y
    subst e
    exact hs D i x _ hD (y xs q) po
  · have e : i = xs.length := by omega
    subst e
    exact .inl ⟨⟨xs, q, Nat.le_refl _⟩, hd D H' hD po⟩
/-! ### rows -/
def lastN (r : List Nat) : Nat := (r[r.length - 1]?).getD 0
def headN (r : List Nat) : Nat := (r[0]?).getD 0
theorem lastN_at {r : List Nat} (h : r ≠ []) : r[r.length - 1]? = some (lastN r) := by
  have : r.length - 1 < r.length := by have := List.length_pos_iff.mpr h; omega
  unfold lastN
  rw [List.getElem?_eq_getElem this]; rfl
theorem headN_at {r : List Nat} (h : r ≠ []) : r[0]? = some (headN r) := by
  have : 0 < r.length := List.length_pos_iff.mpr h
  unfold headN
  rw [List.getElem?_eq_getElem this]; rfl
theorem lastN_snoc (r : List Nat) (p : Nat) : lastN (r ++ [p]) = p := by
  unfold lastN
  rw [List.length_append, List.length_singleton, Nat.add_sub_cancel, List.getElem?_append_right (Nat.le_refl _), Nat.sub_self]; rfl
theorem lastN_mem {r : List Nat} (h : r ≠ []) : lastN r ∈ r := List.mem_of_getElem? (lastN_at h)
theorem headN_mem {r : List Nat} (h : r ≠ []) : headN r ∈ r := List.mem_of_getElem? (headN_at h)
theorem lastN_ge {r : List Nat} (hp : r.Pairwise (· < ·)) {x : Nat} (hx : x ∈ r) : x ≤ lastN r := by
  obtain ⟨i, hi, rfl⟩ := List.mem_iff_getElem.mp hx
  have ne : r ≠ [] := fun z => by rw [z] at hi; exact absurd hi (Nat.not_lt_zero _)
  have hl := lastN_at ne
  have ll : r.length - 1 < r.length := by omega
  rw [List.getElem?_eq_getElem ll] at hl
  have hl' : r[r.length - 1] = lastN r := Option.some.inj hl
  by_cases c : i = r.length - 1
  · subst c; omega
  · have := List.pairwise_iff_getElem.mp hp i (r.length - 1) hi ll (by omega); omega
/-- rising places below N, so many -/
def Rw (N k : Nat) (r : List Nat) : Prop := r.length = k + 1 ∧ r.Pairwise (· < ·) ∧ ∀ x ∈ r, x < N
theorem Rw.ne {N k : Nat} {r : List Nat} (h : Rw N k r) : r ≠ [] := fun z => by have := h.1; rw [z] at this; cases this
theorem up_len : ∀ {r : List Nat} {a N : Nat}, r.Pairwise (· < ·) → (∀ x ∈ r, a ≤ x ∧ x < N) → a + r.length ≤ N ∨ r = []
  | [], _, _, _, _ => .inr rfl
  | x :: xs, a, N, p, h => by
    rw [List.pairwise_cons] at p
    have hx := h x List.mem_cons_self
    rcases up_len (a := x + 1) p.2 (fun y hy => ⟨p.1 y hy, (h y (List.mem_cons_of_mem _ hy)).2⟩) with q | q
    · left; rw [List.length_cons]; omega
    · left; rw [q]; show a + 1 ≤ N; omega
theorem Rw.le {N k : Nat} {r : List Nat} (h : Rw N k r) : k + 1 ≤ N := by
  rcases up_len (a := 0) h.2.1 (fun x hx => ⟨Nat.zero_le _, h.2.2 x hx⟩) with q | q
  · have := h.1; omega
  · exact absurd q h.ne
section
variable (lo hi : Int) (ws : List (Int × Int))
def closes (r : List Nat) : Bool := fit lo hi ws (headN r) (lastN r)
def growN (r : List Nat) : List (List Nat) := (nexts lo hi ws (lastN r)).map fun p => r ++ [p]
def stepR (rows : List (List Nat)) : List (List Nat) := rows.flatMap (growN lo hi ws)
def fw : Nat → List (List Nat) → Option (List Nat)
  | 0, _ => none
  | n + 1, rows => if rows = [] then none else match rows.find? (closes lo hi ws) with
    | some r => some r
    | none => fw n (stepR lo hi ws rows)
def row1 : List (List Nat) := (firsts lo hi ws).map fun p => [p]
def few : Option (List Nat) := fw lo hi ws (ws.length + 1) (row1 lo hi ws)
end
section
variable {lo hi : Int} {ws : List (Int × Int)}
theorem Rw.step {k p : Nat} {r : List Nat} (h : Rw ws.length k r) (hp : p ∈ nexts lo hi ws (lastN r)) : Rw ws.length (k + 1) (r ++ [p]) := by
  obtain ⟨h1, h2, _⟩ := next_mem.mp hp
  refine ⟨by rw [List.length_append, h.1]; rfl, List.pairwise_append.mpr ⟨h.2.1, List.pairwise_singleton _ _, fun a ha b hb => ?_⟩, fun x hx => ?_⟩
  · rw [List.mem_singleton] at hb
    have := lastN_ge h.2.1 ha
    omega
  · rw [List.mem_append, List.mem_singleton] at hx
    rcases hx with hx | rfl
    · exact h.2.2 x hx
    · exact h2
theorem step_rw {k : Nat} {rows : List (List Nat)} (h : ∀ r ∈ rows, Rw ws.length k r) : ∀ r ∈ stepR lo hi ws rows, Rw ws.length (k + 1) r := fun r hr => by
  unfold stepR growN at hr
  rw [List.mem_flatMap] at hr
  obtain ⟨r0, h0, hr⟩ := hr
  obtain ⟨p, hp, rfl⟩ := List.mem_map.mp hr
  exact (h r0 h0).step hp
theorem row1_rw : ∀ r ∈ row1 lo hi ws, Rw ws.length 0 r := fun r hr => by
  obtain ⟨p, hp, rfl⟩ := List.mem_map.mp hr
  exact ⟨rfl, List.pairwise_singleton _ _, fun x hx => by rw [List.mem_singleton] at hx; rw [hx]; exact (first_mem.mp hp).1⟩
/-! how many rows at the most -/
def wt (N : Nat) (rows : List (List Nat)) : Nat := (rows.map fun r => 2 ^ (N - 1 - lastN r)).sum
theorem len_wt (N : Nat) : ∀ rows : List (List Nat), rows.length ≤ wt N rows
  | [] => Nat.le_refl _
  | r :: rows => by
    have := len_wt N rows
    have p : 1 ≤ 2 ^ (N - 1 - lastN r) := Nat.one_le_two_pow
    unfold wt at this ⊢
    rw [List.map_cons, List.sum_cons, List.length_cons]
    omega
theorem sum_ups {N b : Nat} : ∀ n, b + n < N → ((ups (b + 1) n).map fun p => 2 ^ (N - 1 - p)).sum + 2 ^ (N - 1 - (b + n)) = 2 ^ (N - 1 - b)
  | 0, _ => by show 0 + _ = _; rw [Nat.zero_add, Nat.add_zero]
  | n + 1, h => by
    have ih := sum_ups (N := N) (b := b) n (by omega)
    show ((ups (b + 1) n ++ [b + 1 + n]).map fun p => 2 ^ (N - 1 - p)).sum + _ = _
    rw [List.map_append, List.sum_append, List.map_singleton, List.sum_singleton]
    have e : N - 1 - (b + n) = (N - 1 - (b + (n + 1))) + 1 := by omega
    have e2 : N - 1 - (b + 1 + n) = N - 1 - (b + (n + 1)) := by omega
    rw [e, Nat.pow_succ] at ih
    rw [e2]
    omega
theorem sum_filter (p : Nat → Bool) (g : Nat → Nat) : ∀ l : List Nat, ((l.filter p).map g).sum ≤ (l.map g).sum
  | [] => Nat.le_refl _
  | x :: xs => by
    have := sum_filter p g xs
    rw [List.filter_cons, List.map_cons, List.sum_cons]
    split
    · rw [List.map_cons, List.sum_cons]; omega
    · omega
theorem wt_grow {k : Nat} {r : List Nat} (h : Rw ws.length k r) : wt ws.length (growN lo hi ws r) ≤ 2 ^ (ws.length - 1 - lastN r) := by
  have hl := h.2.2 _ (lastN_mem h.ne)
  unfold wt growN nexts
  rw [List.map_map]
  have e : ((fun r => 2 ^ (ws.length - 1 - lastN r)) ∘ fun p => r ++ [p]) = fun p => 2 ^ (ws.length - 1 - p) := by
    funext p
    show 2 ^ (ws.length - 1 - lastN (r ++ [p])) = _
    rw [lastN_snoc]
  rw [e]
  refine Nat.le_trans (sum_filter _ _ _) ?_
  exact Nat.le.intro (sum_ups (N := ws.length) (b := lastN r) (ws.length - (lastN r + 1)) (by omega))
theorem wt_app (N : Nat) (a b : List (List Nat)) : wt N (a ++ b) = wt N a + wt N b := by unfold wt; rw [List.map_append, List.sum_append]
theorem wt_step {k : Nat} : ∀ {rows : List (List Nat)}, (∀ r ∈ rows, Rw ws.length k r) → wt ws.length (stepR lo hi ws rows) ≤ wt ws.length rows
  | [], _ => Nat.le_refl _
  | r :: rows, h => by
    have h1 := wt_grow (lo := lo) (hi := hi) (h r List.mem_cons_self)
    have h2 := wt_step (rows := rows) (fun y hy => h y (List.mem_cons_of_mem _ hy))
    have e : stepR lo hi ws (r :: rows) = growN lo hi ws r ++ stepR lo hi ws rows := rfl
    rw [e, wt_app]
    show _ ≤ ((r :: rows).map _).sum
    rw [List.map_cons, List.sum_cons]
    unfold wt at h2 ⊢
    unfold wt at h1
    omega
theorem wt_row1 : wt ws.length (row1 lo hi ws) ≤ 2 ^ ws.length := by
  unfold wt row1 firsts
  rw [List.map_map]
  have e : ((fun r => 2 ^ (ws.length - 1 - lastN r)) ∘ fun p => [p]) = fun p => 2 ^ (ws.length - 1 - p) := rfl
  rw [e]
  refine Nat.le_trans (sum_filter _ _ _) ?_
  have key : ∀ n, n ≤ ws.length → ((ups 0 n).map fun p => 2 ^ (ws.length - 1 - p)).sum + 2 ^ (ws.length - n) ≤ 2 ^ ws.length := by
    intro n
    induction n with
    | zero => intro _; show 0 + _ ≤ _; rw [Nat.zero_add, Nat.sub_zero]; exact Nat.le_refl _
    | succ n ih =>
      intro hn
      have ih := ih (by omega)
      show ((ups 0 n ++ [0 + n]).map fun p => 2 ^ (ws.length - 1 - p)).sum + _ ≤ _
      rw [List.map_append, List.sum_append, List.map_singleton, List.sum_singleton, Nat.zero_add]
      have e : ws.length - n = (ws.length - 1 - n) + 1 := by omega
      have e2 : ws.length - (n + 1) = ws.length - 1 - n := by omega
      rw [e, Nat.pow_succ] at ih
      rw [e2]
      omega
  exact Nat.le_trans (Nat.le_add_right _ _) (key ws.length (Nat.le_refl _))
theorem flat_part {α β : Type} (f : α → List β) {l : List α} {i : Nat} {x : α} (h : l[i]? = some x) : ((l.take i).flatMap f).length + (f x).length ≤ (l.flatMap f).length := by
  have e : l = l.take i ++ x :: l.drop (i + 1) := by
    obtain ⟨hl, hx⟩ := List.getElem?_eq_some_iff.mp h
    rw [← hx, List.getElem_cons_drop, List.take_append_drop]
  have e2 : l.flatMap f = (l.take i).flatMap f ++ (f x ++ (l.drop (i + 1)).flatMap f) := by
    conv => lhs; rw [e]
    rw [List.flatMap_append, List.flatMap_cons]
  rw [e2, List.length_append, List.length_append]
  omega
end
end K10R
namespace K10R
open PySem PySem.Spec PyProof.Rows L2 Wd K10
theorem atI_back {xs : List V} {v : V} (h : xs[xs.length - 1]? = some v) : atI xs (-1) = some v := by
  have hl := (List.getElem?_eq_some_iff.mp h).1
  unfold atI ixN
  rw [if_neg (by decide), if_pos (by omega)]
  have e : (-1 + (xs.length : Int)).toNat = xs.length - 1 := by omega
  rw [e]
  exact h
section
variable {P : Program} {w : World} {K : PySem.W.Frag} {mg : Str → Option Value} {base : Heap} {CN CR : Addr}
abbrev s_fewest : Stmt := top 35
theorem sc_fewest : FnScope ["window", "works", "ring", "rows", "first", "row", "place"] ["window", "works"] (C8.fnScope s_fewest) := C8.fnScope_by (by decide +kernel)
def sp_fewest (K : PySem.W.Frag) (CN : Addr) : Sp := fun vs H Q E => ∃ (W L : Addr) (lo hi : Int) (zs : List Wk), vs = [.ref W, .ref L] ∧ SqT K H W [.int lo, .int hi] ∧ okW lo hi ∧ WkL H L zs ∧ okZ zs ∧ zs ≠ [] ∧ zs.length ≤ 10 ∧
  (∀ r, few lo hi (zs.map (·.2)) = some r → ∀ H' D, Same H H' → H D = none → H' D = some (.lst (r.map nI)) → Q (.ref D) H') ∧ (few lo hi (zs.map (·.2)) = none → ∀ H', Same H H' → E (.ref CN) none H')
theorem ok_fewest (T : TxtW K mg CN) (TR : TxtR K CR) {f : Addr} {fd : FuncData} (D : C8.Def K mg "fewest" s_fewest f fd) (b : Binds K fd ["window", "works"] []) (g_Ring : C8.Mak P w K mg base 4 "Ring" CR (sp_init K CR) [])
    (m_first_places : C8.Met P w K mg base 2 CR "first_places" (sp_firsts K CR) []) (m_fits : C8.Met P w K mg base 2 CR "fits" (sp_fits K CR) []) (m_next_places : C8.Met P w K mg base 3 CR "next_places" (sp_nexts K CR) []) : CalX P w K mg base 6 "fewest" (sp_fewest K CN) := by
  refine calX D b sc_fewest (fun vs H Q E h => ?_) fun cdv A outer s H vs Q E hr h => ?_
  · obtain ⟨W, L, lo, hi, zs, rfl, _⟩ := h; rfl
  · obtain ⟨W, L, lo, hi, zs, rfl, hW, okw, wk, okz, ne, ln, q1, q2⟩ := h
    have nd := sc_fewest.nd
    refine ⟨_, (pss_cons (ps_set (i := 2) nd rfl (Or.inr rfl) (C8.pe_mk g_Ring hr (by first | decide | exact Nat.le_refl _ | omega) (by rfl) (pa_cons (pv 0) (pa_cons (pv 1) pa_nil))))
      (pss_cons (ps_setLc (i := 3) (own := [("first", 4)]) (g := gName 4) (tt := tYes) rfl nd rfl rfl (sw_true rfl rfl rfl (by decide +kernel)) (pi_list (C8.pe_mt0 m_first_places hr (by first | decide | exact Nat.le_refl _ | omega) (pv 2))) (blkOk_by (N := ["window", "works", "ring", "rows", "first", "row", "place"]) (sc := C8.fnScope s_fewest) (by decide +kernel)) (fun _ _ _ _ _ => pg_name (i := 4) nd rfl (Or.inl rfl)) (fun _ _ _ _ _ => pts_nil) (fun _ _ _ _ _ => (pe_lst (pa_cons (pv 4) pa_nil))))
      (pss_cons (ps_while (passes_of rfl) (pt_truth (pv 3) (by intro _; rfl)) (pss_cons (ps_for (passes_of rfl) rfl (pi_list (pv 3)) (pg_name (i := 5) nd rfl (Or.inl rfl)) (pss_one (ps_if (pt_val (C8.pe_mt m_fits hr (by first | decide | exact Nat.le_refl _ | omega) (pv 2) (pa_cons (pe_ix (r := rIxL K) ix_list (pv 5) pe_int (fun _ _ => rfl)) (pa_cons (pe_ix (r := rIxL K) ix_list (pv 5) (pe_un un_neg pe_int) (fun _ _ => rfl)) pa_nil)))) (pss_one (ps_ret (pv 5))) pss_nil)))
      (pss_one (ps_setLc2 (i := 3) (own := [("row", 5), ("place", 6)]) (g := gName 5) (tt := tYes) (wi1 := iList K _) (g1 := gName 6) (tt1 := tYes) (vs1 := [6]) rfl nd rfl rfl (sw_true rfl rfl rfl (by decide +kernel)) (pi_list (pv 3)) (blkOk_by (N := ["window", "works", "ring", "rows", "first", "row", "place"]) (sc := C8.fnScope s_fewest) (by decide +kernel)) (by decide) (fun _ _ _ _ _ => pg_name (i := 5) nd rfl (Or.inl rfl)) (fun _ _ _ _ _ => pts_nil) (fun _ _ _ _ _ => (pi_list (C8.pe_mt m_next_places hr (by first | decide | exact Nat.le_refl _ | omega) (pv 2) (pa_cons (pe_ix (r := rIxL K) ix_list (pv 5) (pe_un un_neg pe_int) (fun _ _ => rfl)) pa_nil)))) (fun _ _ _ _ _ => pg_name (i := 6) nd rfl (Or.inl rfl)) (fun _ _ _ _ _ => pts_nil) (fun _ _ _ _ _ => (pe_op op_cat (pv 5) (pe_lst (pa_cons (pv 6) pa_nil))))))))
      (pss_one (ps_raise rfl (takes_of rfl rfl rfl rfl) (pmk_own PySem.F.excBase_ValueError T.x_NoPats T.g_NoPats T.k_NoPats (raises_own T.b_NoPats T.t_NoPats) (by rfl))))))), ?_⟩
    walk_at "go"
    refine ⟨_, rfl, _, rfl, fun R dx hR hdx ndx => ?_⟩
    have s1 := same_new (o := .own R) hdx
    have hR1 : upd H dx (.own R) R = none := by rw [upd_ne ndx.symm]; exact hR
    have s2 := s1.trans (same_new (o := .ins CR dx []) hR1)
    refine ⟨R, dx, W, L, lo, hi, zs, rfl, upd_same, tup_same s2 hW, okw, wk.same s2, okz, ne, ln, fun H1 f1 eR => ⟨rfl, ?_⟩⟩
    have sH : Same H H1 := fun a o h => f1 a o (fun z => by rw [z, hR] at h; cases h) (s2 a o h)
    clear f1 s2 s1 hR1
    have wk1 := wk.same sH
    walk_at "go"
    refine ⟨_, rfl, R, dx, _, rfl, eR, rfl, ?_⟩
    walk_at "go"
    refine ⟨R, dx, L, lo, hi, zs, rfl, eR, wk1, ln, fun H2 Fp s2 hFp eFp => ?_⟩
    have sH2 := sH.trans s2
    have eR2 := s2 _ _ eR
    generalize hws : zs.map (·.2) = ws at eFp q1 q2
    have wl : ws.length = zs.length := by rw [← hws, List.length_map]
    have p2 : 2 ^ ws.length ≤ 1024 := Nat.pow_le_pow_right (by decide) (show ws.length ≤ 10 by omega)
    refine w_lcList (SqL.of eFp) (fun D i H' => Same H2 H' ∧ ∃ rs, RowsL H H' D rs ∧ rs.map (·.2) = ((firsts lo hi ws).take i).map (fun p => [p]) ∧ ∀ y ∈ rs, y.1 ≠ D) (fun D hD => ⟨same_new hD, [], ⟨upd_same, fun r hr => nomatch hr⟩, rfl, fun r hr => nomatch hr⟩) (fun D i H' hD _ h => SqL.of (h.1 _ _ eFp)) (fun D i y H' hD hy h => ?_) (fun RR H3 hRR h => ?_)
    · obtain ⟨p, hp, rfl⟩ := nI_at hy
      obtain ⟨s3, rs, rl, er, nr⟩ := h
      have il := (List.getElem?_eq_some_iff.mp hp).1
      have ll : rs.length = i := by
        have := congrArg List.length er
        rw [List.length_map, List.length_map, List.length_take] at this
        omega
      have fl : (firsts lo hi ws).length ≤ ws.length := by
        have := List.length_filter_le (fun p => tim lo hi (ws.take (p + 1))) (ups 0 ws.length)
        rw [ups_len] at this; exact this
      walk_at "go"
      refine ⟨rfl, ?_⟩
      walk_at "go"
      intro M hM
      have sM := same_new (o := .lst [nI p]) hM
      have rl' := rl.same sM
      have nMD : M ≠ D := (ne_of_none rl.at_ hM).symm
      refine ⟨_, rl'.at_, by rw [sizeLine_eq, List.length_map]; omega, Wd.Same.mut (s3.trans sM) hD, rs ++ [(M, [p])], rl'.put upd_same (Wd.Same.back (sH2.trans s3) hM) nMD nr, ?_, fun y hy => ?_⟩
      · rw [List.map_append, er, take_snocM _ hp]; rfl
      · rw [List.mem_append, List.mem_singleton] at hy
        rcases hy with hy | rfl
        · exact nr y hy
        · exact nMD
    obtain ⟨s3, rs, rl, er, _⟩ := h
    rw [List.length_map, List.take_length] at er
    have e1 : rs.map (·.2) = row1 lo hi ws := er
    have sH3 := sH2.trans s3
    have eR3 := s3 _ _ eR2
    clear er eFp s3 s2 eR eR2 wk1 sH sH2 hRR
    walk_at "go"
    refine w_loop (fun n σ H' => ∃ (RR : Addr) (rs : List (Addr × List Nat)) (v4 v5 v6 : Option V) (k : Nat), σ = [some (.ref W), some (.ref L), some (.ref R), some (.ref RR), v4, v5, v6] ∧ Same H H' ∧ H' R = some (.ins CR dx (ringF lo hi L)) ∧ RowsL H H' RR rs ∧ (∀ r ∈ rs, Rw ws.length k r.2) ∧ wt ws.length (rs.map (·.2)) ≤ 1024 ∧ fw lo hi ws n (rs.map (·.2)) = few lo hi ws ∧ k + n = ws.length + 1) (ws.length + 1) ?_ ?_
    · exact ⟨RR, rs, _, _, _, 0, rfl, sH3, eR3, rl, fun r hr => row1_rw r.2 (by rw [← e1]; exact List.mem_map.mpr ⟨r, hr, rfl⟩), by rw [e1]; exact Nat.le_trans wt_row1 p2, by rw [e1]; rfl, by omega⟩
    clear e1 rl sH3 eR3
    rintro n σ H4 ⟨RR, rs, v4, v5, v6, k, rfl, s4, eR4, rl, rw', wt', ef, kn⟩
    have wk4 := wk.same s4
    walk_at "go"
    match rs, rl, rw', wt', ef with
    | [], rl, rw', wt', ef =>
      refine ⟨false, .inl ⟨[], SqL.of rl.at_, rfl⟩, ?_⟩
      walk_at "go"
      have e0 : few lo hi ws = none := by
        rw [← ef]
        cases n with
        | zero => rfl
        | succ n => show (if ([] : List (List Nat)) = [] then none else _) = none; exact if_pos rfl
      exact q2 e0 _ s4
    | r0 :: rs0, rl, rw', wt', ef =>
      generalize hrs : r0 :: rs0 = rs at rl rw' wt' ef
      have ne' : rs ≠ [] := by rw [← hrs]; exact List.cons_ne_nil _ _
      have hk := (rw' r0 (by rw [← hrs]; exact List.mem_cons_self)).le
      match n, kn, ef with
      | 0, kn, _ => omega
      | n + 1, kn, ef =>
      have nm : rs.map (·.2) ≠ [] := fun z => ne' (List.map_eq_nil_iff.mp z)
      have lrs : rs.length ≤ 1024 := by have := len_wt ws.length (rs.map (·.2)); rw [List.length_map] at this; omega
      refine ⟨true, .inl ⟨_, SqL.of rl.at_, by rw [← hrs]; rfl⟩, ?_⟩
      refine L2.iteT ?_
      refine ⟨fun σ' H' => ∃ (RR : Addr) (rs : List (Addr × List Nat)) (v4 v5 v6 : Option V) (k : Nat), σ' = [some (.ref W), some (.ref L), some (.ref R), some (.ref RR), v4, v5, v6] ∧ Same H H' ∧ H' R = some (.ins CR dx (ringF lo hi L)) ∧ RowsL H H' RR rs ∧ (∀ r ∈ rs, Rw ws.length k r.2) ∧ wt ws.length (rs.map (·.2)) ≤ 1024 ∧ fw lo hi ws n (rs.map (·.2)) = few lo hi ws ∧ k + n = ws.length + 1, fun σ' H' h => ⟨n, Nat.lt_succ_self n, h⟩, ?_⟩
      walk_at "go"
      refine w_list (xs := rs.map fun r => V.ref r.1) (fun i σ H' => ∃ v5 : Option V, σ = [some (.ref W), some (.ref L), some (.ref R), some (.ref RR), v4, v5, v6] ∧ Same H4 H' ∧ ∀ j r, j < i → rs[j]? = some r → closes lo hi ws r.2 = false) ?_ ?_ ?_ ?_
      · exact ⟨_, rfl, fun _ _ h => h, fun j r hj => by omega⟩
      · rintro i σ H' _ ⟨v5, rfl, sm, _⟩
        exact SqL.of (sm _ _ rl.at_)
      · rintro i x σ H5 hx ⟨v5, rfl, sm, no⟩
        obtain ⟨r, hr', rfl⟩ := map_at2 hx
        have rm := List.mem_of_getElem? hr'
        have rr := rw' r rm
        have ro := rl.own r rm
        have er5 := sm _ _ ro.1
        have hne := rr.ne
        have lp : 0 < r.2.length := List.length_pos_iff.mpr hne
        have h1 := headN_at hne
        have h2 := lastN_at hne
        walk_at "go"
        refine ⟨_, rfl, R, dx, _, rfl, sm _ _ eR4, rfl, ?_⟩
        walk_at "go"
        refine g_ixL (SqL.of er5) (at_of (j := 0) (v := nI (headN r.2)) rfl (by rw [List.getElem?_map, h1]; rfl)) ?_
        walk_at "go"
        refine g_ixL (v := nI (lastN r.2)) (SqL.of er5) (atI_back (by rw [List.length_map, List.getElem?_map, h2]; rfl)) ?_
        walk_at "go"
        refine ⟨R, dx, L, lo, hi, zs, headN r.2, lastN r.2, rfl, sm _ _ eR4, wk4.same sm, ln, by rw [← wl]; exact rr.2.2 _ (headN_mem hne), by rw [← wl]; exact rr.2.2 _ (lastN_mem hne), fun H6 s6 => ?_⟩
        rw [hws]
        refine ⟨_, rfl, ?_⟩
        cases hc : fit lo hi ws (headN r.2) (lastN r.2) with
        | true =>
          walk_at "go"
          refine q1 r.2 ?_ _ r.1 ((s4.trans sm).trans s6) ro.2 (s6 _ _ er5)
          rw [← ef]
          unfold fw
          rw [if_neg nm]
          have hf : (rs.map (·.2)).find? (closes lo hi ws) = some r.2 := by
            rw [List.find?_eq_some_iff_getElem]
            refine ⟨hc, i, by rw [List.length_map]; exact (List.getElem?_eq_some_iff.mp hr').1, ?_, fun j hj => ?_⟩
            · rw [List.getElem_map]
              congr 1
              exact (List.getElem?_eq_some_iff.mp hr').2
            · rw [List.getElem_map]
              have jl : j < rs.length := by have := (List.getElem?_eq_some_iff.mp hr').1; omega
              have := no j rs[j] hj (List.getElem?_eq_getElem jl)
              rw [this]; rfl
          rw [hf]
        | false =>
          walk_at "go"
          refine ⟨_, rfl, sm.trans s6, fun j r2 hj hr2 => ?_⟩
          by_cases c : j < i
          · exact no j r2 c hr2
          · have : j = i := by omega
            subst this
            cases hr'.symm.trans hr2
            exact hc
      rintro σ H5 ⟨v5, rfl, sm, no⟩
      rw [List.length_map] at no
      have hf : (rs.map (·.2)).find? (closes lo hi ws) = none := by
        rw [List.find?_eq_none]
        intro x hx
        obtain ⟨r, hr', rfl⟩ := List.mem_map.mp hx
        obtain ⟨j, hj, rfl⟩ := List.mem_iff_getElem.mp hr'
        rw [no j rs[j] hj (List.getElem?_eq_getElem hj)]
        decide
      have ef' : fw lo hi ws n (stepR lo hi ws (rs.map (·.2))) = few lo hi ws := by
        rw [← ef]
        conv => rhs; unfold fw
        rw [if_neg nm, hf]
      have wst := wt_step (lo := lo) (hi := hi) (k := k) (rows := rs.map (·.2)) (fun r hr' => by obtain ⟨r2, h2, rfl⟩ := List.mem_map.mp hr'; exact rw' r2 h2)
      have lst := len_wt ws.length (stepR lo hi ws (rs.map (·.2)))
      have s5 := s4.trans sm
      have rl5 := rl.same sm
      have eR5 := sm _ _ eR4
      have wk5 := wk4.same sm
      clear ef hf no rl eR4 wk4
      walk_at "go"
      refine g_lc2 ?_
      walk_at "go"
      refine w_lc2 (SqL.of rl5.at_) (fun D i H' => Same H5 H' ∧ ∃ ys, RowsL H H' D ys ∧ ys.map (·.2) = ((rs.map (·.2)).take i).flatMap (growN lo hi ws) ∧ ∀ y ∈ ys, y.1 ≠ D) (fun D hD => ⟨same_new hD, [], ⟨upd_same, fun r hr => nomatch hr⟩, by rw [List.take_zero]; rfl, fun r hr => nomatch hr⟩) (fun D i H' hD _ h => SqL.of (h.1 _ _ rl5.at_)) (fun D i x H6 hD hx h => ?_) (fun RR2 H6 hRR2 h => ?_)
      · obtain ⟨r, hr', rfl⟩ := map_at2 hx
        obtain ⟨s6, ys, ry, ey, ny⟩ := h
        have rm := List.mem_of_getElem? hr'
        have rr := rw' r rm
        have ro := s6 _ _ (rl5.own r rm).1
        have h2 := lastN_at rr.ne
        have eR6 := s6 _ _ eR5
        have fp := flat_part (growN lo hi ws) (l := rs.map (·.2)) (i := i) (x := r.2) (by rw [List.getElem?_map, hr']; rfl)
        have gl : (growN lo hi ws r.2).length = (nexts lo hi ws (lastN r.2)).length := by unfold growN; rw [List.length_map]
        walk_at "go"
        refine ⟨rfl, ?_⟩
        walk_at "go"
        refine ⟨_, rfl, R, dx, _, rfl, eR6, rfl, ?_⟩
        walk_at "go"
        refine g_ixL (v := nI (lastN r.2)) (SqL.of ro) (atI_back (by rw [List.length_map, List.getElem?_map, h2]; rfl)) ?_
        walk_at "go"
        refine ⟨R, dx, L, lo, hi, zs, lastN r.2, rfl, eR6, wk5.same s6, ln, by rw [← wl]; exact rr.2.2 _ (lastN_mem rr.ne), fun H7 Nx s7 hNx eNx => ?_⟩
        rw [hws] at eNx
        refine ⟨Nx, rfl, ⟨_, SqL.of eNx⟩, ?_⟩
        refine inE_list (ys := (nexts lo hi ws (lastN r.2)).map nI) (fun j H' => Same H5 H' ∧ H' Nx = some (.lst ((nexts lo hi ws (lastN r.2)).map nI)) ∧ ∃ ys, RowsL H H' D ys ∧ ys.map (·.2) = ((rs.map (·.2)).take i).flatMap (growN lo hi ws) ++ ((nexts lo hi ws (lastN r.2)).take j).map (fun p => r.2 ++ [p]) ∧ ∀ y ∈ ys, y.1 ≠ D) ⟨s6.trans s7, eNx, ys, ry.same s7, by rw [List.take_zero, List.map_nil, List.append_nil]; exact ey, ny⟩ (fun j H' _ h => SqL.of h.2.1) (fun j y H8 hy h => ?_) (fun H8 h => ?_)
        · obtain ⟨p, hp, rfl⟩ := nI_at hy
          obtain ⟨s8, nx8, us, ru, eu, nu⟩ := h
          have jl := (List.getElem?_eq_some_iff.mp hp).1
          have lu : us.length ≤ 1024 := by
            have := congrArg List.length eu
            rw [List.length_map, List.length_append, List.length_map] at this
            have := List.length_take_le j (nexts lo hi ws (lastN r.2))
            show us.length ≤ 1024
            unfold stepR at lst wst
            omega
          walk_at "go"
          refine ⟨rfl, ?_⟩
          walk_at "go"
          intro M1 hM1
          have sM1 := same_new (o := .lst [nI p]) hM1
          have eM1 := upd_same (H := H8) (a := M1) (o := .lst [nI p])
          generalize upd H8 M1 (.lst [nI p]) = H9 at sM1 eM1
          have rl0 : r.2.length ≤ 1024 := by have := rr.1; have := rr.le; omega
          refine ⟨r.1, M1, _, _, rfl, rfl, sM1 _ _ (s8 _ _ (rl5.own r rm).1), eM1, by rw [sizeLine_eq, List.length_map, List.length_singleton]; omega, fun M hM => ?_⟩
          have sM := same_new (o := .lst (r.2.map nI ++ [nI p])) hM
          have ru9 := (ru.same sM1).same sM
          have sA := (s8.trans sM1).trans sM
          have nND : Nx ≠ D := fun z => by rw [z, ry.at_] at hNx; cases hNx
          have nMD : M ≠ D := (ne_of_none (ru.same sM1).at_ hM).symm
          refine ⟨_, ru9.at_, by rw [sizeLine_eq, List.length_map]; omega, Wd.Same.mut sA hD, by rw [upd_ne nND]; exact sM _ _ (sM1 _ _ nx8), us ++ [(M, r.2 ++ [p])], ru9.put (by rw [List.map_append]; exact upd_same) (Wd.Same.back (s5.trans (s8.trans sM1)) hM) nMD nu, ?_, fun y hy => ?_⟩
          · rw [List.map_append, eu, List.append_assoc, take_snocM _ hp]; rfl
          · rw [List.mem_append, List.mem_singleton] at hy
            rcases hy with hy | rfl
            · exact nu y hy
            · exact nMD
        · obtain ⟨s8, nx8, us, ru, eu, nu⟩ := h
          rw [List.length_map, List.take_length] at eu
          refine ⟨s8, us, ru, ?_, nu⟩
          rw [eu, List.take_add_one, List.getElem?_map, hr']
          show _ = ((rs.map (·.2)).take i ++ [r.2]).flatMap _
          rw [List.flatMap_append, List.flatMap_cons, List.flatMap_nil, List.append_nil]
          rfl
      · obtain ⟨s6, ys, ry, ey, ny⟩ := h
        rw [List.length_map, ← List.length_map (f := fun x : Addr × List Nat => x.2), List.take_length] at ey
        have ey' : ys.map (·.2) = stepR lo hi ws (rs.map (·.2)) := ey
        walk_at "go"
        exact ⟨RR2, ys, _, _, _, k + 1, rfl, s5.trans s6, s6 _ _ eR5, ry, fun y hy => step_rw (lo := lo) (hi := hi) (rows := rs.map (·.2)) (fun r hr' => by obtain ⟨r2, h2, rfl⟩ := List.mem_map.mp hr'; exact rw' r2 h2) y.2 (by rw [← ey']; exact List.mem_map.mpr ⟨y, hy, rfl⟩), by rw [ey']; omega, by rw [ey']; exact ef', by omega⟩
end
end K10R
namespace K10R
open PySem PySem.Spec PyProof.Rows L2 Wd K10
/-- works in a list, apart from the drawing's state -/
structure WkS (S : Addr) (H : Hp) (L : Addr) (zs : List Wk) : Prop where
  at_ : H L = some (.lst (zs.map fun z => V.ref z.1))
  nS : L ≠ S
  own : ∀ z ∈ zs, H z.1 = some (.tup [.int z.2.1, .int z.2.2]) ∧ z.1 ≠ S
theorem WkS.frm {S : Addr} {H H' : Hp} {L : Addr} {zs : List Wk} (t : WkS S H L zs) (f : Frm S H H') : WkS S H' L zs :=
  ⟨f _ _ t.nS t.at_, t.nS, fun z hz => ⟨f _ _ (t.own z hz).2 (t.own z hz).1, (t.own z hz).2⟩⟩
theorem WkS.wk {S : Addr} {H : Hp} {L : Addr} {zs : List Wk} (t : WkS S H L zs) : WkL H L zs := ⟨t.at_, fun z hz => (t.own z hz).1⟩
theorem WkS.put {S : Addr} {H : Hp} {L t : Addr} {a b : Int} {zs : List Wk} (w : WkS S H L zs) (h : H t = some (.tup [.int a, .int b])) (n : t ≠ S) : WkS S (upd H L (.lst ((zs.map fun z => V.ref z.1) ++ [.ref t]))) L (zs ++ [(t, a, b)]) := by
  refine ⟨by rw [upd_same, List.map_append]; rfl, w.nS, fun z hz => ?_⟩
  rw [List.mem_append, List.mem_singleton] at hz
  rcases hz with hz | rfl
  · exact ⟨by rw [upd_ne (ne_of (w.own z hz).1 w.at_ (fun z => nomatch z))]; exact (w.own z hz).1, (w.own z hz).2⟩
  · exact ⟨by rw [upd_ne (ne_of h w.at_ (fun z => nomatch z))]; exact h, n⟩
def okS (B : Int) (zs : List Wk) : Prop := ∀ z ∈ zs, 0 ≤ z.2.1 ∧ z.2.1 ≤ z.2.2 ∧ z.2.2 ≤ B
theorem okS_put {B a b : Int} {t : Addr} {zs : List Wk} (h : okS B zs) (h1 : 0 ≤ a) (h2 : a ≤ b) (h3 : b ≤ B) : okS B (zs ++ [(t, a, b)]) := fun z hz => by
  rw [List.mem_append, List.mem_singleton] at hz
  rcases hz with hz | rfl
  · exact h z hz
  · exact ⟨h1, h2, h3⟩
section
variable {P : Program} {w : World} {K : PySem.W.Frag} {mg : Str → Option Value} {base : Heap} {CN CR : Addr}
abbrev s_law_works : Stmt := top 55
theorem sc_law_works : FnScope ["_law_state", "_law_wide_here", "_law_found", "_law_k", "_law_least", "_law_times", "_law_most"] ["_law_state"] (C8.fnScope s_law_works) := C8.fnScope_by (by decide +kernel)
def sp_works (K : PySem.W.Frag) : Sp := fun vs H Q _ => ∃ (B : Hp) (S : Addr), vs = [.ref S] ∧ Dst K B H S ∧ ∀ H' L zs, Frm S H H' → Dst K B H' S → WkS S H' L zs → okZ zs → zs ≠ [] → zs.length ≤ 10 → Q (.ref L) H'
theorem ok_works (T : TxtW K mg CN) {f : Addr} {fd : FuncData} (D : C8.Def K mg "_law_works" s_law_works f fd) (b : Binds K fd ["_law_state"] []) (g_law_drawn : C8.Cal P w K mg base 1 "_law_drawn" (sp_drawn K) []) : C8.Cal P w K mg base 2 "_law_works" (sp_works K) [] := by
  refine C8.cal0 D b .nil sc_law_works (fun vs H Q E h => ?_) fun cdv A outer s H vs Q E hr h => ?_
  · obtain ⟨B, S, rfl, _⟩ := h; rfl
  · obtain ⟨B, S, rfl, d, q⟩ := h
    have nd := sc_law_works.nd
    refine ⟨_, (pss_cons (ps_set (i := 1) nd rfl (Or.inl rfl) (pe_ix (r := rIxL K) ix_list (pe_lst (pa_cons pe_int (pa_cons pe_int (pa_cons pe_int pa_nil)))) (C8.pe_c g_law_drawn hr (by first | decide | exact Nat.le_refl _ | omega) (by rfl) (pa_cons (pv 0) (pa_cons pe_int pa_nil))) (fun _ _ => rfl)))
      (pss_cons (ps_set (i := 2) nd rfl (Or.inl rfl) (pe_lst pa_nil))
      (pss_cons (ps_for PassesOwn.never rfl (pi_range1 rfl T.n_range (pa_cons (pe_op op_add pe_int (C8.pe_c g_law_drawn hr (by first | decide | exact Nat.le_refl _ | omega) (by rfl) (pa_cons (pv 0) (pa_cons (pe_ix (r := rIxL K) ix_list (pe_lst (pa_cons pe_int (pa_cons pe_int pa_nil))) (C8.pe_c g_law_drawn hr (by first | decide | exact Nat.le_refl _ | omega) (by rfl) (pa_cons (pv 0) (pa_cons pe_int pa_nil))) (fun _ _ => rfl)) pa_nil)))) pa_nil)) (pg_name (i := 3) nd rfl (Or.inl rfl)) (pss_cons (ps_set (i := 4) nd rfl (Or.inl rfl) (C8.pe_c g_law_drawn hr (by first | decide | exact Nat.le_refl _ | omega) (by rfl) (pa_cons (pv 0) (pa_cons pe_int pa_nil))))
      (pss_one (ps_expr (pe_bmK (K := K) rfl PySem.F.plainAttrs_list PySem.F.slot_list_append PySem.F.type_list_append mt_append (pv 2) (pa_cons (pe_tup (pa_cons (pv 4) (pa_cons (pe_op op_add (pv 4) (C8.pe_c g_law_drawn hr (by first | decide | exact Nat.le_refl _ | omega) (by rfl) (pa_cons (pv 0) (pa_cons (pv 1) pa_nil)))) pa_nil))) pa_nil))))))
      (pss_cons (ps_set (i := 5) nd rfl (Or.inr rfl) (pe_ix (r := rIxL K) ix_list (pe_lst (pa_cons pe_int (pa_cons pe_int (pa_cons pe_int (pa_cons pe_int pa_nil))))) (C8.pe_c g_law_drawn hr (by first | decide | exact Nat.le_refl _ | omega) (by rfl) (pa_cons (pv 0) (pa_cons pe_int pa_nil))) (fun _ _ => rfl)))
      (pss_one (ps_ret (pe_lc (own := [("_law_least", 4), ("_law_most", 6)]) (g := (gTup K 2 (gCons (gName 4) (gCons (gName 6) gNil)))) (tt := tYes) rfl nd (pi_list (pv 2)) (blkOk_by (N := ["_law_state", "_law_wide_here", "_law_found", "_law_k", "_law_least", "_law_times", "_law_most"]) (sc := C8.fnScope s_law_works) (by decide +kernel)) (fun _ _ _ _ _ => (pg_tup rfl (pgs_cons (pg_name (i := 4) nd rfl (Or.inl rfl)) (pgs_cons (pg_name (i := 6) nd rfl (Or.inl rfl)) pgs_nil)))) (fun _ _ _ _ _ => pts_nil) (fun _ _ _ _ _ => (pe_tup (pa_cons (pe_op op_mulW (pv 4) (pv 5)) (pa_cons (pe_op op_mulW (pv 6) (pv 5)) pa_nil))))))))))), ?_⟩
    walk_at "go"
    intro l1 hl1
    have d1 := d.same (same_new (o := .lst [.int 1, .int 3, .int 6]) hl1)
    walk_at "go"
    refine use_drawn (n := 3) d1 (by decide) (by decide) fun H2 a f2 d2 a0 a1 => ?_
    have e2 := f2 _ _ (d.ne hl1) upd_same
    obtain ⟨x, hx, hx2⟩ := atI_mem (xs := [.int 1, .int 3, .int 6]) a0 a1
    refine g_ixL (SqL.of e2) hx2 ?_
    obtain ⟨wd, rfl, w0, w1⟩ : ∃ z, x = V.int z ∧ 1 ≤ z ∧ z ≤ 6 := by
      simp only [List.mem_cons, List.not_mem_nil, or_false] at hx
      rcases hx with rfl | rfl | rfl <;> exact ⟨_, rfl, by decide, by decide⟩
    have f02 : Frm S H H2 := (Frm.new (o := .lst [.int 1, .int 3, .int 6]) hl1).trans f2
    clear e2 hx2 hx f2 d1
    walk_at "go"
    intro F hF
    have d3 := d2.same (same_new (o := .lst []) hF)
    have nF := d2.ne hF
    have bF := d2.fresh hF
    have f23 : Frm S H2 (upd H2 F (.lst [])) := .new hF
    have eF := upd_same (H := H2) (a := F) (o := .lst [])
    generalize upd H2 F (.lst []) = H3 at d3 f23 eF
    walk_at "go"
    intro l4 hl4
    have d4 := d3.same (same_new (o := .lst [.int 5, .int 10]) hl4)
    walk_at "go"
    refine use_drawn (n := 2) d4 (by decide) (by decide) fun H5 c f5 d5 c0 c1 => ?_
    have e5 := f5 _ _ (d3.ne hl4) upd_same
    obtain ⟨x, hx, hx2⟩ := atI_mem (xs := [.int 5, .int 10]) c0 c1
    refine g_ixL (SqL.of e5) hx2 ?_
    obtain ⟨mx, rfl, x0, x1⟩ : ∃ z, x = V.int z ∧ 1 ≤ z ∧ z ≤ 10 := by
      simp only [List.mem_cons, List.not_mem_nil, or_false] at hx
      rcases hx with rfl | rfl <;> exact ⟨_, rfl, by decide, by decide⟩
    have f35 : Frm S H3 H5 := (Frm.new (o := .lst [.int 5, .int 10]) hl4).trans f5
    clear e5 hx2 hx f5 d4
    walk_at "go"
    refine use_drawn d5 (by omega) (by omega) fun H6 n f6 d6 n0 n1 => ?_
    have f26 := (f23.trans f35).trans f6
    have eF6 := f6 _ _ nF (f35 _ _ nF eF)
    walk_at "go"
    refine w_range (by omega) (by omega) (fun i σ H' => ∃ (v3 v4 v5 v6 : Option V) (zs : List Wk), σ = [some (.ref S), some (.int wd), some (.ref F), v3, v4, v5, v6] ∧ Frm S H2 H' ∧ Dst K B H' S ∧ WkS S H' F zs ∧ okS 10 zs ∧ zs.length = i) ?_ ?_ ?_
    · exact ⟨_, _, _, _, [], rfl, f26, d6, ⟨eF6, nF, fun z hz => nomatch hz⟩, (fun z hz => nomatch hz), rfl⟩
    · clear eF6 f26 f6 d6 f35 d5 d3 f23 eF
      rintro i σ H7 hi ⟨v3, v4, v5, v6, zs, rfl, f7, d7, wk, ok, lz⟩
      walk_at "go"
      refine use_drawn (n := 6) d7 (by decide) (by decide) fun H8 le f8 d8 le0 le1 => ?_
      walk_at "go"
      have wk8 := wk.frm f8
      refine g_tyL wk8.at_ ?_
      walk_at "go"
      refine use_drawn d8 (by omega) (by omega) fun H9 y f9 d9 y0 y1 => ?_
      walk_at "go"
      intro t ht
      have st := same_new (o := .tup [.int le, .int (le + y)]) ht
      have wk9 := (wk8.frm f9).frm (.of st)
      walk_at "go"
      refine g_append wk9.at_ (by rw [List.length_map]; omega) ?_
      walk_at "go"
      exact ⟨_, _, _, _, zs ++ [(t, le, le + y)], rfl, Frm.mut (((f7.trans f8).trans f9).trans (.of st)) hF, (d9.same st).mut nF bF, wk9.put upd_same (d9.ne ht), okS_put ok le0 (by omega) (by omega), by rw [List.length_append, lz]; rfl⟩
    · clear eF6 f26 f6 d6 f35 d5 d3 f23 eF
      rintro σ H7 ⟨v3, v4, v5, v6, zs, rfl, f7, d7, wk, ok, lz⟩
      walk_at "go"
      intro l8 hl8
      have d8 := d7.same (same_new (o := .lst [.int 1, .int 1, .int 1, .int 100]) hl8)
      walk_at "go"
      refine use_drawn (n := 4) d8 (by decide) (by decide) fun H9 u f9 d9 u0 u1 => ?_
      have e9 := f9 _ _ (d7.ne hl8) upd_same
      obtain ⟨x, hx, hx2⟩ := atI_mem (xs := [.int 1, .int 1, .int 1, .int 100]) u0 u1
      refine g_ixL (SqL.of e9) hx2 ?_
      obtain ⟨tm, rfl, t0, t1⟩ : ∃ z, x = V.int z ∧ 1 ≤ z ∧ z ≤ 100 := by
        simp only [List.mem_cons, List.not_mem_nil, or_false] at hx
        rcases hx with rfl | rfl | rfl | rfl <;> exact ⟨_, rfl, by decide, by decide⟩
      have f79 : Frm S H7 H9 := (Frm.new (o := .lst [.int 1, .int 1, .int 1, .int 100]) hl8).trans f9
      have wk9 := wk.frm f79
      walk_at "go"
      refine w_lcList (SqL.of wk9.at_) (fun D i H' => Same H9 H' ∧ ∃ ys, WkS S H' D ys ∧ okS 1000 ys ∧ ys.length = i) (fun D hD => ⟨same_new hD, [], ⟨upd_same, d9.ne hD, fun z hz => nomatch hz⟩, (fun z hz => nomatch hz), rfl⟩) (fun D i H' hD _ h => SqL.of (h.1 _ _ wk9.at_)) (fun D i y H' hD hy h => ?_) (fun D H' hD h => ?_)
      · obtain ⟨z, hz, rfl⟩ := zs_at hy
        obtain ⟨s10, ys, wy, oy, ly⟩ := h
        have zm := List.mem_of_getElem? hz
        have il := (List.getElem?_eq_some_iff.mp hz).1
        obtain ⟨z0, z1, z2⟩ := ok z zm
        have m1 : 0 ≤ z.2.1 * tm := Int.mul_nonneg z0 (by omega)
        have m2 : z.2.1 * tm ≤ z.2.2 * tm := Int.mul_le_mul_of_nonneg_right z1 (by omega)
        have m3 : z.2.2 * tm ≤ 10 * tm := Int.mul_le_mul_of_nonneg_right z2 (by omega)
        walk_at "go"
        refine g_gtup (SqT.of (s10 _ _ (wk9.own z zm).1)) rfl ?_
        walk_at "go"
        refine ⟨rfl, ?_⟩
        walk_at "go"
        refine g_I (mulW_small (by omega) (by omega) (by omega) (by omega)) ?_
        walk_at "go"
        refine g_I (mulW_small (by omega) (by omega) (by omega) (by omega)) ?_
        walk_at "go"
        intro t ht
        have st := same_new (o := .tup [.int (z.2.1 * tm), .int (z.2.2 * tm)]) ht
        have wy2 := wy.frm (.of st)
        exact ⟨_, wy2.at_, by rw [sizeLine_eq, List.length_map]; omega, Wd.Same.mut (s10.trans st) hD, _, wy2.put upd_same ((d9.same s10).ne ht), okS_put oy m1 m2 (by omega), by rw [List.length_append, ly]; rfl⟩
      · obtain ⟨s10, ys, wy, oy, ly⟩ := h
        rw [List.length_map] at ly
        exact q H' D ys ((f02.trans f7).trans (f79.trans (.of s10))) (d9.same s10) wy oy (List.ne_nil_of_length_pos (by omega)) (by omega)

abbrev s_law_wide : Stmt := top 56
theorem sc_law_wide : FnScope ["_law_state", "_law_works_here", "_law_high", "_law_work"] ["_law_state", "_law_works_here"] (C8.fnScope s_law_wide) := C8.fnScope_by (by decide +kernel)
def sp_wide (K : PySem.W.Frag) : Sp := fun vs H Q _ => ∃ (B : Hp) (S L : Addr) (zs : List Wk), vs = [.ref S, .ref L] ∧ Dst K B H S ∧ WkS S H L zs ∧ okZ zs ∧ zs ≠ [] ∧ zs.length ≤ 10 ∧ ∀ H' W lo hi, Frm S H H' → Dst K B H' S → H' W = some (.tup [.int lo, .int hi]) → W ≠ S → okW lo hi → Q (.ref W) H'
theorem sum_le {B : Int} : ∀ {ns : List Int}, (∀ n ∈ ns, 0 ≤ n ∧ n ≤ B) → 0 ≤ ns.sum ∧ ns.sum ≤ ns.length * B
  | [], _ => ⟨Int.le_refl _, by simp⟩
  | n :: ns, h => by
    have h1 := h n List.mem_cons_self
    have h2 := sum_le (ns := ns) fun y hy => h y (List.mem_cons_of_mem _ hy)
    rw [List.sum_cons, List.length_cons]
    have e : (((ns.length + 1 : Nat) : Int)) * B = ns.length * B + B := by rw [Int.natCast_add, Int.add_mul]; simp
    rw [e]
    omega
theorem ok_wide (T : TxtW K mg CN) {f : Addr} {fd : FuncData} (D : C8.Def K mg "_law_wide" s_law_wide f fd) (b : Binds K fd ["_law_state", "_law_works_here"] []) (g_law_drawn : C8.Cal P w K mg base 1 "_law_drawn" (sp_drawn K) []) : C8.Cal P w K mg base 2 "_law_wide" (sp_wide K) [] := by
  refine C8.cal0 D b .nil sc_law_wide (fun vs H Q E h => ?_) fun cdv A outer s H vs Q E hr h => ?_
  · obtain ⟨B, S, L, zs, rfl, _⟩ := h; rfl
  · obtain ⟨B, S, L, zs, rfl, d, wk, ok, ne, ln, q⟩ := h
    have nd := sc_law_wide.nd
    have lp : 0 < zs.length := List.length_pos_iff.mpr ne
    have all : ∀ n ∈ zs.map (fun z : Wk => z.2.2), 0 ≤ n ∧ n ≤ 1000 := fun n hn => by
      obtain ⟨z, hz, rfl⟩ := List.mem_map.mp hn
      have := ok z hz; omega
    have sl := sum_le all
    rw [List.length_map] at sl
    refine ⟨_, (pss_cons (ps_set (i := 2) nd rfl (Or.inl rfl) (pe_op op_add (pe_callB (r := rMax K) (cr_max rfl) (by rfl) T.n_max (by decide +kernel) (pa_cons (pe_lc (own := [("_law_work", 3)]) (g := gName 3) (tt := tYes) rfl nd (pi_list (pv 1)) (blkOk_by (N := ["_law_state", "_law_works_here", "_law_high", "_law_work"]) (sc := C8.fnScope s_law_wide) (by decide +kernel)) (fun _ _ _ _ _ => pg_name (i := 3) nd rfl (Or.inl rfl)) (fun _ _ _ _ _ => pts_nil) (fun _ _ _ _ _ => (pe_ix (r := rIxT K) ix_tup (pv 3) pe_int (fun _ _ => rfl)))) pa_nil)) (C8.pe_c g_law_drawn hr (by first | decide | exact Nat.le_refl _ | omega) (by rfl) (pa_cons (pv 0) (pa_cons (pe_op op_add (pe_callB (r := rSum K) (cr_sum rfl) (by rfl) T.n_sum (by decide +kernel) (pa_cons (pe_lc (own := [("_law_work", 3)]) (g := gName 3) (tt := tYes) rfl nd (pi_list (pv 1)) (blkOk_by (N := ["_law_state", "_law_works_here", "_law_high", "_law_work"]) (sc := C8.fnScope s_law_wide) (by decide +kernel)) (fun _ _ _ _ _ => pg_name (i := 3) nd rfl (Or.inl rfl)) (fun _ _ _ _ _ => pts_nil) (fun _ _ _ _ _ => (pe_ix (r := rIxT K) ix_tup (pv 3) pe_int (fun _ _ => rfl)))) pa_nil)) pe_int) pa_nil)))))
      (pss_cons (ps_set (i := 2) nd rfl (Or.inl rfl) (pe_callB (call_min1 rfl) (by rfl) T.n_min (by decide +kernel) (pa_cons pe_int (pa_cons (pv 2) pa_nil))))
      (pss_one (ps_ret (pe_tup (pa_cons (pe_ix (r := rIxL K) ix_list (pe_lst (pa_cons pe_int (pa_cons (C8.pe_c g_law_drawn hr (by first | decide | exact Nat.le_refl _ | omega) (by rfl) (pa_cons (pv 0) (pa_cons (pe_op op_add (pv 2) pe_int) pa_nil))) (pa_cons (C8.pe_c g_law_drawn hr (by first | decide | exact Nat.le_refl _ | omega) (by rfl) (pa_cons (pv 0) (pa_cons (pe_op op_add (pe_op op_fdivW (pv 2) pe_int) pe_int) pa_nil))) pa_nil)))) (C8.pe_c g_law_drawn hr (by first | decide | exact Nat.le_refl _ | omega) (by rfl) (pa_cons (pv 0) (pa_cons pe_int pa_nil))) (fun _ _ => rfl)) (pa_cons (pv 2) pa_nil))))))), ?_⟩
    walk_at "go"
    refine w_lcList (SqL.of wk.at_) (fun D i H' => Same H H' ∧ H' D = some (.lst (((zs.take i).map fun z => z.2.2).map V.int))) (fun D hD => ⟨same_new hD, upd_same⟩) (fun D i H' hD _ h => SqL.of (h.1 _ _ wk.at_)) (fun D i y H' hD hy h => ?_) (fun D1 H1 hD1 h => ?_)
    · obtain ⟨z, hz, rfl⟩ := zs_at hy
      walk_at "go"
      refine ⟨rfl, ?_⟩
      walk_at "go"
      refine g_ixT (SqT.of (h.1 _ _ (wk.own z (List.mem_of_getElem? hz)).1)) rfl ?_
      exact ⟨_, h.2, by rw [sizeLine_eq, List.length_map, List.length_map]; have := List.length_take_le i zs; have := (List.getElem?_eq_some_iff.mp hz).1; omega, Wd.Same.mut h.1 hD, by rw [upd_same, take_snocM _ hz, List.map_append]; rfl⟩
    obtain ⟨s1, e1⟩ := h
    rw [List.length_map, List.take_length] at e1
    walk_at "go"
    refine ⟨D1, _, rfl, SqL.of e1, by rw [List.length_map]; exact lp, fun mx hmx _ => ?_⟩
    have mb := all mx hmx
    have wk1 := wk.frm (.of s1)
    walk_at "go"
    refine w_lcList (SqL.of wk1.at_) (fun D i H' => Same H1 H' ∧ H' D = some (.lst (((zs.take i).map fun z => z.2.2).map V.int))) (fun D hD => ⟨same_new hD, upd_same⟩) (fun D i H' hD _ h => SqL.of (h.1 _ _ wk1.at_)) (fun D i y H' hD hy h => ?_) (fun D2 H2 hD2 h => ?_)
    · obtain ⟨z, hz, rfl⟩ := zs_at hy
      walk_at "go"
      refine ⟨rfl, ?_⟩
      walk_at "go"
      refine g_ixT (SqT.of (h.1 _ _ (wk1.own z (List.mem_of_getElem? hz)).1)) rfl ?_
      exact ⟨_, h.2, by rw [sizeLine_eq, List.length_map, List.length_map]; have := List.length_take_le i zs; have := (List.getElem?_eq_some_iff.mp hz).1; omega, Wd.Same.mut h.1 hD, by rw [upd_same, take_snocM _ hz, List.map_append]; rfl⟩
    obtain ⟨s2, e2⟩ := h
    rw [List.length_map, List.take_length] at e2
    have d2 := (d.same s1).same s2
    walk_at "go"
    refine g_sum (SqL.of e2) ?_
    walk_at "go"
    generalize (zs.map fun z => z.2.2).sum = sm at sl ⊢
    refine use_drawn d2 (by omega) (by omega) fun H3 y f3 d3 y0 y1 => ?_
    walk_at "go"
    generalize hhi : (if mx + y < 1000 then mx + y else 1000) = hi
    have hi0 : 0 ≤ hi ∧ hi ≤ 1000 := by rw [← hhi]; split <;> omega
    have f03 : Frm S H H3 := (Frm.of (s1.trans s2)).trans f3
    walk_at "go"
    refine use_drawn d3 (by omega) (by omega) fun H4 a f4 d4 a0 a1 => ?_
    walk_at "go"
    refine g_I (divW_small (by decide) (by decide)) ?_
    walk_at "go"
    refine use_drawn d4 (by omega) (by omega) fun H5 c f5 d5 c0 c1 => ?_
    walk_at "go"
    intro l hl
    have d6 := d5.same (same_new (o := .lst [.int 0, .int a, .int c]) hl)
    walk_at "go"
    refine use_drawn (n := 3) d6 (by decide) (by decide) fun H7 v f7 d7 v0 v1 => ?_
    have h7 := f7 _ _ (d5.ne hl) upd_same
    obtain ⟨x, hx, hx2⟩ := atI_mem (xs := [.int 0, .int a, .int c]) v0 v1
    refine g_ixL (SqL.of h7) hx2 ?_
    obtain ⟨lo, rfl, lo0, lo1⟩ : ∃ z, x = V.int z ∧ 0 ≤ z ∧ z ≤ hi := by
      simp only [List.mem_cons, List.not_mem_nil, or_false] at hx
      rcases hx with rfl | rfl | rfl
      · exact ⟨_, rfl, by omega, by omega⟩
      · exact ⟨_, rfl, by omega, by omega⟩
      · exact ⟨_, rfl, by omega, by omega⟩
    walk_at "go"
    intro t ht
    exact q _ t lo hi (((((f03.trans f4).trans f5).trans (.new hl)).trans f7).trans (.new ht)) (d7.same (same_new ht)) upd_same (d7.ne ht) ⟨lo0, lo1, hi0.2⟩
end
end K10R
namespace K10R
open PySem PySem.Spec PyProof.Rows L2 Wd K10
/-! ### the order of rows -/
abbrev toI (r : List Nat) : List Int := r.map fun (n : Nat) => (n : Int)
def lx (a b : List Nat) : Prop := toI a < toI b
theorem lex_tri : ∀ (a b : List Int), ¬ a < b → ¬ b < a → a = b
  | [], [], _, _ => rfl
  | [], y :: ys, h, _ => absurd (List.Lex.nil : List.Lex (· < ·) [] (y :: ys)) h
  | x :: xs, [], _, h => absurd (List.Lex.nil : List.Lex (· < ·) [] (x :: xs)) h
  | x :: xs, y :: ys, h1, h2 => by
    by_cases c1 : x < y
    · exact absurd (List.Lex.rel c1 : List.Lex (· < ·) (x :: xs) (y :: ys)) h1
    · by_cases c2 : y < x
      · exact absurd (List.Lex.rel c2 : List.Lex (· < ·) (y :: ys) (x :: xs)) h2
      · have e : x = y := by omega
        subst e
        rw [lex_tri xs ys (fun z => h1 (List.Lex.cons z)) (fun z => h2 (List.Lex.cons z))]
theorem lex_asym : ∀ {a b : List Int}, a < b → ¬ b < a
  | _, _, .nil, h => by cases h
  | _, _, .cons h, h2 => by
    cases h2 with
    | cons h3 => exact lex_asym h h3
    | rel h3 => omega
  | _, _, .rel h, h2 => by
    cases h2 with
    | cons h3 => omega
    | rel h3 => omega
theorem lex_irr (a : List Int) : ¬ a < a := fun h => lex_asym h h
theorem lex_app : ∀ {a b : List Int}, a < b → a.length = b.length → ∀ c d : List Int, a ++ c < b ++ d
  | _, _, .nil, e, _, _ => by cases e
  | _, _, .cons h, e, c, d => List.Lex.cons (lex_app h (Nat.succ.inj e) c d)
  | _, _, .rel h, _, _, _ => List.Lex.rel h
theorem lex_pre2 : ∀ (a : List Int) {c d : List Int}, c < d → a ++ c < a ++ d
  | [], _, _, h => h
  | x :: a, _, _, h => List.Lex.cons (lex_pre2 a h)
theorem toI_inj : ∀ {a b : List Nat}, toI a = toI b → a = b
  | [], [], _ => rfl
  | [], _ :: _, h => by simp at h
  | _ :: _, [], h => by simp at h
  | x :: a, y :: b, h => by
    have h1 : (x : Int) :: toI a = (y : Int) :: toI b := h
    have h' := List.cons.inj h1
    have := toI_inj h'.2
    have e : x = y := by have := h'.1; omega
    rw [e, this]
section
variable (lo hi : Int) (ws : List (Int × Int))
def atN (r : List Nat) (k : Nat) : Nat := (r[k]?).getD 0
def pathB (r : List Nat) : Bool := tim lo hi (ws.take (headN r + 1)) && (List.range (r.length - 1)).all fun i => fit lo hi ws (atN r (i + 1)) (atN r i)
def prevN (r : List Nat) (k : Nat) : Nat := if k = 0 then lastN r else atN r (k - 1)
def goodB (r : List Nat) : Bool := !r.isEmpty && (tim lo hi (ws.take (headN r + 1)) && (List.range r.length).all fun k => fit lo hi ws (atN r k) (prevN r k))
def rowsK : Nat → List (List Nat)
  | 0 => row1 lo hi ws
  | k + 1 => stepR lo hi ws (rowsK k)
def subsN : Nat → List (List Nat)
  | 0 => [[]]
  | n + 1 => subsN n ++ (subsN n).map fun r => r ++ [n]
end
theorem subs_len : ∀ n, (subsN n).length = 2 ^ n
  | 0 => rfl
  | n + 1 => by
    show (subsN n ++ (subsN n).map fun r => r ++ [n]).length = _
    rw [List.length_append, List.length_map, subs_len n, Nat.pow_succ]
    omega
theorem snoc_of {r : List Nat} (h : r ≠ []) : r = r.dropLast ++ [lastN r] := by
  have e := List.dropLast_concat_getLast h
  have : r.getLast h = lastN r := by
    have := lastN_at h
    rw [List.getElem?_eq_getElem (by have := List.length_pos_iff.mpr h; omega)] at this
    rw [List.getLast_eq_getElem]
    exact Option.some.inj this
  rw [this] at e
  exact e.symm
theorem pw_snoc {r : List Nat} {p : Nat} (h : (r ++ [p]).Pairwise (· < ·)) : r.Pairwise (· < ·) ∧ ∀ x ∈ r, x < p := by
  obtain ⟨h1, _, h3⟩ := List.pairwise_append.mp h
  exact ⟨h1, fun x hx => h3 x hx p (List.mem_singleton.mpr rfl)⟩
theorem subs_mem : ∀ {n : Nat} {r : List Nat}, r ∈ subsN n ↔ r.Pairwise (· < ·) ∧ ∀ x ∈ r, x < n
  | 0, r => by
    show r ∈ [[]] ↔ _
    rw [List.mem_singleton]
    constructor
    · rintro rfl; exact ⟨List.Pairwise.nil, fun x hx => nomatch hx⟩
    · rintro ⟨_, h⟩
      cases r with
      | nil => rfl
      | cons x xs => exact absurd (h x List.mem_cons_self) (Nat.not_lt_zero _)
  | n + 1, r => by
    show r ∈ subsN n ++ (subsN n).map (fun r => r ++ [n]) ↔ _
    rw [List.mem_append, subs_mem, List.mem_map]
    constructor
    · rintro (⟨h1, h2⟩ | ⟨r', h, rfl⟩)
      · exact ⟨h1, fun x hx => Nat.lt_succ_of_lt (h2 x hx)⟩
      · obtain ⟨h1, h2⟩ := subs_mem.mp h
        refine ⟨List.pairwise_append.mpr ⟨h1, List.pairwise_singleton _ _, fun a ha b hb => by rw [List.mem_singleton] at hb; rw [hb]; exact h2 a ha⟩, fun x hx => ?_⟩
        rw [List.mem_append, List.mem_singleton] at hx
        rcases hx with hx | rfl
        · exact Nat.lt_succ_of_lt (h2 x hx)
        · exact Nat.lt_succ_self _
    · rintro ⟨h1, h2⟩
      by_cases hn : n ∈ r
      · right
        have ne : r ≠ [] := fun z => by rw [z] at hn; cases hn
        have e := snoc_of ne
        rw [e] at h1
        obtain ⟨p1, p2⟩ := pw_snoc h1
        have lm := h2 _ (lastN_mem ne)
        have ln : lastN r = n := by
          have hn' := hn
          rw [e, List.mem_append, List.mem_singleton] at hn'
          rcases hn' with hn' | hn'
          · have := p2 n hn'; omega
          · exact hn'.symm
        refine ⟨r.dropLast, subs_mem.mpr ⟨p1, fun x hx => by have := p2 x hx; omega⟩, ?_⟩
        rw [← ln]; exact e.symm
      · left
        exact ⟨h1, fun x hx => by have := h2 x hx; have : x ≠ n := fun z => hn (z ▸ hx); omega⟩
section
variable {lo hi : Int} {ws : List (Int × Int)}
theorem headN_snoc {r : List Nat} (h : r ≠ []) (p : Nat) : headN (r ++ [p]) = headN r := by
  unfold headN
  rw [List.getElem?_append_left (List.length_pos_iff.mpr h)]
theorem atN_left {r : List Nat} {p k : Nat} (h : k < r.length) : atN (r ++ [p]) k = atN r k := by
  unfold atN
  rw [List.getElem?_append_left h]
theorem atN_last {r : List Nat} {p : Nat} : atN (r ++ [p]) r.length = p := by
  unfold atN
  rw [List.getElem?_append_right (Nat.le_refl _), Nat.sub_self]; rfl
theorem path_snoc {r : List Nat} (h : r ≠ []) (p : Nat) : pathB lo hi ws (r ++ [p]) = (pathB lo hi ws r && fit lo hi ws p (lastN r)) := by
  have lp := List.length_pos_iff.mpr h
  unfold pathB
  rw [headN_snoc h, List.length_append, List.length_singleton, Nat.add_sub_cancel]
  have e : r.length = (r.length - 1) + 1 := by omega
  conv => lhs; rw [e, List.range_succ, List.all_append]
  have e1 : ((List.range (r.length - 1)).all fun i => fit lo hi ws (atN (r ++ [p]) (i + 1)) (atN (r ++ [p]) i)) = (List.range (r.length - 1)).all fun i => fit lo hi ws (atN r (i + 1)) (atN r i) := by
    rw [Bool.eq_iff_iff, List.all_eq_true, List.all_eq_true]
    constructor
    · intro h1 i hi'
      have := h1 i hi'
      rw [List.mem_range] at hi'
      rw [atN_left (by omega), atN_left (by omega)] at this
      exact this
    · intro h1 i hi'
      have := h1 i hi'
      rw [List.mem_range] at hi'
      rw [atN_left (by omega), atN_left (by omega)]
      exact this
  have e2 : ([r.length - 1].all fun i => fit lo hi ws (atN (r ++ [p]) (i + 1)) (atN (r ++ [p]) i)) = fit lo hi ws p (lastN r) := by
    rw [List.all_cons, List.all_nil, Bool.and_true, ← e, atN_last, atN_left (by omega)]
    rfl
  rw [e1, e2, Bool.and_assoc]
theorem good_iff {r : List Nat} (h : r ≠ []) : goodB lo hi ws r = (pathB lo hi ws r && closes lo hi ws r) := by
  have lp := List.length_pos_iff.mpr h
  have e : r.length = (r.length - 1) + 1 := by omega
  unfold goodB pathB
  have em : r.isEmpty = false := by
    cases r with
    | nil => exact absurd rfl h
    | cons _ _ => rfl
  rw [em]
  conv => lhs; rw [e, List.range_succ_eq_map, List.all_cons, List.all_map]
  have e1 : fit lo hi ws (atN r 0) (prevN r 0) = closes lo hi ws r := rfl
  have e2 : ((List.range (r.length - 1)).all ((fun k => fit lo hi ws (atN r k) (prevN r k)) ∘ Nat.succ)) = (List.range (r.length - 1)).all fun i => fit lo hi ws (atN r (i + 1)) (atN r i) := rfl
  rw [e1, e2, Bool.not_false, Bool.true_and, Bool.and_comm (closes lo hi ws r), ← Bool.and_assoc]
theorem rows_mem : ∀ {k : Nat} {r : List Nat}, r ∈ rowsK lo hi ws k ↔ Rw ws.length k r ∧ pathB lo hi ws r = true
  | 0, r => by
    show r ∈ row1 lo hi ws ↔ _
    constructor
    · intro h
      refine ⟨row1_rw r h, ?_⟩
      obtain ⟨p, hp, rfl⟩ := List.mem_map.mp h
      have := (first_mem.mp hp).2
      show (tim lo hi (ws.take (p + 1)) && true) = true
      rw [this]; rfl
    · rintro ⟨h1, h2⟩
      match r, h1, h2 with
      | [p], h1, h2 =>
        have h2' : (tim lo hi (ws.take (p + 1)) && true) = true := h2
        rw [Bool.and_true] at h2'
        exact List.mem_map.mpr ⟨p, first_mem.mpr ⟨h1.2.2 p (List.mem_singleton.mpr rfl), h2'⟩, rfl⟩
      | [], h1, _ => cases h1.1
      | _ :: _ :: _, h1, _ => have := h1.1; simp at this
  | k + 1, r => by
    show r ∈ stepR lo hi ws (rowsK lo hi ws k) ↔ _
    unfold stepR growN
    rw [List.mem_flatMap]
    constructor
    · rintro ⟨r0, h0, hr⟩
      obtain ⟨p, hp, rfl⟩ := List.mem_map.mp hr
      obtain ⟨w0, p0⟩ := rows_mem.mp h0
      refine ⟨w0.step hp, ?_⟩
      rw [path_snoc w0.ne, p0, (next_mem.mp hp).2.2]; rfl
    · rintro ⟨h1, h2⟩
      have e := snoc_of h1.ne
      have hl : r.dropLast.length = k + 1 := by rw [List.length_dropLast, h1.1]; rfl
      have ne : r.dropLast ≠ [] := fun z => by rw [z] at hl; cases hl
      have pw := h1.2.1
      rw [e] at pw
      obtain ⟨p1, p2⟩ := pw_snoc pw
      rw [e, path_snoc ne, Bool.and_eq_true] at h2
      have hm : ∀ x ∈ r.dropLast, x < ws.length := fun x hx => h1.2.2 x (List.dropLast_subset r hx)
      refine ⟨r.dropLast, rows_mem.mpr ⟨⟨hl, p1, hm⟩, h2.1⟩, List.mem_map.mpr ⟨lastN r, next_mem.mpr ⟨p2 _ (lastN_mem ne), h1.2.2 _ (lastN_mem h1.ne), h2.2⟩, e.symm⟩⟩
theorem rows_pw : ∀ k, (rowsK lo hi ws k).Pairwise lx
  | 0 => by
    show (row1 lo hi ws).Pairwise lx
    unfold row1 firsts
    rw [List.pairwise_map]
    refine ((ups_pw 0 ws.length).filter _).imp fun {a b} h => ?_
    exact (List.Lex.rel (show (a : Int) < (b : Int) by omega) : List.Lex (· < ·) [(a : Int)] [(b : Int)])
  | k + 1 => by
    show (stepR lo hi ws (rowsK lo hi ws k)).Pairwise lx
    unfold stepR
    rw [List.pairwise_flatMap]
    refine ⟨fun r hr => ?_, ?_⟩
    · unfold growN nexts
      rw [List.pairwise_map]
      refine ((ups_pw _ _).filter _).imp fun {a b} h => ?_
      unfold lx toI
      rw [List.map_append, List.map_append]
      exact lex_pre2 _ (List.Lex.rel (show (a : Int) < (b : Int) by omega))
    · refine List.Pairwise.imp_of_mem (fun {a b} ha hb h x hx y hy => ?_) (rows_pw k)
      obtain ⟨p, _, rfl⟩ := List.mem_map.mp hx
      obtain ⟨q, _, rfl⟩ := List.mem_map.mp hy
      unfold lx toI
      rw [List.map_append, List.map_append]
      exact lex_app h (by rw [List.length_map, List.length_map, (rows_mem.mp ha).1.1, (rows_mem.mp hb).1.1]) _ _
theorem rows_far {k : Nat} (h : ws.length ≤ k) : rowsK lo hi ws k = [] := by
  cases e : rowsK lo hi ws k with
  | nil => rfl
  | cons r rs =>
    have := (rows_mem.mp (show r ∈ rowsK lo hi ws k by rw [e]; exact List.mem_cons_self)).1.le
    omega
theorem rows_stay {k : Nat} (h : rowsK lo hi ws k = []) : ∀ j, rowsK lo hi ws (k + j) = []
  | 0 => h
  | j + 1 => by
    show stepR lo hi ws (rowsK lo hi ws (k + j)) = []
    rw [rows_stay h j]; rfl
theorem fw_some : ∀ {n k : Nat} {r : List Nat}, k + n = ws.length + 1 → fw lo hi ws n (rowsK lo hi ws k) = some r → ∃ j, k ≤ j ∧ r ∈ rowsK lo hi ws j ∧ closes lo hi ws r = true ∧ (∀ i, k ≤ i → i < j → ∀ r' ∈ rowsK lo hi ws i, closes lo hi ws r' = false) ∧ ∀ r' ∈ rowsK lo hi ws j, closes lo hi ws r' = true → ¬ lx r' r
  | 0, k, r, _, h => by cases h
  | n + 1, k, r, hk, h => by
    unfold fw at h
    by_cases c : rowsK lo hi ws k = []
    · rw [if_pos c] at h; cases h
    rw [if_neg c] at h
    cases hf : (rowsK lo hi ws k).find? (closes lo hi ws) with
    | some r0 =>
      rw [hf] at h
      cases h
      obtain ⟨hc, as, bs, hl, hno⟩ := List.find?_eq_some_iff_append.mp hf
      refine ⟨k, Nat.le_refl _, by rw [hl]; exact List.mem_append_right _ List.mem_cons_self, hc, fun i h1 h2 => by omega, fun r' hr' hc' => ?_⟩
      have pw := rows_pw (lo := lo) (hi := hi) (ws := ws) k
      rw [hl] at hr' pw
      rw [List.mem_append, List.mem_cons] at hr'
      rcases hr' with hr' | rfl | hr'
      · have := hno r' hr'; rw [hc'] at this; cases this
      · exact lex_irr _
      · have p2 := (List.pairwise_cons.mp (List.pairwise_append.mp pw).2.1).1 r' hr'
        exact lex_asym p2
    | none =>
      rw [hf] at h
      obtain ⟨j, h1, h2, h3, h4, h5⟩ := fw_some (n := n) (k := k + 1) (by omega) h
      refine ⟨j, by omega, h2, h3, fun i hi1 hi2 r' hr' => ?_, h5⟩
      by_cases e : i = k
      · subst e
        have := List.find?_eq_none.mp hf r' hr'
        cases hc : closes lo hi ws r' with
        | true => exact absurd hc this
        | false => rfl
      · exact h4 i (by omega) hi2 r' hr'
theorem fw_none : ∀ {n k : Nat}, k + n = ws.length + 1 → fw lo hi ws n (rowsK lo hi ws k) = none → ∀ j, k ≤ j → ∀ r ∈ rowsK lo hi ws j, closes lo hi ws r = false
  | 0, k, hk, _ => fun j hj r hr => by rw [rows_far (show ws.length ≤ j by omega)] at hr; cases hr
  | n + 1, k, hk, h => fun j hj r hr => by
    unfold fw at h
    by_cases c : rowsK lo hi ws k = []
    · have := rows_stay c (j - k)
      rw [show k + (j - k) = j by omega] at this
      rw [this] at hr; cases hr
    rw [if_neg c] at h
    cases hf : (rowsK lo hi ws k).find? (closes lo hi ws) with
    | some r0 => rw [hf] at h; cases h
    | none =>
      rw [hf] at h
      by_cases e : j = k
      · subst e
        have := List.find?_eq_none.mp hf r hr
        cases hc : closes lo hi ws r with
        | true => exact absurd hc this
        | false => rfl
      · exact fw_none (n := n) (k := k + 1) (by omega) h j (by omega) r hr
/-- less, by length and then as lists ascend -/
def before (a b : List Nat) : Prop := a.length < b.length ∨ (a.length = b.length ∧ lx a b)
theorem good_ne {r : List Nat} (h : goodB lo hi ws r = true) : r ≠ [] := fun z => by rw [z] at h; cases h
theorem good_row {r : List Nat} (h : goodB lo hi ws r = true) (hs : r ∈ subsN ws.length) : r ∈ rowsK lo hi ws (r.length - 1) ∧ closes lo hi ws r = true := by
  have ne := good_ne h
  have lp := List.length_pos_iff.mpr ne
  rw [good_iff ne, Bool.and_eq_true] at h
  obtain ⟨h1, h2⟩ := subs_mem.mp hs
  exact ⟨rows_mem.mpr ⟨⟨by omega, h1, h2⟩, h.1⟩, h.2⟩
theorem few_some {r : List Nat} (h : few lo hi ws = some r) : goodB lo hi ws r = true ∧ r ∈ subsN ws.length ∧ ∀ r' ∈ subsN ws.length, goodB lo hi ws r' = true → ¬ before r' r := by
  obtain ⟨j, _, h2, h3, h4, h5⟩ := fw_some (n := ws.length + 1) (k := 0) (Nat.zero_add _) h
  obtain ⟨w1, p1⟩ := rows_mem.mp h2
  refine ⟨by rw [good_iff w1.ne, p1, h3]; rfl, subs_mem.mpr ⟨w1.2.1, w1.2.2⟩, fun r' hs hg => ?_⟩
  obtain ⟨m1, c1⟩ := good_row hg hs
  have lp := List.length_pos_iff.mpr (good_ne hg)
  have l1 := w1.1
  rintro (hb | ⟨hb, hb2⟩)
  · have := h4 (r'.length - 1) (Nat.zero_le _) (by omega) r' m1
    rw [c1] at this; cases this
  · have e : r'.length - 1 = j := by omega
    rw [e] at m1
    exact h5 r' m1 c1 hb2
theorem few_none (h : few lo hi ws = none) : ∀ r ∈ subsN ws.length, goodB lo hi ws r = false := fun r hs => by
  cases hg : goodB lo hi ws r with
  | false => rfl
  | true =>
    obtain ⟨m1, c1⟩ := good_row hg hs
    have := fw_none (n := ws.length + 1) (k := 0) (Nat.zero_add _) h _ (Nat.zero_le _) r m1
    rw [c1] at this; cases this
theorem few_is {r0 : List Nat} (hg : goodB lo hi ws r0 = true) (hs : r0 ∈ subsN ws.length) (hm : ∀ r' ∈ subsN ws.length, goodB lo hi ws r' = true → ¬ before r' r0) : few lo hi ws = some r0 := by
  cases e : few lo hi ws with
  | none => rw [few_none e r0 hs] at hg; cases hg
  | some r =>
    obtain ⟨g1, s1, m1⟩ := few_some e
    have b1 := m1 r0 hs hg
    have b2 := hm r s1 g1
    have le : r.length = r0.length := by
      by_cases c1 : r.length < r0.length
      · exact absurd (.inl c1) b2
      · by_cases c2 : r0.length < r.length
        · exact absurd (.inl c2) b1
        · omega
    congr 1
    exact toI_inj (lex_tri _ _ (fun z => b2 (.inr ⟨le, z⟩)) (fun z => b1 (.inr ⟨le.symm, z⟩)))
end
end K10R
namespace K10R
open PySem PySem.Spec PyProof.Rows L2 Wd K10
section
variable {P : Program} {w : World} {K : PySem.W.Frag} {mg : Str → Option Value} {base : Heap} {CW : Addr}
/-- the classes of the refusals, at their places -/
structure Refs (K : PySem.W.Frag) (mg : Str → Option Value) (CD : Addr) (cs : List Addr) : Prop where
  n_isinstance : mg "isinstance" = none
  n_ValueError : mg "ValueError" = none
  g_DogError : mg "DogError" = some (.ref CD)
  g_BadWindow : ∃ C, cs[0]? = some C ∧ mg "BadWindow" = some (.ref C)
  g_BadPlan : ∃ C, cs[1]? = some C ∧ mg "BadPlan" = some (.ref C)
  g_BadDelays : ∃ C, cs[2]? = some C ∧ mg "BadDelays" = some (.ref C)
  g_BadWorks : ∃ C, cs[3]? = some C ∧ mg "BadWorks" = some (.ref C)
  g_NoPats : ∃ C, cs[4]? = some C ∧ mg "NoPats" = some (.ref C)
  g_NoPlace : ∃ C, cs[5]? = some C ∧ mg "NoPlace" = some (.ref C)
  g_BadTasks : ∃ C, cs[6]? = some C ∧ mg "BadTasks" = some (.ref C)
  g_BadBeat : ∃ C, cs[7]? = some C ∧ mg "BadBeat" = some (.ref C)
  g_TooMuch : ∃ C, cs[8]? = some C ∧ mg "TooMuch" = some (.ref C)
/-- a refusal without a dict of its own, of the i-th class: an error of DogError's, a ValueError, and of none of the others -/
structure IsRef (K : PySem.W.Frag) (CD : Addr) (cs : List Addr) (i : Nat) (C : Addr) : Prop where
  cls : cs[i]? = some C
  exc : ExcC K C
  dog : PySem.W.exmOne K (.ref C) (.ref CD) = some true
  val : PySem.W.kitOne K (.ref C) (.type "ValueError") = some true
  own : ∀ (j : Nat) (C' : Addr), cs[j]? = some C' → PySem.W.kitOne K (.ref C) (.ref C') = some (decide (i = j))
def kindW : List Str := ["BadWindow", "BadPlan", "BadDelays", "BadWorks", "NoPats", "NoPlace", "BadTasks", "BadBeat", "TooMuch"]
/-- what is wished of an exception: a refusal, whose word is told -/
def EKind (K : PySem.W.Frag) (CD : Addr) (cs : List Addr) (Q : VK) : XK := fun cls d H => ∃ (i : Nat) (C : Addr) (x : Str), cls = .ref C ∧ d = none ∧ IsRef K CD cs i C ∧ kindW[i]? = some x ∧ ∀ H', Same H H' → Q (.str x) H'
def TKind (K : PySem.W.Frag) (CD : Addr) (cs : List Addr) : (XK → Hp → VK → Prop) → Hp → VK → Prop := fun tl H Q => tl (EKind K CD cs Q) H Q
abbrev s_law_kind : Stmt := top 54
theorem sc_law_kind : FnScope ["_law_work", "e", "_law_kinds", "_law_words"] ["_law_work"] (C8.fnScope s_law_kind) := C8.fnScope_by (by decide +kernel)
theorem kind_gives {X : Cx} {g CD : Addr} {cs : List Addr} {cdg : Value} {q : Str} (T : Refs X.K X.mg CD cs) :
    LamX.GivesTo X ["_law_work", "e", "_law_kinds", "_law_words"] "_law_kind" (C8.fnScope s_law_kind) g cdg (C8.fnBody s_law_kind) "_law_work" q (TKind X.K CD cs) := by
  intro f c' s H Q tl act hc h
  have nd := sc_law_kind.nd
  obtain ⟨C0, e0, m0⟩ := T.g_BadWindow
  obtain ⟨C1, e1, m1⟩ := T.g_BadPlan
  obtain ⟨C2, e2, m2⟩ := T.g_BadDelays
  obtain ⟨C3, e3, m3⟩ := T.g_BadWorks
  obtain ⟨C4, e4, m4⟩ := T.g_NoPats
  obtain ⟨C5, e5, m5⟩ := T.g_NoPlace
  obtain ⟨C6, e6, m6⟩ := T.g_BadTasks
  obtain ⟨C7, e7, m7⟩ := T.g_BadBeat
  obtain ⟨C8', e8, m8⟩ := T.g_TooMuch
  refine ⟨_, pss_one (ps_try_as (X := (cxOf C8.CX0 X.prog X.w X.K X.mg X.base ["_law_work", "e", "_law_kinds", "_law_words"] "_law_kind" (C8.fnScope s_law_kind) g cdg X.A X.stack s H C8.E0).nox) (c := .ref CD) (i := 1)
      (tb := fun W D σ H => ∃ Ech : XK, (∀ cls d σ' H', Ech cls d H' → σ'.length = 4 → W cls d σ' H') ∧ σ[0]? = some (some (.ref f)) ∧ H c' = some (LamX.CodeO c' q) ∧ tl Ech H D.rt) (Wout := fun _ _ _ _ => False)
      rfl rfl nd rfl rfl ⟨rfl, by decide, .inl T.g_DogError⟩ LamX.takes0 (fun W pn xe tk _ => ?_) (fun a oe cls d pn hz hf => (pss_cons (ps_set (i := 2) nd rfl (Or.inl rfl) (pe_lst (pa_cons (pe_callB (r := rIsE2 X.K cls d a) (call_isE2 hz hf) (by rfl) T.n_isinstance (by decide +kernel) (pa_cons (pv 1) (pa_cons (pe_glob (v := .ref C0) rfl m0 rfl) pa_nil))) (pa_cons (pe_callB (r := rIsE2 X.K cls d a) (call_isE2 hz hf) (by rfl) T.n_isinstance (by decide +kernel) (pa_cons (pv 1) (pa_cons (pe_glob (v := .ref C1) rfl m1 rfl) pa_nil))) (pa_cons (pe_callB (r := rIsE2 X.K cls d a) (call_isE2 hz hf) (by rfl) T.n_isinstance (by decide +kernel) (pa_cons (pv 1) (pa_cons (pe_glob (v := .ref C2) rfl m2 rfl) pa_nil))) (pa_cons (pe_callB (r := rIsE2 X.K cls d a) (call_isE2 hz hf) (by rfl) T.n_isinstance (by decide +kernel) (pa_cons (pv 1) (pa_cons (pe_glob (v := .ref C3) rfl m3 rfl) pa_nil))) pa_nil))))))
      (pss_cons (ps_set (i := 2) nd rfl (Or.inl rfl) (pe_op op_cat (pv 2) (pe_lst (pa_cons (pe_callB (r := rIsE2 X.K cls d a) (call_isE2 hz hf) (by rfl) T.n_isinstance (by decide +kernel) (pa_cons (pv 1) (pa_cons (pe_glob (v := .ref C4) rfl m4 rfl) pa_nil))) (pa_cons (pe_callB (r := rIsE2 X.K cls d a) (call_isE2 hz hf) (by rfl) T.n_isinstance (by decide +kernel) (pa_cons (pv 1) (pa_cons (pe_glob (v := .ref C5) rfl m5 rfl) pa_nil))) (pa_cons (pe_callB (r := rIsE2 X.K cls d a) (call_isE2 hz hf) (by rfl) T.n_isinstance (by decide +kernel) (pa_cons (pv 1) (pa_cons (pe_glob (v := .ref C6) rfl m6 rfl) pa_nil))) (pa_cons (pe_callB (r := rIsE2 X.K cls d a) (call_isE2 hz hf) (by rfl) T.n_isinstance (by decide +kernel) (pa_cons (pv 1) (pa_cons (pe_glob (v := .ref C7) rfl m7 rfl) pa_nil))) pa_nil)))))))
      (pss_cons (ps_expr (pe_bmK (K := X.K) rfl PySem.F.plainAttrs_list PySem.F.slot_list_append PySem.F.type_list_append mt_append (pv 2) (pa_cons (pe_callB (r := rIsE2 X.K cls d a) (call_isE2 hz hf) (by rfl) T.n_isinstance (by decide +kernel) (pa_cons (pv 1) (pa_cons (pe_glob (v := .ref C8') rfl m8 rfl) pa_nil))) pa_nil)))
      (pss_cons (ps_set (i := 3) nd rfl (Or.inl rfl) (pe_lst (pa_cons pe_str (pa_cons pe_str (pa_cons pe_str (pa_cons pe_str (pa_cons pe_str (pa_cons pe_str (pa_cons pe_str (pa_cons pe_str (pa_cons pe_str pa_nil)))))))))))
      (pss_cons (ps_if (PW.pt (pw_or (pt_cmpR op_ne (pe_bmK (K := X.K) rfl PySem.F.plainAttrs_list PySem.F.slot_list_count PySem.F.type_list_count (r := rCntV X.K) mt_lcountV (pv 2) (pa_cons pe_bl pa_nil)) pe_int (nomark _)) (pw_or1 (pt_not (pt_val (pe_callB (r := rIsE2 X.K cls d a) (call_isE2 hz hf) (by rfl) T.n_isinstance (by decide +kernel) (pa_cons (pv 1) (pa_cons (pe_bltn (v := .ty "ValueError") (by rfl) T.n_ValueError (by decide +kernel) rfl) pa_nil)))))))) (pss_one (ps_ret pe_str)) pss_nil)
      (pss_one (ps_ret (pe_ix (r := rIxL X.K) ix_list (pv 3) (pe_bmK (K := X.K) rfl PySem.F.plainAttrs_list PySem.F.slot_list_index PySem.F.type_list_index (r := rIndex X.K) mt_index (pv 2) (pa_cons pe_bl pa_nil)) (fun _ _ => rfl))))))))))), ?_⟩
  · refine ⟨fun pins s' σ H' D I h' => ?_⟩
    obtain ⟨Ech, hW, h1, h2, h3⟩ := h'
    exact (pss_one (ps_ret (act _ pn xe Ech _ _ (takes_len tk) hW))).run pins s' σ H' D I ⟨h1, h2, h3⟩
  · refine ⟨EKind X.K CD cs Q, fun cls d σ' H' hE hlen => ?_, rfl, hc, h⟩
    obtain ⟨i, C, x, rfl, rfl, R, hx, k⟩ := hE
    obtain ⟨v0, v1, v2, v3, rfl⟩ : ∃ v0 v1 v2 v3, σ' = [v0, v1, v2, v3] := by
      match σ', hlen with
      | [v0, v1, v2, v3], _ => exact ⟨v0, v1, v2, v3, rfl⟩
    refine ⟨true, R.dog, fun _ a ha => ?_, fun q => nomatch q⟩
    show tSeq _ _ _ _ _
    have isC : ∀ (j : Nat) (C' : Addr) (H : Hp) (Q : VK), cs[j]? = some C' → Q (.bl (decide (i = j))) H → rIsE2 X.K (.ref C) none a [.ref a, .ref C'] H Q := fun j C' H Q e q => ⟨C, .ref C', .ref C', _, rfl, rfl, R.exc, rfl, fun u r => r, R.own j C' e, q⟩
    walk_at "go"
    refine isC 0 _ _ _ e0 ?_
    walk_at "go"
    refine isC 1 _ _ _ e1 ?_
    walk_at "go"
    refine isC 2 _ _ _ e2 ?_
    walk_at "go"
    refine isC 3 _ _ _ e3 ?_
    walk_at "go"
    intro l1 hl1
    walk_at "go"
    refine isC 4 _ _ _ e4 ?_
    walk_at "go"
    refine isC 5 _ _ _ e5 ?_
    walk_at "go"
    refine isC 6 _ _ _ e6 ?_
    walk_at "go"
    refine isC 7 _ _ _ e7 ?_
    walk_at "go"
    intro l2 hl2
    have n12 : l1 ≠ l2 := fun e => by rw [← e, upd_same] at hl2; cases hl2
    walk_at "go"
    refine ⟨l1, l2, _, _, rfl, rfl, by rw [upd_ne n12, upd_same], upd_same, (by show 8 ≤ sizeLine; decide), fun l3 hl3 => ?_⟩
    walk_at "go"
    refine g_tyL upd_same ?_
    walk_at "go"
    refine isC 8 _ _ _ e8 ?_
    walk_at "go"
    refine g_append upd_same (by show 8 < 100000; decide) ?_
    walk_at "go"
    intro l4 hl4
    have n34 : l3 ≠ l4 := fun e => by rw [← e, upd_same] at hl4; cases hl4
    have S5 := ((((same_new (o := .lst [V.bl (decide (i = 0)), V.bl (decide (i = 1)), V.bl (decide (i = 2)), V.bl (decide (i = 3))]) hl1).trans (same_new (o := .lst [V.bl (decide (i = 4)), V.bl (decide (i = 5)), V.bl (decide (i = 6)), V.bl (decide (i = 7))]) hl2)).trans
      (Same.mut (same_new (o := .lst ([V.bl (decide (i = 0)), V.bl (decide (i = 1)), V.bl (decide (i = 2)), V.bl (decide (i = 3))] ++ [V.bl (decide (i = 4)), V.bl (decide (i = 5)), V.bl (decide (i = 6)), V.bl (decide (i = 7))])) hl3)
        (o := .lst ([V.bl (decide (i = 0)), V.bl (decide (i = 1)), V.bl (decide (i = 2)), V.bl (decide (i = 3))] ++ [V.bl (decide (i = 4)), V.bl (decide (i = 5)), V.bl (decide (i = 6)), V.bl (decide (i = 7))] ++ [V.bl (decide (i = 8))])) hl3)).trans (same_new (o := .lst (kindW.map V.str)) hl4))
    have S6 := same_new (o := .lst (kindW.map V.str)) hl4
    have a3 := S6 l3 _ upd_same
    have a4 : upd _ l4 (.lst (kindW.map V.str)) l4 = some (.lst (kindW.map V.str)) := upd_same (H := upd (upd (upd (upd H' l1 (.lst [V.bl (decide (i = 0)), V.bl (decide (i = 1)), V.bl (decide (i = 2)), V.bl (decide (i = 3))])) l2 (.lst [V.bl (decide (i = 4)), V.bl (decide (i = 5)), V.bl (decide (i = 6)), V.bl (decide (i = 7))])) l3
      (.lst ([V.bl (decide (i = 0)), V.bl (decide (i = 1)), V.bl (decide (i = 2)), V.bl (decide (i = 3))] ++ [V.bl (decide (i = 4)), V.bl (decide (i = 5)), V.bl (decide (i = 6)), V.bl (decide (i = 7))]))) l3
        (.lst ([V.bl (decide (i = 0)), V.bl (decide (i = 1)), V.bl (decide (i = 2)), V.bl (decide (i = 3))] ++ [V.bl (decide (i = 4)), V.bl (decide (i = 5)), V.bl (decide (i = 6)), V.bl (decide (i = 7))] ++ [V.bl (decide (i = 8))])))
    have hi : i < 9 := (List.getElem?_eq_some_iff.mp hx).1
    have c9 : i = 0 ∨ i = 1 ∨ i = 2 ∨ i = 3 ∨ i = 4 ∨ i = 5 ∨ i = 6 ∨ i = 7 ∨ i = 8 := by omega
    -- of the nine answers one is True, at i
    have fA : ([V.bl (decide (i = 0)), V.bl (decide (i = 1)), V.bl (decide (i = 2)), V.bl (decide (i = 3))] ++ [V.bl (decide (i = 4)), V.bl (decide (i = 5)), V.bl (decide (i = 6)), V.bl (decide (i = 7))] ++ [V.bl (decide (i = 8))]).all flatV = true := rfl
    have nA : ([V.bl (decide (i = 0)), V.bl (decide (i = 1)), V.bl (decide (i = 2)), V.bl (decide (i = 3))] ++ [V.bl (decide (i = 4)), V.bl (decide (i = 5)), V.bl (decide (i = 6)), V.bl (decide (i = 7))] ++ [V.bl (decide (i = 8))]).countP (fun z => eqV z (.bl true)) = 1 := by
      rcases c9 with rfl | rfl | rfl | rfl | rfl | rfl | rfl | rfl | rfl <;> rfl
    have iA : ([V.bl (decide (i = 0)), V.bl (decide (i = 1)), V.bl (decide (i = 2)), V.bl (decide (i = 3))] ++ [V.bl (decide (i = 4)), V.bl (decide (i = 5)), V.bl (decide (i = 6)), V.bl (decide (i = 7))] ++ [V.bl (decide (i = 8))])[i]? = some (V.bl true) := by
      rcases c9 with rfl | rfl | rfl | rfl | rfl | rfl | rfl | rfl | rfl <;> rfl
    have mA : ∀ (m : Nat) (z' : V), m < i → ([V.bl (decide (i = 0)), V.bl (decide (i = 1)), V.bl (decide (i = 2)), V.bl (decide (i = 3))] ++ [V.bl (decide (i = 4)), V.bl (decide (i = 5)), V.bl (decide (i = 6)), V.bl (decide (i = 7))] ++ [V.bl (decide (i = 8))])[m]? = some z' → eqV z' (.bl true) = false := by
      intro m z' hm e
      have c8 : m = 0 ∨ m = 1 ∨ m = 2 ∨ m = 3 ∨ m = 4 ∨ m = 5 ∨ m = 6 ∨ m = 7 := by omega
      rcases c8 with rfl | rfl | rfl | rfl | rfl | rfl | rfl | rfl <;> (cases (Option.some.inj e); rw [decide_eq_false (by omega)]; rfl)
    generalize ([V.bl (decide (i = 0)), V.bl (decide (i = 1)), V.bl (decide (i = 2)), V.bl (decide (i = 3))] ++ [V.bl (decide (i = 4)), V.bl (decide (i = 5)), V.bl (decide (i = 6)), V.bl (decide (i = 7))] ++ [V.bl (decide (i = 8))]) = A at S5 S6 a3 a4 fA nA iA mA ⊢
    walk_at "go"
    refine g_tyL a3 ?_
    walk_at "go"
    refine ⟨l3, A, .bl true, rfl, rfl, SqL.of a3, rfl, fA, ?_⟩
    rw [nA]
    walk_at "go"
    refine ⟨C, .ty "ValueError", .type "ValueError", true, rfl, rfl, R.exc, rfl, fun u r => r, R.val, ?_⟩
    walk_at "go"
    refine g_tyL a3 ?_
    walk_at "go"
    refine ⟨l3, A, .bl true, i, .bl true, rfl, rfl, SqL.of a3, rfl, fA, iA, rfl, mA, ?_⟩
    refine g_ixL (v := .str x) (SqL.of a4) (at_of (j := i) rfl (by rw [List.getElem?_map, hx]; rfl)) ?_
    exact k _ S5
end
end K10R
namespace K10R
open PySem PySem.Spec PyProof.Rows L2 Wd K10
/-! ### a row of works and pats: what it makes of gaps -/
/-- works from the i-th on, a pat behind each of these places -/
def pw (r : List Nat) : Nat → List (Int × Int) → List Pl
  | _, [] => []
  | i, z :: zs => .work z.1 z.2 :: ((if i ∈ r then [.pat] else []) ++ pw r (i + 1) zs)
def okI (ws : List (Int × Int)) : Prop := ∀ z ∈ ws, 0 ≤ z.1 ∧ z.1 ≤ z.2 ∧ z.2 ≤ 1000
theorem okI.hd {z : Int × Int} {zs : List (Int × Int)} (h : okI (z :: zs)) : 0 ≤ z.1 ∧ z.1 ≤ z.2 ∧ z.2 ≤ 1000 := h z List.mem_cons_self
theorem okI.tl {z : Int × Int} {zs : List (Int × Int)} (h : okI (z :: zs)) : okI zs := fun y hy => h y (List.mem_cons_of_mem _ hy)
theorem pw_ok {r : List Nat} {d l : Nat} : ∀ {ws : List (Int × Int)} {i : Nat}, okI ws → okPs d l (pw r i ws)
  | [], _, _ => by unfold pw okPs; trivial
  | z :: zs, i, h => by
    have ih := pw_ok (r := r) (d := d) (l := l) (i := i + 1) h.tl
    unfold pw okPs
    refine ⟨by unfold okP; exact h.hd, ?_⟩
    by_cases c : i ∈ r
    · rw [if_pos c]
      show okPs d l (.pat :: pw r (i + 1) zs)
      unfold okPs
      exact ⟨by unfold okP; trivial, ih⟩
    · rw [if_neg c]; exact ih
theorem pw_in {r : List Nat} {i : Nat} {z : Int × Int} {zs : List (Int × Int)} (h : i ∈ r) : pw r i (z :: zs) = .work z.1 z.2 :: .pat :: pw r (i + 1) zs := by
  rw [pw, if_pos h]; rfl
theorem pw_out {r : List Nat} {i : Nat} {z : Int × Int} {zs : List (Int × Int)} (h : i ∉ r) : pw r i (z :: zs) = .work z.1 z.2 :: pw r (i + 1) zs := by
  rw [pw, if_neg h]; rfl
theorem leds_work {lo hi : Nat} {a b : Int} {ps : List Pl} {G : Nat → Prop} {g : Nat} : Leds lo hi (.work a b :: ps) G g ↔ ∃ d : Nat, a ≤ (d : Int) ∧ (d : Int) ≤ b ∧ Leds lo hi ps G (gW hi g d) := by
  rw [Leds, Led]
theorem leds_pat {lo hi : Nat} {ps : List Pl} {G : Nat → Prop} {g : Nat} : Leds lo hi (.pat :: ps) G g ↔ Leds lo hi ps G (gP lo hi g) := by
  rw [Leds, Led]
/-- the sums since the last pat, if all pats are in time -/
def chk (lo hi : Nat) (r : List Nat) : Nat → List (Int × Int) → Int → Int → Option (Int × Int)
  | _, [], A, B => some (A, B)
  | i, z :: zs, A, B => if i ∈ r then (if (lo : Int) ≤ A + z.1 ∧ B + z.2 ≤ hi then chk lo hi r (i + 1) zs 0 0 else none) else chk lo hi r (i + 1) zs (A + z.1) (B + z.2)
section
variable {lo hi : Nat} {r : List Nat}
theorem chk_fwd (hl : lo ≤ hi) : ∀ {ws : List (Int × Int)} {i : Nat} {A B A2 B2 : Int} {g : Nat} {G : Nat → Prop}, okI ws → min A (hi + 1 : Nat) ≤ (g : Int) → (g : Int) ≤ min B (hi + 1 : Nat) → chk lo hi r i ws A B = some (A2, B2) → Leds lo hi (pw r i ws) G g → ∃ g' : Nat, min A2 (hi + 1 : Nat) ≤ (g' : Int) ∧ (g' : Int) ≤ min B2 (hi + 1 : Nat) ∧ G g'
  | [], i, A, B, A2, B2, g, G, _, h1, h2, e, hL => by
    rw [chk] at e
    simp only [Option.some.injEq, Prod.mk.injEq] at e
    obtain ⟨rfl, rfl⟩ := e
    rw [pw, Leds] at hL
    exact ⟨g, h1, h2, hL⟩
  | z :: zs, i, A, B, A2, B2, g, G, ok, h1, h2, e, hL => by
    have z3 := ok.hd
    rw [chk] at e
    by_cases c : i ∈ r
    · rw [if_pos c] at e
      rw [pw_in c, leds_work] at hL
      obtain ⟨d, d1, d2, hL⟩ := hL
      rw [leds_pat] at hL
      by_cases c2 : (lo : Int) ≤ A + z.1 ∧ B + z.2 ≤ hi
      · rw [if_pos c2] at e
        have e0 : gP lo hi (gW hi g d) = 0 := by
          unfold gP gW
          rw [if_pos (by omega)]
        rw [e0] at hL
        exact chk_fwd hl ok.tl (g := 0) (by omega) (by omega) e hL
      · rw [if_neg c2] at e; cases e
    · rw [if_neg c] at e
      rw [pw_out c, leds_work] at hL
      obtain ⟨d, d1, d2, hL⟩ := hL
      exact chk_fwd hl ok.tl (by unfold gW; omega) (by unfold gW; omega) e hL
def sel (b : Bool) (A B : Int) : Int := if b then B else A
theorem sel_bd {b : Bool} {A B : Int} (h : A ≤ B) : A ≤ sel b A B ∧ sel b A B ≤ B := by
  unfold sel; cases b
  · exact ⟨Int.le_refl _, h⟩
  · exact ⟨h, Int.le_refl _⟩
theorem sel_add (b : Bool) (A B x y : Int) : sel b (A + x) (B + y) = sel b A B + sel b x y := by cases b <;> rfl
theorem chk_ord : ∀ {ws : List (Int × Int)} {i : Nat} {A B A2 B2 : Int}, okI ws → 0 ≤ A → A ≤ B → chk lo hi r i ws A B = some (A2, B2) → 0 ≤ A2 ∧ A2 ≤ B2
  | [], i, A, B, A2, B2, _, h1, h2, e => by
    rw [chk] at e
    simp only [Option.some.injEq, Prod.mk.injEq] at e
    obtain ⟨rfl, rfl⟩ := e
    exact ⟨h1, h2⟩
  | z :: zs, i, A, B, A2, B2, ok, h1, h2, e => by
    have z3 := ok.hd
    rw [chk] at e
    split at e
    · split at e
      · exact chk_ord ok.tl (by omega) (by omega) e
      · cases e
    · exact chk_ord ok.tl (by omega) (by omega) e
theorem chk_go (hl : lo ≤ hi) (b : Bool) : ∀ {ws : List (Int × Int)} {i : Nat} {A B A2 B2 : Int} {g g2 : Nat} {G : Nat → Prop}, okI ws → 0 ≤ A → A ≤ B → (g : Int) = min (sel b A B) (hi + 1 : Nat) → chk lo hi r i ws A B = some (A2, B2) → (g2 : Int) = min (sel b A2 B2) (hi + 1 : Nat) → G g2 → Leds lo hi (pw r i ws) G g
  | [], i, A, B, A2, B2, g, g2, G, _, _, _, h1, e, h2, hG => by
    rw [chk] at e
    simp only [Option.some.injEq, Prod.mk.injEq] at e
    obtain ⟨rfl, rfl⟩ := e
    rw [pw, Leds]
    have : g = g2 := by omega
    rw [this]; exact hG
  | z :: zs, i, A, B, A2, B2, g, g2, G, ok, a0, ab, h1, e, h2, hG => by
    have z3 := ok.hd
    have sz := sel_bd (b := b) z3.2.1
    have sa := sel_bd (b := b) ab
    obtain ⟨d, hd⟩ : ∃ d : Nat, (d : Int) = sel b z.1 z.2 := ⟨(sel b z.1 z.2).toNat, by omega⟩
    rw [chk] at e
    by_cases c : i ∈ r
    · rw [if_pos c] at e
      rw [pw_in c, leds_work]
      refine ⟨d, by omega, by omega, ?_⟩
      rw [leds_pat]
      by_cases c2 : (lo : Int) ≤ A + z.1 ∧ B + z.2 ≤ hi
      · rw [if_pos c2] at e
        have e0 : gP lo hi (gW hi g d) = 0 := by
          unfold gP gW
          rw [if_pos (by omega)]
        rw [e0]
        exact chk_go hl b ok.tl (g := 0) (Int.le_refl 0) (Int.le_refl 0) (by cases b <;> (show (0 : Int) = min 0 _; omega)) e h2 hG
      · rw [if_neg c2] at e; cases e
    · rw [if_neg c] at e
      rw [pw_out c, leds_work]
      refine ⟨d, by omega, by omega, ?_⟩
      exact chk_go hl b ok.tl (by omega) (by omega) (by rw [sel_add]; unfold gW; omega) e h2 hG
theorem chk_bad (hl : lo ≤ hi) : ∀ {ws : List (Int × Int)} {i : Nat} {A B : Int}, okI ws → 0 ≤ A → A ≤ B → chk lo hi r i ws A B = none → ∃ b : Bool, ∀ g : Nat, (g : Int) = min (sel b A B) (hi + 1 : Nat) → Leds lo hi (pw r i ws) (fun x => x = hi + 1) g
  | [], i, A, B, _, _, _, e => by rw [chk] at e; cases e
  | z :: zs, i, A, B, ok, a0, ab, e => by
    have z3 := ok.hd
    rw [chk] at e
    by_cases c : i ∈ r
    · rw [if_pos c] at e
      rw [pw_in c]
      by_cases c2 : (lo : Int) ≤ A + z.1 ∧ B + z.2 ≤ hi
      · rw [if_pos c2] at e
        obtain ⟨b, hb⟩ := chk_bad hl ok.tl (Int.le_refl 0) (Int.le_refl 0) e
        have h0 := hb 0 (by cases b <;> (show (0 : Int) = min 0 _; omega))
        refine ⟨b, fun g hg => ?_⟩
        have sz := sel_bd (b := b) z3.2.1
        have sa := sel_bd (b := b) ab
        rw [leds_work]
        refine ⟨(sel b z.1 z.2).toNat, by omega, by omega, ?_⟩
        rw [leds_pat]
        have e0 : gP lo hi (gW hi g (sel b z.1 z.2).toNat) = 0 := by
          unfold gP gW
          rw [if_pos (by omega)]
        rw [e0]; exact h0
      · refine ⟨decide ((lo : Int) ≤ A + z.1), fun g hg => ?_⟩
        rw [leds_work]
        have lb := leds_bitten (lo := lo) (hi := hi) (G := fun x => x = hi + 1) (pw r (i + 1) zs) (pw_ok (r := r) (d := 0) (l := 0) (i := i + 1) ok.tl) rfl
        by_cases c3 : (lo : Int) ≤ A + z.1
        · rw [decide_eq_true c3] at hg
          have hg' : (g : Int) = min B (hi + 1 : Nat) := hg
          refine ⟨z.2.toNat, by omega, by omega, ?_⟩
          rw [leds_pat]
          have e0 : gP lo hi (gW hi g z.2.toNat) = hi + 1 := by
            unfold gP gW
            rw [if_neg (by omega)]
          rw [e0]; exact lb
        · rw [decide_eq_false c3] at hg
          have hg' : (g : Int) = min A (hi + 1 : Nat) := hg
          refine ⟨z.1.toNat, by omega, by omega, ?_⟩
          rw [leds_pat]
          have e0 : gP lo hi (gW hi g z.1.toNat) = hi + 1 := by
            unfold gP gW
            rw [if_neg (by omega)]
          rw [e0]; exact lb
    · rw [if_neg c] at e
      rw [pw_out c]
      obtain ⟨b, hb⟩ := chk_bad hl ok.tl (by omega) (by omega) e
      refine ⟨b, fun g hg => ?_⟩
      have sz := sel_bd (b := b) z3.2.1
      have sa := sel_bd (b := b) ab
      rw [leds_work]
      exact ⟨(sel b z.1 z.2).toNat, by omega, by omega, hb _ (by rw [sel_add]; unfold gW; omega)⟩
/-! ### the sums, segment by segment -/
theorem sumA_cons (z : Int × Int) (l : List (Int × Int)) : sumA (z :: l) = z.1 + sumA l := rfl
theorem sumB_cons (z : Int × Int) (l : List (Int × Int)) : sumB (z :: l) = z.2 + sumB l := rfl
theorem sumA_app (a b : List (Int × Int)) : sumA (a ++ b) = sumA a + sumA b := by unfold sumA; rw [List.map_append, List.sum_append]
theorem sumB_app (a b : List (Int × Int)) : sumB (a ++ b) = sumB a + sumB b := by unfold sumB; rw [List.map_append, List.sum_append]
theorem chk_seg : ∀ (n i : Nat) (l : List (Int × Int)) (A B : Int), n < l.length → i + n ∈ r → (∀ x ∈ r, i ≤ x → i + n ≤ x) → chk lo hi r i l A B = if (lo : Int) ≤ A + sumA (l.take (n + 1)) ∧ B + sumB (l.take (n + 1)) ≤ hi then chk lo hi r (i + n + 1) (l.drop (n + 1)) 0 0 else none
  | _, _, [], _, _, h, _, _ => absurd h (Nat.not_lt_zero _)
  | 0, i, z :: zs, A, B, _, hm, _ => by
    rw [chk, if_pos (show i ∈ r from hm)]
    have e1 : sumA ((z :: zs).take (0 + 1)) = z.1 := by show z.1 + 0 = _; omega
    have e2 : sumB ((z :: zs).take (0 + 1)) = z.2 := by show z.2 + 0 = _; omega
    rw [e1, e2]; rfl
  | n + 1, i, z :: zs, A, B, h, hm, hx => by
    have ni : i ∉ r := fun z => by have := hx i z (Nat.le_refl _); omega
    have e0 : i + 1 + n = i + (n + 1) := by omega
    rw [chk, if_neg ni, chk_seg n (i + 1) zs (A + z.1) (B + z.2) (by rw [List.length_cons] at h; omega) (by rw [e0]; exact hm) (fun x hx' hi' => by have := hx x hx' (by omega); omega)]
    rw [e0]
    have e1 : sumA ((z :: zs).take (n + 1 + 1)) = z.1 + sumA (zs.take (n + 1)) := rfl
    have e2 : sumB ((z :: zs).take (n + 1 + 1)) = z.2 + sumB (zs.take (n + 1)) := rfl
    rw [e1, e2, Int.add_assoc, Int.add_assoc]; rfl
theorem chk_end : ∀ (l : List (Int × Int)) (i : Nat) (A B : Int), (∀ x ∈ r, x < i) → chk lo hi r i l A B = some (A + sumA l, B + sumB l)
  | [], i, A, B, _ => by rw [chk]; show _ = some (A + 0, B + 0); rw [Int.add_zero, Int.add_zero]
  | z :: zs, i, A, B, h => by
    have ni : i ∉ r := fun z => by have := h i z; omega
    rw [chk, if_neg ni, chk_end zs (i + 1) _ _ (fun x hx => by have := h x hx; omega), sumA_cons, sumB_cons, Int.add_assoc, Int.add_assoc]
def links (lo hi : Int) (ws : List (Int × Int)) : Nat → List Nat → Bool
  | _, [] => true
  | b, p :: ps => fit lo hi ws p b && links lo hi ws p ps
theorem lastN_cons (b p : Nat) (ps : List Nat) : lastN (b :: p :: ps) = lastN (p :: ps) := rfl
theorem fit_lt {lo hi : Int} {ws : List (Int × Int)} {p b : Nat} (h : b < p) : fit lo hi ws p b = decide (lo ≤ sumA ((ws.drop (b + 1)).take (p - b)) ∧ sumB ((ws.drop (b + 1)).take (p - b)) ≤ hi) := by
  unfold fit tim gapL; rw [if_pos h]
theorem chk_chain {ws : List (Int × Int)} : ∀ (ps : List Nat) (b : Nat), b < ws.length → (∀ x ∈ ps, x < ws.length) → (b :: ps).Pairwise (· < ·) → (∀ x, (x ∈ r ∧ b < x) ↔ x ∈ ps) →
    chk lo hi r (b + 1) (ws.drop (b + 1)) 0 0 = if links (lo : Int) (hi : Int) ws b ps = true then some (sumA (ws.drop (lastN (b :: ps) + 1)), sumB (ws.drop (lastN (b :: ps) + 1))) else none
  | [], b, hb, _, _, hm => by
    rw [chk_end _ _ _ _ (fun x hx => Nat.lt_succ_of_le (Nat.le_of_not_lt fun z => nomatch (hm x).mp ⟨hx, z⟩)), Int.zero_add, Int.zero_add]
    rfl
  | p :: ps, b, hb, hps, pr, hm => by
    have pr2 := List.pairwise_cons.mp pr
    have pr3 := List.pairwise_cons.mp pr2.2
    have bp := pr2.1 p List.mem_cons_self
    have pl := hps p List.mem_cons_self
    have ih := chk_chain ps p pl (fun x hx => hps x (List.mem_cons_of_mem _ hx)) pr2.2 (fun x => ⟨fun h => by
      have := (hm x).mp ⟨h.1, by omega⟩
      rcases List.mem_cons.mp this with rfl | h'
      · exact absurd h.2 (Nat.lt_irrefl _)
      · exact h', fun h => ⟨((hm x).mpr (List.mem_cons_of_mem _ h)).1, pr3.1 x h⟩⟩)
    have e0 : b + 1 + (p - (b + 1)) = p := by omega
    rw [chk_seg (p - (b + 1)) (b + 1) _ 0 0 (by rw [List.length_drop]; omega) (by rw [e0]; exact ((hm p).mpr List.mem_cons_self).1) (fun x hx hb' => by
      have := (hm x).mp ⟨hx, by omega⟩
      rw [e0]
      rcases List.mem_cons.mp this with rfl | h'
      · exact Nat.le_refl _
      · exact Nat.le_of_lt (pr3.1 x h'))]
    have e1 : p - (b + 1) + 1 = p - b := by omega
    have e2 : b + 1 + (p - b) = p + 1 := by omega
    rw [e0, e1, List.drop_drop, e2, ih, Int.zero_add, Int.zero_add, lastN_cons, links, fit_lt bp]
    by_cases c : (lo : Int) ≤ sumA ((ws.drop (b + 1)).take (p - b)) ∧ sumB ((ws.drop (b + 1)).take (p - b)) ≤ (hi : Int)
    · rw [if_pos c, decide_eq_true c, Bool.true_and]
    · rw [if_neg c, decide_eq_false c, Bool.false_and, if_neg (by decide)]
theorem range_all_cons {n : Nat} (f : Nat → Bool) : (List.range (n + 1)).all f = (f 0 && (List.range n).all fun i => f (i + 1)) := by
  rw [List.range_succ_eq_map, List.all_cons, List.all_map]; rfl
theorem path_links {lo hi : Int} {ws : List (Int × Int)} : ∀ (ps : List Nat) (b : Nat), ((List.range ps.length).all fun i => fit lo hi ws (atN (b :: ps) (i + 1)) (atN (b :: ps) i)) = links lo hi ws b ps
  | [], _ => rfl
  | p :: ps, b => by
    rw [List.length_cons, range_all_cons, links]
    have := path_links (lo := lo) (hi := hi) (ws := ws) ps p
    rw [← this]; rfl
theorem good_links {lo hi : Int} {ws : List (Int × Int)} {p : Nat} {ps : List Nat} : goodB lo hi ws (p :: ps) = (tim lo hi (ws.take (p + 1)) && links lo hi ws p ps && fit lo hi ws p (lastN (p :: ps))) := by
  rw [good_iff (List.cons_ne_nil _ _)]
  unfold pathB closes
  rw [show (p :: ps).length - 1 = ps.length from rfl, path_links]; rfl
/-- some run of rounds is bitten -/
def Bit (lo hi : Nat) (p : Pl) : Prop := ∃ m, iterP (Led lo hi p) m (fun x => x = hi + 1) 0
theorem safe_iff {ws : List (Int × Int)} (hl : lo ≤ hi) (ok : okI ws) (hr : r ∈ subsN ws.length) (ne : r ≠ []) : goodB (lo : Int) (hi : Int) ws r = true ↔ ¬ Bit lo hi (.row (pw r 0 ws)) := by
  obtain ⟨pr, lt⟩ := subs_mem.mp hr
  cases r with
  | nil => exact absurd rfl ne
  | cons p ps =>
    have pr1 := List.pairwise_cons.mp pr
    have pl := lt p List.mem_cons_self
    have ch := chk_chain (lo := lo) (hi := hi) (r := p :: ps) (ws := ws) ps p pl (fun x hx => lt x (List.mem_cons_of_mem _ hx)) pr (fun x => ⟨fun h => by
      rcases List.mem_cons.mp h.1 with rfl | h'
      · exact absurd h.2 (Nat.lt_irrefl _)
      · exact h', fun h => ⟨List.mem_cons_of_mem _ h, pr1.1 x h⟩⟩)
    have sg : ∀ A B : Int, chk lo hi (p :: ps) 0 ws A B = _ := fun A B => chk_seg p 0 ws A B pl (by rw [Nat.zero_add]; exact List.mem_cons_self) (fun x hx _ => by
      rw [Nat.zero_add]
      rcases List.mem_cons.mp hx with rfl | h'
      · exact Nat.le_refl _
      · exact Nat.le_of_lt (pr1.1 x h'))
    rw [Nat.zero_add] at sg
    rw [good_links]
    have hla : p ≤ lastN (p :: ps) := lastN_ge pr List.mem_cons_self
    have ft : fit (lo : Int) (hi : Int) ws p (lastN (p :: ps)) = decide ((lo : Int) ≤ sumA (ws.drop (lastN (p :: ps) + 1)) + sumA (ws.take (p + 1)) ∧ sumB (ws.drop (lastN (p :: ps) + 1)) + sumB (ws.take (p + 1)) ≤ (hi : Int)) := by
      unfold fit tim gapL
      rw [if_neg (by omega), sumA_app, sumB_app]
    rw [ft]
    have tm : tim (lo : Int) (hi : Int) (ws.take (p + 1)) = decide ((lo : Int) ≤ sumA (ws.take (p + 1)) ∧ sumB (ws.take (p + 1)) ≤ (hi : Int)) := rfl
    rw [tm]
    have s0 := sg 0 0
    rw [Int.zero_add, Int.zero_add] at s0
    have bad1 : chk lo hi (p :: ps) 0 ws 0 0 = none → Bit lo hi (.row (pw (p :: ps) 0 ws)) := fun e => by
      obtain ⟨b, hb⟩ := chk_bad hl ok (Int.le_refl 0) (Int.le_refl 0) e
      refine ⟨1, ?_⟩
      rw [iterP, Led]
      exact hb 0 (by cases b <;> (show (0 : Int) = min 0 _; omega))
    by_cases c1 : (lo : Int) ≤ sumA (ws.take (p + 1)) ∧ sumB (ws.take (p + 1)) ≤ (hi : Int)
    · rw [decide_eq_true c1, Bool.true_and]
      rw [if_pos c1] at s0
      by_cases c2 : links (lo : Int) (hi : Int) ws p ps = true
      · rw [c2, Bool.true_and]
        rw [if_pos c2] at ch
        rw [ch] at s0
        generalize hA2 : sumA (ws.drop (lastN (p :: ps) + 1)) = A2 at *
        generalize hB2 : sumB (ws.drop (lastN (p :: ps) + 1)) = B2 at *
        have od := chk_ord ok (Int.le_refl 0) (Int.le_refl 0) s0
        have s2 := sg A2 B2
        rw [decide_eq_true_iff]
        by_cases c3 : (lo : Int) ≤ A2 + sumA (ws.take (p + 1)) ∧ B2 + sumB (ws.take (p + 1)) ≤ (hi : Int)
        · rw [if_pos c3, ch] at s2
          refine ⟨fun _ => ?_, fun _ => c3⟩
          have sb : 0 ≤ sumB (ws.take (p + 1)) := by
            have : ∀ l : List (Int × Int), okI l → 0 ≤ sumB l := fun l => by
              induction l with
              | nil => intro _; exact Int.le_refl 0
              | cons z l ih => intro h; have := ih h.tl; have := h.hd; rw [sumB_cons]; omega
            exact this _ fun z hz => ok z (List.mem_of_mem_take hz)
          rintro ⟨m, hm⟩
          have inv : ∀ m (g : Nat), (g = 0 ∨ (min A2 (hi + 1 : Nat) ≤ (g : Int) ∧ (g : Int) ≤ min B2 (hi + 1 : Nat))) → ¬ iterP (Led lo hi (.row (pw (p :: ps) 0 ws))) m (fun x => x = hi + 1) g := by
            intro m
            induction m with
            | zero =>
              intro g hg h
              have h' : g = hi + 1 := h
              omega
            | succ m ih =>
              intro g hg h
              rw [iterP, Led] at h
              rcases hg with rfl | hg
              · obtain ⟨g', h1, h2, h3⟩ := chk_fwd hl ok (g := 0) (A := 0) (B := 0) (by omega) (by omega) s0 h
                exact ih g' (.inr ⟨h1, h2⟩) h3
              · obtain ⟨g', h1, h2, h3⟩ := chk_fwd hl ok hg.1 hg.2 s2 h
                exact ih g' (.inr ⟨h1, h2⟩) h3
          exact inv m 0 (.inl rfl) hm
        · rw [if_neg c3] at s2
          refine ⟨fun z => absurd z c3, fun z => absurd ?_ z⟩
          obtain ⟨b, hb⟩ := chk_bad hl ok od.1 od.2 s2
          refine ⟨2, ?_⟩
          rw [iterP, Led]
          have sa := sel_bd (b := b) od.2
          refine chk_go hl b (g2 := (min (sel b A2 B2) (hi + 1 : Nat)).toNat) ok (Int.le_refl 0) (Int.le_refl 0) (by cases b <;> (show (0 : Int) = min 0 _; omega)) s0 (by omega) ?_
          rw [iterP, Led]
          exact hb _ (by omega)
      · rw [if_neg c2] at ch
        rw [ch] at s0
        have : links (lo : Int) (hi : Int) ws p ps = false := by
          cases h : links (lo : Int) (hi : Int) ws p ps with
          | false => rfl
          | true => exact absurd h c2
        rw [this, Bool.false_and]
        exact ⟨(fun z => nomatch z), fun z => absurd (bad1 s0) z⟩
    · rw [if_neg c1] at s0
      rw [decide_eq_false c1, Bool.false_and, Bool.false_and]
      exact ⟨(fun z => nomatch z), fun z => absurd (bad1 s0) z⟩
end
end K10R
namespace K10R
open PySem PySem.Spec PyProof.Rows L2 Wd K10
/-! ### levels and rows -/
def levIt (lo hi : Int) (ws : List (Int × Int)) : Nat → List Nat → List Nat
  | 0, l => l
  | n + 1, l => levIt lo hi ws n (lev lo hi ws l)
section
variable {lo hi : Int} {ws : List (Int × Int)}
theorem lev_nil : lev lo hi ws [] = [] := by
  cases h : lev lo hi ws [] with
  | nil => rfl
  | cons p ps =>
    have : p ∈ lev lo hi ws [] := by rw [h]; exact List.mem_cons_self
    have := lev_mem.mp this
    cases this
theorem levIt_nil : ∀ j, levIt lo hi ws j [] = []
  | 0 => rfl
  | j + 1 => by rw [levIt, lev_nil]; exact levIt_nil j
theorem levIt_succ : ∀ (j : Nat) (l : List Nat), levIt lo hi ws (j + 1) l = lev lo hi ws (levIt lo hi ws j l)
  | 0, _ => rfl
  | j + 1, l => by rw [levIt, levIt_succ j]; rfl
theorem levs_at : ∀ (n j : Nat) (l : List Nat), j < n → levIt lo hi ws j l ≠ [] → (levs lo hi ws n l)[j]? = some (levIt lo hi ws j l)
  | 0, _, _, h, _ => absurd h (Nat.not_lt_zero _)
  | n + 1, 0, l, _, h => by
    have h' : l ≠ [] := h
    unfold levs
    rw [if_neg h']; rfl
  | n + 1, j + 1, l, hj, h => by
    have ne : l ≠ [] := fun z => h (by rw [z]; exact levIt_nil _)
    unfold levs
    rw [if_neg ne, List.getElem?_cons_succ]
    exact levs_at n j _ (by omega) h
theorem levs_of : ∀ (n j : Nat) (l lv : List Nat), (levs lo hi ws n l)[j]? = some lv → lv = levIt lo hi ws j l
  | 0, _, _, _, h => by unfold levs at h; cases h
  | n + 1, j, l, lv, h => by
    unfold levs at h
    by_cases c : l = []
    · rw [if_pos c] at h; cases h
    · rw [if_neg c] at h
      cases j with
      | zero => cases h; rfl
      | succ j => rw [List.getElem?_cons_succ] at h; exact levs_of n j _ lv h
theorem lev_rows {f : Nat} (hf : f ∈ firsts lo hi ws) : ∀ (j p : Nat), p ∈ levIt lo hi ws j [f] ↔ ∃ r, r ∈ rowsK lo hi ws j ∧ headN r = f ∧ lastN r = p
  | 0, p => by
    show p ∈ [f] ↔ _
    rw [List.mem_singleton]
    constructor
    · rintro rfl; exact ⟨[p], List.mem_map.mpr ⟨p, hf, rfl⟩, rfl, rfl⟩
    · rintro ⟨r, hr, h1, h2⟩
      obtain ⟨q, _, rfl⟩ := List.mem_map.mp hr
      have e1 : q = f := h1
      have e2 : q = p := h2
      omega
  | j + 1, p => by
    rw [levIt_succ, lev_mem, List.mem_flatMap]
    constructor
    · rintro ⟨b, hb, hp⟩
      obtain ⟨r, hr, h1, h2⟩ := (lev_rows hf j b).mp hb
      have ne := (rows_mem.mp hr).1.ne
      refine ⟨r ++ [p], ?_, by rw [headN_snoc ne]; exact h1, lastN_snoc r p⟩
      show _ ∈ stepR lo hi ws (rowsK lo hi ws j)
      unfold stepR growN
      exact List.mem_flatMap.mpr ⟨r, hr, List.mem_map.mpr ⟨p, by rw [h2]; exact hp, rfl⟩⟩
    · rintro ⟨r, hr, h1, h2⟩
      have hr' : r ∈ stepR lo hi ws (rowsK lo hi ws j) := hr
      unfold stepR growN at hr'
      obtain ⟨r0, h0, hr'⟩ := List.mem_flatMap.mp hr'
      obtain ⟨q, hq, rfl⟩ := List.mem_map.mp hr'
      rw [lastN_snoc] at h2
      subst h2
      have ne := (rows_mem.mp h0).1.ne
      rw [headN_snoc ne] at h1
      exact ⟨lastN r0, (lev_rows hf j _).mpr ⟨r0, h0, h1, rfl⟩, hq⟩
theorem shown_iff {m : Int} : shownB lo hi ws m = false ↔ ∃ j r, j < looked m ∧ r ∈ rowsK lo hi ws j ∧ closes lo hi ws r = true := by
  unfold shownB backTo
  rw [Bool.not_eq_false', List.any_eq_true]
  constructor
  · rintro ⟨f, hf, h⟩
    obtain ⟨l, hl, ha⟩ := List.any_eq_true.mp h
    obtain ⟨p, hp, hb⟩ := List.any_eq_true.mp ha
    obtain ⟨j, hj, e⟩ := List.mem_iff_getElem.mp hl
    have e2 : ((levels lo hi ws f).take (looked m))[j]? = some l := by rw [List.getElem?_eq_getElem hj, e]
    rw [List.length_take] at hj
    rw [List.getElem?_take_of_lt (by omega)] at e2
    have := levs_of _ _ _ _ e2
    subst this
    obtain ⟨r, hr, h1, h2⟩ := (lev_rows hf j p).mp hp
    exact ⟨j, r, by omega, hr, by unfold closes; rw [h1, h2]; exact hb⟩
  · rintro ⟨j, r, hj, hr, hc⟩
    obtain ⟨w1, p1⟩ := rows_mem.mp hr
    have hf : headN r ∈ firsts lo hi ws := by
      rw [first_mem]
      refine ⟨w1.2.2 _ (headN_mem w1.ne), ?_⟩
      unfold pathB at p1
      rw [Bool.and_eq_true] at p1
      exact p1.1
    have hp := (lev_rows hf j (lastN r)).mpr ⟨r, hr, rfl, rfl⟩
    have ne : levIt lo hi ws j [headN r] ≠ [] := fun z => by rw [z] at hp; cases hp
    have e := levs_at (lo := lo) (hi := hi) (ws := ws) (ws.length + 1) j [headN r] (by have := w1.le; omega) ne
    refine ⟨headN r, hf, List.any_eq_true.mpr ⟨_, ?_, List.any_eq_true.mpr ⟨_, hp, hc⟩⟩⟩
    have e2 : ((levels lo hi ws (headN r)).take (looked m))[j]? = some (levIt lo hi ws j [headN r]) := by rw [List.getElem?_take_of_lt hj]; exact e
    exact List.mem_of_getElem? e2
theorem few_row {r : List Nat} (h : few lo hi ws = some r) : 0 < r.length ∧ r ∈ rowsK lo hi ws (r.length - 1) ∧ closes lo hi ws r = true ∧ ∀ i, i < r.length - 1 → ∀ r' ∈ rowsK lo hi ws i, closes lo hi ws r' = false := by
  obtain ⟨j, _, h2, h3, h4, h5⟩ := fw_some (n := ws.length + 1) (k := 0) (Nat.zero_add _) h
  have l := (rows_mem.mp h2).1.1
  have e : r.length - 1 = j := by omega
  rw [e]
  exact ⟨by omega, h2, h3, fun i hi' => h4 i (Nat.zero_le _) hi'⟩
theorem shown_len {r : List Nat} (h : few lo hi ws = some r) : shownB lo hi ws (r.length : Int) = true ∧ shownB lo hi ws ((r.length : Int) + 1) = false := by
  obtain ⟨h0, h1, h2, h3⟩ := few_row h
  constructor
  · cases hb : shownB lo hi ws (r.length : Int) with
    | true => rfl
    | false =>
      obtain ⟨j, r', hj, hr', hc⟩ := shown_iff.mp hb
      unfold looked at hj
      rw [h3 j (by omega) r' hr'] at hc
      cases hc
  · exact shown_iff.mpr ⟨r.length - 1, r, by unfold looked; omega, h1, h2⟩
theorem shown_none {m : Int} (h : few lo hi ws = none) : shownB lo hi ws m = true := by
  cases hb : shownB lo hi ws m with
  | true => rfl
  | false =>
    obtain ⟨j, r', hj, hr', hc⟩ := shown_iff.mp hb
    rw [fw_none (n := ws.length + 1) (k := 0) (Nat.zero_add _) h j (Nat.zero_le _) r' hr'] at hc
    cases hc
/-! ### a wider window -/
theorem tim_wider {lo' hi' : Int} {xs : List (Int × Int)} (h1 : lo' ≤ lo) (h2 : hi ≤ hi') (h : tim lo hi xs = true) : tim lo' hi' xs = true := by
  unfold tim at h ⊢
  have := of_decide_eq_true h
  exact decide_eq_true (by omega)
theorem links_wider {lo' hi' : Int} (h1 : lo' ≤ lo) (h2 : hi ≤ hi') : ∀ (ps : List Nat) (b : Nat), links lo hi ws b ps = true → links lo' hi' ws b ps = true
  | [], _, _ => rfl
  | p :: ps, b, h => by
    rw [links, Bool.and_eq_true] at h ⊢
    exact ⟨tim_wider h1 h2 h.1, links_wider h1 h2 ps p h.2⟩
theorem good_wider {lo' hi' : Int} {r : List Nat} (h1 : lo' ≤ lo) (h2 : hi ≤ hi') (h : goodB lo hi ws r = true) : goodB lo' hi' ws r = true := by
  cases r with
  | nil => cases h
  | cons p ps =>
    rw [good_links, Bool.and_eq_true, Bool.and_eq_true] at h ⊢
    exact ⟨⟨tim_wider h1 h2 h.1.1, links_wider h1 h2 ps p h.1.2⟩, tim_wider h1 h2 h.2⟩
theorem few_wider {lo' hi' : Int} {r : List Nat} (h1 : lo' ≤ lo) (h2 : hi ≤ hi') (h : few lo hi ws = some r) : ∃ r', few lo' hi' ws = some r' ∧ r'.length ≤ r.length := by
  obtain ⟨g1, m1, _⟩ := few_some h
  have g2 := good_wider h1 h2 g1
  cases e : few lo' hi' ws with
  | none => rw [few_none e r m1] at g2; cases g2
  | some r' =>
    obtain ⟨_, _, m3⟩ := few_some e
    exact ⟨r', rfl, Nat.le_of_not_lt fun z => m3 r m1 g2 (.inl z)⟩
/-- the sizes of all good sets of places -/
def sizes (lo hi : Int) (ws : List (Int × Int)) (l : List (List Nat)) : List Int := (l.filter (goodB lo hi ws)).map fun r => (r.length : Int)
theorem sizes_none (h : few lo hi ws = none) : sizes lo hi ws (subsN ws.length) = [] := by
  unfold sizes
  rw [List.map_eq_nil_iff, List.filter_eq_nil_iff]
  intro r hr
  rw [few_none h r hr]
  decide
theorem sizes_some {r : List Nat} (h : few lo hi ws = some r) : (r.length : Int) ∈ sizes lo hi ws (subsN ws.length) ∧ ∀ s ∈ sizes lo hi ws (subsN ws.length), (r.length : Int) ≤ s := by
  obtain ⟨g1, m1, m3⟩ := few_some h
  unfold sizes
  refine ⟨List.mem_map.mpr ⟨r, List.mem_filter.mpr ⟨m1, g1⟩, rfl⟩, fun s hs => ?_⟩
  obtain ⟨r', hr', rfl⟩ := List.mem_map.mp hs
  obtain ⟨h1, h2⟩ := List.mem_filter.mp hr'
  have := m3 r' h1 h2
  have : ¬ r'.length < r.length := fun z => this (.inl z)
  omega
end
end K10R
namespace K10R
open PySem PySem.Spec PyProof.Rows L2 Wd K10
local macro_rules | `(tactic| walk_at "gs") => `(tactic| repeat (first
  | with_reducible refine Wd.g_seq ?_
  | ((with_reducible show L2.Ends.nx _ _ _); (with_reducible refine Wd.g_nx ?_))
  | with_reducible refine Wd.g_asg ?_
  | ((with_reducible refine' Wd.g_var ?h1 ?_); (case h1 => exact rfl))
  | with_reducible refine Wd.g_c ?_
  | with_reducible refine Wd.g_op ?_
  | with_reducible refine Wd.g_un ?_
  | with_reducible refine Wd.g_I0 ?_
  | with_reducible refine Wd.g_U ?_
  | with_reducible refine Wd.g_eqI ?_
  | with_reducible refine Wd.g_neI ?_
  | with_reducible refine Wd.g_eqS ?_
  | with_reducible refine Wd.g_neS ?_
  | with_reducible refine Wd.g_eqB ?_
  | with_reducible refine Wd.g_neB ?_
  | with_reducible refine Wd.g_isN ?_
  | with_reducible refine Wd.g_notN ?_
  | with_reducible refine Wd.g_lc ?_
  | with_reducible refine Wd.g_yes ?_
  | with_reducible refine Wd.g_test ?_
  | with_reducible refine Wd.g_tB ?_
  | with_reducible refine Wd.g_bl ?_
  | with_reducible refine Wd.g_blI ?_
  | with_reducible refine Wd.g_and ?_
  | with_reducible refine Wd.g_or ?_
  | with_reducible refine Wd.g_not ?_
  | with_reducible refine Wd.g_andV ?_
  | with_reducible refine Wd.g_orV ?_
  | with_reducible refine Wd.g_notV ?_
  | with_reducible refine Wd.g_if ?_
  | with_reducible refine Wd.g_chain ?_
  | with_reducible refine Wd.g_chain3 ?_
  | with_reducible refine Wd.g_nil ?_
  | with_reducible refine Wd.g_cons ?_
  | with_reducible refine Wd.g_tup ?_
  | with_reducible refine Wd.g_lst ?_
  | with_reducible refine Wd.g_CB ?_
  | with_reducible refine Wd.g_call ?_
  | with_reducible refine Wd.g_callS ?_
  | with_reducible refine Wd.g_bm ?_
  | with_reducible refine Wd.g_bm0 ?_
  | with_reducible refine Wd.g_sl ?_
  | with_reducible refine Wd.g_part ?_
  | with_reducible refine Wd.g_part1 ?_
  | with_reducible refine Wd.g_noPart ?_
  | with_reducible refine Wd.g_next ?_
  | with_reducible refine Wd.g_name ?_
  | with_reducible refine Wd.g_sub ?_
  | with_reducible refine Wd.g_gnil ?_
  | with_reducible refine Wd.g_gcons ?_
  | with_reducible refine Wd.g_drop ?_
  | with_reducible refine Wd.g_ret ?_
  | with_reducible refine Wd.g_retN ?_
  | with_reducible refine Wd.g_brk ?_
  | with_reducible refine Wd.g_cont ?_
  | ((with_reducible show L2.Ends.bk _ _ _); (with_reducible refine Wd.g_bk ?_))
  | ((with_reducible show L2.Ends.ct _ _ _); (with_reducible refine Wd.g_ct ?_))
  | ((with_reducible show L2.Ends.rt _ _ _); (with_reducible refine Wd.g_rt ?_))
  | with_reducible refine Wd.g_for ?_
  | with_reducible refine Wd.g_rng1 ?_
  | with_reducible refine Wd.g_rng2 ?_
  | with_reducible refine Wd.g_iList ?_
  | with_reducible refine Wd.g_iTup ?_
  | ((with_reducible refine Wd.g_fit ?h1 ?_); (case h1 => exact rfl))
  | with_reducible refine Wd.g_max2 ?_
  | with_reducible refine Wd.g_min2 ?_
  | with_reducible refine Wd.g_int1B ?_
  | with_reducible refine L2.iteT ?_
  | with_reducible refine L2.iteF ?_
  | ((with_reducible refine Wd.g_itT ?h1 ?_); (case h1 => exact rfl))
  | ((with_reducible refine Wd.g_itF ?h1 ?_); (case h1 => exact rfl))))
section
variable {K : PySem.W.Frag} {σ : L2.St} {H : Hp}
theorem w_enum {a : L2.St → Hp → Prop} {b : VK} {g : TG} {tb : TS} {p : Addr} {xs : List V} (Pv : Nat → L2.St → Hp → Prop) (h0 : Pv 0 σ H) (hq : ∀ i σ H, i ≤ xs.length → Pv i σ H → SqL K H p xs)
    (hs : ∀ i x T σ H, xs[i]? = some x → Pv i σ H → H T = none → g (.ref T) σ (upd H T (.tup [.int (i : Nat), x])) fun σ2 H2 => tb ⟨Pv (i + 1), b, a, Pv (i + 1)⟩ σ2 H2) (hd : ∀ σ H, Pv xs.length σ H → a σ H) :
    ∃ q ys, [V.ref p] = [V.ref q] ∧ SqL K H q ys ∧ ForEnd g tb a b σ (Ite K q) H := by
  refine ⟨p, xs, rfl, hq 0 σ H (Nat.zero_le _) h0, for_it (D := ⟨a, b, fun _ _ => False, fun _ _ => False⟩) walk_enum Pv h0 hq (fun i v σ H H' hi pv y => ?_) hd⟩
  obtain ⟨T, x, y, rfl, hT, rfl, e1, e2⟩ := y
  cases e1
  exact hs i y T σ H e2 pv hT
theorem g_enum {ta : TA} {R : It → Hp → Prop} (h : ta σ H fun vs H1 => ∃ a xs, vs = [.ref a] ∧ SqL K H1 a xs ∧ R (Ite K a) H1) : iEnum K ta σ H R := h
end
theorem drop_at2 {α : Type} : ∀ {l : List α} {i : Nat} {x : α}, l[i]? = some x → l.drop i = x :: l.drop (i + 1)
  | _ :: _, 0, _, e => by cases e; rfl
  | _ :: l, i + 1, _, e => drop_at2 (l := l) (i := i) e
section
variable {P : Program} {w : World} {K : PySem.W.Frag} {mg : Str → Option Value} {base : Heap} {CN : Addr}
abbrev s_check_places : Stmt := top 32
theorem sc_check_places : FnScope ["works", "places", "last", "place"] ["works", "places"] (C8.fnScope s_check_places) := C8.fnScope_by (by decide +kernel)
def sp_check_places (K : PySem.W.Frag) : Sp := fun vs H Q _ => ∃ (L A : Addr) (zs : List Wk) (ps : List Nat), vs = [.ref L, .ref A] ∧ WkL H L zs ∧ SqL K H A (ps.map nI) ∧ ps ∈ subsN zs.length ∧ Q .non H
theorem ok_check_places (T : TxtW K mg CN) {f : Addr} {fd : FuncData} (D : C8.Def K mg "check_places" s_check_places f fd) (b : Binds K fd ["works", "places"] []) (g_is_number : C8.Cal P w K mg base 1 "is_number" sp_is_number []) : C8.Cal P w K mg base 2 "check_places" (sp_check_places K) [] := by
  refine C8.cal0 D b .nil sc_check_places (fun vs H Q E h => ?_) fun cdv A outer s H vs Q E hr h => ?_
  · obtain ⟨L, A, zs, ps, rfl, _⟩ := h; rfl
  · obtain ⟨L, A, zs, ps, rfl, wk, hA, hm, q⟩ := h
    have nd := sc_check_places.nd
    obtain ⟨pr, lt⟩ := subs_mem.mp hm
    refine ⟨_, (pss_cons (ps_set (i := 2) nd rfl (Or.inl rfl) (pe_un un_neg pe_int))
      (pss_one (ps_for PassesOwn.never rfl (pi_list (pv 1)) (pg_name (i := 3) nd rfl (Or.inl rfl)) (pss_cons (ps_if (PW.pt (pw_or (pt_not (pt_val (C8.pe_c g_is_number hr (by first | decide | exact Nat.le_refl _ | omega) (by rfl) (pa_cons (pv 3) pa_nil)))) (pw_or1 (pt_not (pt_chain op_lt op_lt (pv 2) (pv 3) (pe_callB (r := Wd.rLen K) call_len1 (by rfl) T.n_len PySem.boot_len (pa_cons (pv 0) pa_nil))))))) (pss_one ps_never) pss_nil)
      (pss_one (ps_set (i := 2) nd rfl (Or.inl rfl) (pv 3))))))), ?_⟩
    walk_at "go"
    refine w_list (xs := ps.map nI) (fun i σ H' => H' = H ∧ ∃ (last : Int) (v3 : Option V), σ = [some (.ref L), some (.ref A), some (.int last), v3] ∧ ∀ x ∈ ps.drop i, last < (x : Int)) ?_ ?_ ?_ ?_
    · exact ⟨rfl, -1, _, rfl, fun x _ => by omega⟩
    · rintro i σ H' _ ⟨rfl, _⟩; exact hA
    · rintro i x σ H' hx ⟨rfl, last, v3, rfl, hla⟩
      obtain ⟨p, hp, rfl⟩ := nI_at hx
      have ed := drop_at2 hp
      have pl := lt p (List.mem_of_getElem? hp)
      have h1 := hla p (by rw [ed]; exact List.mem_cons_self)
      have pr2 : (ps.drop i).Pairwise (· < ·) := pr.drop
      rw [ed] at pr2 hla
      have pr3 := (List.pairwise_cons.mp pr2).1
      walk_at "go"
      refine ⟨p, rfl, ?_⟩
      walk_at "go"
      refine g_ite (fun _ => ?_) (fun h => absurd h1 h)
      walk_at "go"
      refine g_len (.inl (SqL.of wk.at_)) ?_
      walk_at "go"
      rw [List.length_map]
      rw [decide_eq_true (show (p : Int) < (zs.length : Int) by omega)]
      refine L2.iteF ?_
      walk_at "go"
      exact ⟨rfl, (p : Int), _, rfl, fun x hx => by have := pr3 x hx; omega⟩
    · rintro σ H' ⟨rfl, last, v3, rfl, _⟩
      walk_at "go"
      exact q
theorem pw_app (r : List Nat) : ∀ (a b : List (Int × Int)) (i : Nat), pw r i (a ++ b) = pw r i a ++ pw r (i + a.length) b
  | [], b, i => rfl
  | z :: a, b, i => by
    have e : i + 1 + a.length = i + (z :: a).length := by rw [List.length_cons]; omega
    rw [List.cons_append, pw, pw, pw_app r a b (i + 1), e, List.cons_append, List.append_assoc]
theorem pw_take (r : List Nat) {zs : List (Int × Int)} {i : Nat} {z : Int × Int} (h : zs[i]? = some z) : pw r 0 (zs.take (i + 1)) = pw r 0 (zs.take i) ++ .work z.1 z.2 :: (if i ∈ r then [.pat] else []) := by
  have hl := (List.getElem?_eq_some_iff.mp h).1
  rw [List.take_add_one, h]
  show pw r 0 (zs.take i ++ [z]) = _
  rw [pw_app, List.length_take, Nat.min_eq_left (Nat.le_of_lt hl), Nat.zero_add]
  simp only [pw, List.append_nil]
theorem pw_len (r : List Nat) : ∀ (zs : List (Int × Int)) (i : Nat), (pw r i zs).length ≤ 2 * zs.length
  | [], _ => Nat.le_refl _
  | z :: zs, i => by
    have ih := pw_len r zs (i + 1)
    rw [pw, List.length_cons, List.length_append, List.length_cons]
    split
    · rw [List.length_singleton]; omega
    · rw [List.length_nil]; omega
theorem pw_pos (r : List Nat) {zs : List (Int × Int)} (i : Nat) (h : 0 < zs.length) : 0 < (pw r i zs).length := by
  cases zs with
  | nil => cases h
  | cons z zs => rw [pw, List.length_cons]; omega
theorem pw_cnt (r : List Nat) : ∀ (zs : List (Int × Int)) (i : Nat), cnts (pw r i zs) ≤ 2 * zs.length
  | [], _ => Nat.le_refl _
  | z :: zs, i => by
    have ih := pw_cnt r zs (i + 1)
    by_cases c : i ∈ r
    · rw [pw_in c, cnts, cnts, Wd.cnt, Wd.cnt, List.length_cons]; omega
    · rw [pw_out c, cnts, Wd.cnt, List.length_cons]; omega
abbrev s_plan_with : Stmt := top 33
theorem sc_plan_with : FnScope ["works", "places", "parts", "place", "least", "most"] ["works", "places"] (C8.fnScope s_plan_with) := C8.fnScope_by (by decide +kernel)
def sp_plan_with (K : PySem.W.Frag) : Sp := fun vs H Q _ => ∃ (L A : Addr) (zs : List Wk) (ps : List Nat), vs = [.ref L, .ref A] ∧ WkL H L zs ∧ okZ zs ∧ zs ≠ [] ∧ zs.length ≤ 10 ∧ SqL K H A (ps.map nI) ∧ ps ∈ subsN zs.length ∧
  ∀ H' r, Same H H' → PlA H' (.ref r) (.row (pw ps 0 (zs.map (·.2)))) → Q (.ref r) H'
theorem ok_plan_with (T : TxtW K mg CN) {f : Addr} {fd : FuncData} (D : C8.Def K mg "plan_with" s_plan_with f fd) (b : Binds K fd ["works", "places"] []) (g_check_works : C8.Cal P w K mg base 3 "check_works" sp_check_works []) (g_check_places : C8.Cal P w K mg base 2 "check_places" (sp_check_places K) []) : C8.Cal P w K mg base 4 "plan_with" (sp_plan_with K) [] := by
  refine C8.cal0 D b .nil sc_plan_with (fun vs H Q E h => ?_) fun cdv A outer s H vs Q E hr h => ?_
  · obtain ⟨L, A, zs, ps, rfl, _⟩ := h; rfl
  · obtain ⟨L, A, zs, ps, rfl, wk, okz, ne, zl, hA, hm, q⟩ := h
    have nd := sc_plan_with.nd
    refine ⟨_, (pss_cons (ps_expr (C8.pe_c g_check_works hr (by first | decide | exact Nat.le_refl _ | omega) (by rfl) (pa_cons (pv 0) pa_nil)))
      (pss_cons (ps_expr (C8.pe_c g_check_places hr (by first | decide | exact Nat.le_refl _ | omega) (by rfl) (pa_cons (pv 0) (pa_cons (pv 1) pa_nil))))
      (pss_cons (ps_set (i := 2) nd rfl (Or.inl rfl) (pe_lst pa_nil))
      (pss_cons (ps_for PassesOwn.never rfl (pi_enum (by rfl) T.n_enumerate (pa_cons (pv 0) pa_nil)) (pg_tup rfl (pgs_cons (pg_name (i := 3) nd rfl (Or.inl rfl)) (pgs_cons (pg_tup rfl (pgs_cons (pg_name (i := 4) nd rfl (Or.inl rfl)) (pgs_cons (pg_name (i := 5) nd rfl (Or.inl rfl)) pgs_nil))) pgs_nil))) (pss_cons (ps_expr (pe_bmK (K := K) rfl PySem.F.plainAttrs_list PySem.F.slot_list_append PySem.F.type_list_append mt_append (pv 2) (pa_cons (pe_tup (pa_cons pe_str (pa_cons (pv 4) (pa_cons (pv 5) pa_nil)))) pa_nil)))
      (pss_one (ps_if (pt_cmpR (r := rIn K false) op_in_seq (pv 3) (pv 1) (by with_unfolding_all rfl)) (pss_one (ps_expr (pe_bmK (K := K) rfl PySem.F.plainAttrs_list PySem.F.slot_list_append PySem.F.type_list_append mt_append (pv 2) (pa_cons (pe_tup (pa_cons pe_str pa_nil)) pa_nil)))) pss_nil))))
      (pss_one (ps_ret (pe_tup (pa_cons pe_str (pa_cons (pe_callTy (r := rTupOf K) call_tuple1 (by rfl) T.n_tuple (by decide +kernel) (pa_cons (pv 2) pa_nil)) pa_nil))))))))), ?_⟩
    walk_at "go"
    refine ⟨L, zs, rfl, wk, okz, ne, zl, ?_⟩
    walk_at "go"
    refine ⟨L, A, zs, ps, rfl, wk, hA, hm, ?_⟩
    walk_at "go"
    intro R hR
    have s1 := same_new (o := .lst []) hR
    have e1 := upd_same (H := H) (a := R) (o := .lst [])
    generalize upd H R (.lst []) = H1 at s1 e1
    walk_at "go"
    refine g_enum ?_
    walk_at "go"
    refine w_enum (xs := zs.map fun z => V.ref z.1) (fun i σ H' => ∃ (vs : List V) (v3 v4 v5 : Option V), σ = [some (.ref L), some (.ref A), some (.ref R), v3, v4, v5] ∧ Same H H' ∧ H' R = some (.lst vs) ∧ PlAs H' vs (pw ps 0 ((zs.map (·.2)).take i))) ?_ ?_ ?_ ?_
    · exact ⟨[], _, _, _, rfl, s1, e1, .nil⟩
    · rintro i σ H' _ ⟨vs, v3, v4, v5, rfl, s2, _, _⟩
      exact SqL.of (s2 _ _ wk.at_)
    · rintro i x Tp σ H2 hx ⟨vs, v3, v4, v5, rfl, s2, e2, pa⟩ hTp
      obtain ⟨z, hz, rfl⟩ := zs_at hx
      have zm := List.mem_of_getElem? hz
      have hz2 : (zs.map (·.2))[i]? = some z.2 := by rw [List.getElem?_map, hz]; rfl
      have sT := same_new (o := .tup [.int (i : Nat), .ref z.1]) hTp
      walk_at "go"
      refine g_gtup (SqT.of upd_same) rfl ?_
      have s3 := s2.trans sT
      have e3 := sT _ _ e2
      have pa3 := PlAs_keep (keepT_same sT) _ _ pa
      generalize upd H2 Tp (.tup [.int (i : Nat), .ref z.1]) = H3 at s3 e3 pa3
      walk_at "go"
      refine g_gtup (SqT.of (s3 _ _ (wk.own z zm))) rfl ?_
      walk_at "go"
      refine g_tyL e3 ?_
      walk_at "go"
      intro W hW
      have sW := same_new (o := .tup [.str "work", .int z.2.1, .int z.2.2]) hW
      have hw : upd H3 W (.tup [.str "work", .int z.2.1, .int z.2.2]) W = some (.tup [.str "work", .int z.2.1, .int z.2.2]) := upd_same
      have s4 := s3.trans sW
      have e4 := sW _ _ e3
      have pa4 := PlAs.snoc (PlAs_keep (keepT_same sW) _ _ pa3) (.work hw)
      generalize upd H3 W (.tup [.str "work", .int z.2.1, .int z.2.2]) = H4 at s4 e4 pa4
      have vl : vs.length ≤ 20 := by
        rw [pa.len]
        have := pw_len ps ((zs.map (·.2)).take i) 0
        have h2 : ((zs.map (·.2)).take i).length ≤ (zs.map (·.2)).length := by rw [List.length_take]; omega
        rw [List.length_map] at h2
        omega
      walk_at "go"
      refine g_append e4 (by omega) ?_
      have s5 : Same H (upd H4 R (.lst (vs ++ [.ref W]))) := Wd.Same.mut s4 hR
      have pa5 := PlAs_keep (keepT_lst (o := .lst (vs ++ [.ref W])) e4) _ _ pa4
      have e5 := upd_same (H := H4) (a := R) (o := .lst (vs ++ [.ref W]))
      generalize upd H4 R (.lst (vs ++ [.ref W])) = H5 at s5 pa5 e5
      walk_at "go"
      refine ⟨A, ps.map nI, rfl, .inl (list_same s5 hA), rfl, flat_nI ps, ?_⟩
      have pt := pw_take ps hz2
      by_cases hin : i ∈ ps
      · rw [if_pos hin] at pt
        rw [in_nI.mpr ⟨i, hin, rfl⟩]
        walk_at "go"
        refine g_tyL e5 ?_
        walk_at "go"
        intro Y hY
        have sY := same_new (o := .tup [.str "pat"]) hY
        have hy : upd H5 Y (.tup [.str "pat"]) Y = some (.tup [.str "pat"]) := upd_same
        have e6 := sY _ _ e5
        have s6 := s5.trans sY
        have pa6 := PlAs.snoc (PlAs_keep (keepT_same sY) _ _ pa5) (.pat hy)
        generalize upd H5 Y (.tup [.str "pat"]) = H6 at s6 e6 pa6
        walk_at "go"
        refine g_append e6 (by rw [List.length_append, List.length_singleton]; omega) ?_
        have pa7 := PlAs_keep (keepT_lst (o := .lst ((vs ++ [.ref W]) ++ [.ref Y])) e6) _ _ pa6
        walk_at "go"
        refine ⟨_, _, _, _, rfl, Wd.Same.mut s6 hR, upd_same, ?_⟩
        rw [pt]
        have ea : ∀ (l : List Pl) (a b : Pl), l ++ [a, b] = (l ++ [a]) ++ [b] := fun l a b => by rw [List.append_assoc]; rfl
        rw [ea]; exact pa7
      · rw [if_neg hin] at pt
        have ei : inV (.int (i : Nat)) (ps.map nI) = false := by
          cases h : inV (.int (i : Nat)) (ps.map nI) with
          | false => rfl
          | true =>
            obtain ⟨p, hp, e⟩ := in_nI.mp h
            have e' : p = i := by omega
            rw [e'] at hp
            exact absurd hp hin
        rw [ei]
        walk_at "go"
        exact ⟨_, _, _, _, rfl, s5, e5, by rw [pt]; exact pa5⟩
    · rintro σ H' ⟨vs, v3, v4, v5, rfl, s2, e2, pa⟩
      rw [List.length_map, ← List.length_map (as := zs) (f := (·.2)), List.take_length] at pa
      walk_at "go"
      refine g_tupOf (SqL.of e2) fun l hl => ?_
      have sl := same_new (o := .tup vs) hl
      have hlv : upd H' l (.tup vs) l = some (.tup vs) := upd_same
      have s3 := s2.trans sl
      have pa3 := PlAs_keep (keepT_same sl) _ _ pa
      generalize upd H' l (.tup vs) = H3 at s3 pa3 hlv
      walk_at "go"
      intro r hr'
      have sr := same_new (o := .tup [.str "row", .ref l]) hr'
      exact q _ r (s3.trans sr) (.row upd_same (sr _ _ hlv) (PlAs_keep (keepT_same sr) _ _ pa3))
end
end K10R
namespace K10R
open PySem PySem.Spec PyProof.Rows L2 Wd K10
local macro_rules | `(tactic| walk_at "gs") => `(tactic| repeat (first
  | with_reducible refine Wd.g_seq ?_
  | ((with_reducible show L2.Ends.nx _ _ _); (with_reducible refine Wd.g_nx ?_))
  | with_reducible refine Wd.g_asg ?_
  | ((with_reducible refine' Wd.g_var ?h1 ?_); (case h1 => exact rfl))
  | with_reducible refine Wd.g_c ?_
  | with_reducible refine Wd.g_op ?_
  | with_reducible refine Wd.g_un ?_
  | with_reducible refine Wd.g_I0 ?_
  | with_reducible refine Wd.g_U ?_
  | with_reducible refine Wd.g_eqI ?_
  | with_reducible refine Wd.g_neI ?_
  | with_reducible refine Wd.g_eqS ?_
  | with_reducible refine Wd.g_neS ?_
  | with_reducible refine Wd.g_eqB ?_
  | with_reducible refine Wd.g_neB ?_
  | with_reducible refine Wd.g_isN ?_
  | with_reducible refine Wd.g_notN ?_
  | with_reducible refine Wd.g_lc ?_
  | with_reducible refine Wd.g_yes ?_
  | with_reducible refine Wd.g_test ?_
  | with_reducible refine Wd.g_tB ?_
  | with_reducible refine Wd.g_bl ?_
  | with_reducible refine Wd.g_blI ?_
  | with_reducible refine Wd.g_and ?_
  | with_reducible refine Wd.g_or ?_
  | with_reducible refine Wd.g_not ?_
  | with_reducible refine Wd.g_andV ?_
  | with_reducible refine Wd.g_orV ?_
  | with_reducible refine Wd.g_notV ?_
  | with_reducible refine Wd.g_if ?_
  | with_reducible refine Wd.g_chain ?_
  | with_reducible refine Wd.g_chain3 ?_
  | with_reducible refine Wd.g_nil ?_
  | with_reducible refine Wd.g_cons ?_
  | with_reducible refine Wd.g_tup ?_
  | with_reducible refine Wd.g_lst ?_
  | with_reducible refine Wd.g_CB ?_
  | with_reducible refine Wd.g_call ?_
  | with_reducible refine Wd.g_callS ?_
  | with_reducible refine Wd.g_bm ?_
  | with_reducible refine Wd.g_bm0 ?_
  | with_reducible refine Wd.g_sl ?_
  | with_reducible refine Wd.g_part ?_
  | with_reducible refine Wd.g_part1 ?_
  | with_reducible refine Wd.g_noPart ?_
  | with_reducible refine Wd.g_next ?_
  | with_reducible refine Wd.g_name ?_
  | with_reducible refine Wd.g_sub ?_
  | with_reducible refine Wd.g_gnil ?_
  | with_reducible refine Wd.g_gcons ?_
  | with_reducible refine Wd.g_drop ?_
  | with_reducible refine Wd.g_ret ?_
  | with_reducible refine Wd.g_retN ?_
  | with_reducible refine Wd.g_brk ?_
  | with_reducible refine Wd.g_cont ?_
  | ((with_reducible show L2.Ends.bk _ _ _); (with_reducible refine Wd.g_bk ?_))
  | ((with_reducible show L2.Ends.ct _ _ _); (with_reducible refine Wd.g_ct ?_))
  | ((with_reducible show L2.Ends.rt _ _ _); (with_reducible refine Wd.g_rt ?_))
  | with_reducible refine Wd.g_for ?_
  | with_reducible refine Wd.g_rng1 ?_
  | with_reducible refine Wd.g_rng2 ?_
  | with_reducible refine Wd.g_iList ?_
  | with_reducible refine Wd.g_iTup ?_
  | ((with_reducible refine Wd.g_fit ?h1 ?_); (case h1 => exact rfl))
  | with_reducible refine Wd.g_max2 ?_
  | with_reducible refine Wd.g_min2 ?_
  | with_reducible refine Wd.g_int1B ?_
  | with_reducible refine L2.iteT ?_
  | with_reducible refine L2.iteF ?_
  | ((with_reducible refine Wd.g_itT ?h1 ?_); (case h1 => exact rfl))
  | ((with_reducible refine Wd.g_itF ?h1 ?_); (case h1 => exact rfl))))
section
variable {P : Program} {w : World} {K : PySem.W.Frag} {mg : Str → Option Value} {base : Heap} {CN : Addr}
abbrev s_law_sets : Stmt := top 57
theorem sc_law_sets : FnScope ["_law_many", "_law_found", "_law_place", "_law_some"] ["_law_many"] (C8.fnScope s_law_sets) := C8.fnScope_by (by decide +kernel)
def sp_sets : Sp := fun vs H Q _ => ∃ n : Nat, vs = [nI n] ∧ n ≤ 10 ∧ ∀ H' RR rs, Same H H' → H RR = none → RowsL H H' RR rs → rs.map (·.2) = subsN n → Q (.ref RR) H'
theorem ok_sets (T : TxtW K mg CN) {f : Addr} {fd : FuncData} (D : C8.Def K mg "_law_sets" s_law_sets f fd) (b : Binds K fd ["_law_many"] []) : C8.Cal P w K mg base 1 "_law_sets" sp_sets [] := by
  refine C8.cal0 D b .nil sc_law_sets (fun vs H Q E h => ?_) fun cdv A outer s H vs Q E hr h => ?_
  · obtain ⟨n, rfl, _⟩ := h; rfl
  · obtain ⟨n, rfl, ln, q⟩ := h
    have nd := sc_law_sets.nd
    have p10 : ∀ i, i ≤ n → 2 ^ i ≤ 1024 := fun i hi' => Nat.pow_le_pow_right (by decide) (show i ≤ 10 by omega)
    refine ⟨_, (pss_cons (ps_set (i := 1) nd rfl (Or.inl rfl) (pe_lst (pa_cons (pe_lst pa_nil) pa_nil)))
      (pss_cons (ps_for PassesOwn.never rfl (pi_range1 rfl T.n_range (pa_cons (pv 0) pa_nil)) (pg_name (i := 2) nd rfl (Or.inr rfl)) (pss_one (ps_set (i := 1) nd rfl (Or.inl rfl) (pe_op op_cat (pv 1) (pe_lc (own := [("_law_some", 3)]) (g := gName 3) (tt := tYes) rfl nd (pi_list (pv 1)) (blkOk_by (N := ["_law_many", "_law_found", "_law_place", "_law_some"]) (sc := C8.fnScope s_law_sets) (by decide +kernel)) (fun _ _ _ _ _ => pg_name (i := 3) nd rfl (Or.inl rfl)) (fun _ _ _ _ _ => pts_nil) (fun _ _ _ _ _ => (pe_op op_cat (pv 3) (pe_lst (pa_cons (pv 2) pa_nil)))))))))
      (pss_one (ps_ret (pv 1))))), ?_⟩
    walk_at "go"
    intro l0 hl0
    have s0 := same_new (o := .lst []) hl0
    have e0 := upd_same (H := H) (a := l0) (o := .lst [])
    generalize upd H l0 (.lst []) = H0 at s0 e0
    walk_at "go"
    intro R0 hR0
    have s1 := s0.trans (same_new (o := .lst [.ref l0]) hR0)
    have bR0 := Wd.Same.back s0 hR0
    have rl0 : RowsL H (upd H0 R0 (.lst [.ref l0])) R0 [(l0, [])] := ⟨upd_same, fun r hr => by
      rw [List.mem_singleton] at hr
      subst hr
      exact ⟨same_new hR0 _ _ e0, hl0⟩⟩
    generalize upd H0 R0 (.lst [.ref l0]) = H1 at s1 rl0
    walk_at "go"
    refine w_range (by omega) (by omega) (fun i σ H' => ∃ (RR : Addr) (rs : List (Addr × List Nat)) (v2 v3 : Option V), σ = [some (nI n), some (.ref RR), v2, v3] ∧ Same H H' ∧ H RR = none ∧ RowsL H H' RR rs ∧ rs.map (·.2) = subsN i) ?_ ?_ ?_
    · exact ⟨R0, [(l0, [])], _, _, rfl, s1, bR0, rl0, rfl⟩
    · clear rl0 s1 hR0 e0 s0
      rintro i σ H2 hi' ⟨RR, rs, v2, v3, rfl, s2, bR, rl, er⟩
      have il : i < n := by omega
      have lrs : rs.length ≤ 1024 := by have := congrArg List.length er; rw [List.length_map, subs_len] at this; have := p10 i (by omega); omega
      have lrs2 : rs.length + rs.length ≤ 1024 := by have := congrArg List.length er; rw [List.length_map, subs_len] at this; have := p10 (i + 1) il; rw [Nat.pow_succ] at this; omega
      walk_at "go"
      refine w_lcList (SqL.of rl.at_) (fun D j H' => Same H2 H' ∧ ∃ ys, RowsL H H' D ys ∧ ys.map (·.2) = ((rs.take j).map (·.2)).map (fun r => r ++ [i]) ∧ ∀ y ∈ ys, y.1 ≠ D) (fun D hD => ⟨same_new hD, [], ⟨upd_same, fun r hr => nomatch hr⟩, rfl, fun r hr => nomatch hr⟩) (fun D j H' hD _ h => SqL.of (h.1 _ _ rl.at_)) (fun D j y H' hD hy h => ?_) (fun D2 H3 hD2 h => ?_)
      · obtain ⟨r, hr', rfl⟩ := map_at2 hy
        obtain ⟨s3, ys, ry, ey, ny⟩ := h
        have rm := List.mem_of_getElem? hr'
        have jl := (List.getElem?_eq_some_iff.mp hr').1
        have ro := s3 _ _ (rl.own r rm).1
        have rsub : r.2 ∈ subsN i := by rw [← er]; exact List.mem_map.mpr ⟨r, rm, rfl⟩
        have r2l : r.2.length ≤ 1000 := by
          obtain ⟨h1, h2⟩ := subs_mem.mp rsub
          rcases up_len (a := 0) h1 (fun x hx => ⟨Nat.zero_le _, h2 x hx⟩) with q | q
          · omega
          · rw [q]; exact Nat.zero_le _
        have lys : ys.length ≤ 1024 := by
          have := congrArg List.length ey
          rw [List.length_map, List.length_map, List.length_map] at this
          have := List.length_take_le j rs
          omega
        walk_at "go"
        refine ⟨rfl, ?_⟩
        walk_at "go"
        intro M1 hM1
        have sM1 := same_new (o := .lst [nI i]) hM1
        have eM1 := upd_same (H := H') (a := M1) (o := .lst [nI i])
        generalize upd H' M1 (.lst [nI i]) = H4 at sM1 eM1
        refine ⟨r.1, M1, _, _, rfl, rfl, sM1 _ _ ro, eM1, by rw [sizeLine_eq, List.length_map, List.length_singleton]; omega, fun M hM => ?_⟩
        have sM := same_new (o := .lst (r.2.map nI ++ [nI i])) hM
        have ry4 := (ry.same sM1).same sM
        have nMD : M ≠ D := (ne_of_none (ry.same sM1).at_ hM).symm
        refine ⟨_, ry4.at_, by rw [sizeLine_eq, List.length_map]; omega, Wd.Same.mut ((s3.trans sM1).trans sM) hD, ys ++ [(M, r.2 ++ [i])], ry4.put (by rw [List.map_append]; exact upd_same) (Wd.Same.back ((s2.trans s3).trans sM1) hM) nMD ny, ?_, fun y hy => ?_⟩
        · rw [List.map_append, ey, take_snocM _ hr', List.map_append]; rfl
        · rw [List.mem_append, List.mem_singleton] at hy
          rcases hy with hy | rfl
          · exact ny y hy
          · exact nMD
      obtain ⟨s3, ys, ry, ey, _⟩ := h
      rw [List.length_map, List.take_length] at ey
      have lys : ys.length = rs.length := by have := congrArg List.length ey; rw [List.length_map, List.length_map, List.length_map] at this; exact this
      have rl3 := rl.same s3
      refine ⟨RR, D2, _, _, rfl, rfl, rl3.at_, ry.at_, by rw [sizeLine_eq, List.length_map, List.length_map]; omega, fun RR2 hRR2 => ?_⟩
      have s4 := same_new (o := .lst ((rs.map fun r => V.ref r.1) ++ ys.map fun r => V.ref r.1)) hRR2
      walk_at "go"
      refine ⟨RR2, rs ++ ys, _, _, rfl, (s2.trans s3).trans s4, Wd.Same.back (s2.trans s3) hRR2, ⟨by rw [upd_same, List.map_append], fun r hr => ?_⟩, ?_⟩
      · rw [List.mem_append] at hr
        rcases hr with hr | hr
        · exact ((rl3.same s4).own r hr)
        · exact ((ry.same s4).own r hr)
      · rw [List.map_append, ey, er]; rfl
    · clear rl0 s1 hR0 e0 s0
      rintro σ H2 ⟨RR, rs, v2, v3, rfl, s2, bR, rl, er⟩
      have et : ((n : Nat) : Int).toNat = n := by omega
      rw [et] at er
      walk_at "go"
      exact q H2 RR rs s2 bR rl er
end
end K10R
namespace K10R
open PySem PySem.Spec PyProof.Rows L2 Wd K10
/-! ### what is judged of a row of works and pats -/
def jdV (H : Hp) (t : Addr) (b : Bool) : Prop := match b with
  | true => H t = some (.tup [.str "safe"])
  | false => ∃ (D q : Addr) (m : Int) (ds : List Int) (z : Int × Str), (z.2 = ("late" : Str) ∨ z.2 = ("early" : Str)) ∧ H t = some (.tup [.str "bitten", .int m, .ref D, .ref q]) ∧ H D = some (.lst (ds.map V.int)) ∧ H q = some (.tup [.int z.1, .str z.2])
theorem jdV.same {H H' : Hp} {t : Addr} {b : Bool} (h : jdV H t b) (e : Same H H') : jdV H' t b := by
  cases b with
  | true => exact e _ _ h
  | false =>
    obtain ⟨D, q, m, ds, z, h1, h2, h3, h4⟩ := h
    exact ⟨D, q, m, ds, z, h1, e _ _ h2, e _ _ h3, e _ _ h4⟩
theorem g_eqJd {K : PySem.W.Frag} {a c : Addr} {b : Bool} {H : Hp} {Q : VK} (h : jdV H a b) (h2 : H c = some (.tup [.str "safe"])) (k : Q (.bl b) H) : rEqD K (.ref a) (.ref c) H Q := by
  cases b with
  | true => exact g_eqSafe h h2 k
  | false =>
    obtain ⟨D, q, m, ds, z, h1, h3, h4, h5⟩ := h
    exact g_eqFd h1 h3 h4 h5 h2 k
theorem ne_of_eqD {K : PySem.W.Frag} {x y : V} {b : Bool} {H : Hp} {Q : VK} (h : rEqD K x y H fun v _ => v = .bl b) (k : Q (.bl (!b)) H) : rNeD K x y H Q := by
  obtain ⟨d, e, h1, h2, h3, h4, h5⟩ := h
  have : PyData.eqv d e = b := by cases h5; rfl
  exact ⟨d, e, h1, h2, h3, h4, by rw [this]; exact k⟩
theorem g_neJd {K : PySem.W.Frag} {a c : Addr} {b : Bool} {H : Hp} {Q : VK} (h : jdV H a b) (h2 : H c = some (.tup [.str "safe"])) (k : Q (.bl (!b)) H) : rNeD K (.ref a) (.ref c) H Q :=
  ne_of_eqD (g_eqJd (Q := fun v _ => v = .bl b) h h2 rfl) k
theorem okI_of {zs : List Wk} (h : okZ zs) : okI (zs.map (·.2)) := fun z hz => by
  obtain ⟨y, hy, rfl⟩ := List.mem_map.mp hz
  exact h y hy
theorem use_jd {W : Addr} {lo hi : Int} {zs : List Wk} {r : List Nat} {v : V} {H : Hp} {Q : VK} {E : XK} {vs : List V} (hv : vs = [.ref W, v]) (hW : H W = some (.tup [.int lo, .int hi])) (okw : okW lo hi) (okz : okZ zs) (ne : zs ≠ []) (zl : zs.length ≤ 10) (hr : r ∈ subsN zs.length) (rne : r ≠ []) (hp : PlA H v (.row (pw r 0 (zs.map (·.2)))))
    (k : ∀ H' t, Same H H' → jdV H' t (goodB lo hi (zs.map (·.2)) r) → Q (.ref t) H') : K10.sp_jd 1 vs H Q E := by
  obtain ⟨o1, o2, o3⟩ := okw
  obtain ⟨lo, rfl⟩ : ∃ n : Nat, lo = n := ⟨lo.toNat, by omega⟩
  obtain ⟨hi, rfl⟩ : ∃ n : Nat, hi = n := ⟨hi.toNat, by omega⟩
  have hl : lo ≤ hi := by omega
  have oki := okI_of okz
  have zp : 0 < (zs.map (·.2)).length := by rw [List.length_map]; exact List.length_pos_iff.mpr ne
  have z2 : (zs.map (·.2)).length ≤ 10 := by rw [List.length_map]; exact zl
  have okp : okP 1 0 (.row (pw r 0 (zs.map (·.2)))) := by
    unfold okP
    exact ⟨pw_pos r 0 zp, by have := pw_len r (zs.map (·.2)) 0; omega, pw_ok oki⟩
  have hr' : r ∈ subsN (zs.map (·.2)).length := by rw [List.length_map]; exact hr
  have si := safe_iff hl oki hr' rne
  have cn : Wd.cnt (.row (pw r 0 (zs.map (·.2)))) ≤ 30 := by
    have := pw_cnt r (zs.map (·.2)) 0
    unfold Wd.cnt
    omega
  generalize (zs.map (·.2)) = ws at *
  refine ⟨W, lo, hi, v, _, 0, hv, hW, hl, by omega, hp, okp, by decide, by decide, cn, fun H' t Z s _ ht bz z1 z0 => k H' t s ?_, fun H' t D q m ds nq t' s _ _ _ ht hD hq _ it gp _ _ => k H' t s ?_⟩
  · have g : goodB (lo : Int) (hi : Int) ws r = true := si.mpr (by
      rintro ⟨m, hm⟩
      have h1 := K10.fix_iter bz m 0 (Nat.zero_le _) (iterP_mono (fun hh j y => Led.mono _ hh j y) (fun i hi' => by rw [hi']; exact z1) m 0 hm)
      rw [show inS Z 0 = (Z.testBit 0 = true) from rfl, z0] at h1
      cases h1)
    rw [g]; exact ht
  · have g : goodB (lo : Int) (hi : Int) ws r = false := by
      cases hg : goodB (lo : Int) (hi : Int) ws r with
      | false => rfl
      | true =>
        refine absurd ?_ (si.mp hg)
        obtain ⟨g', h1, h2, h3⟩ := K10.snd_iter (K10.rn_led hl _ 1 0 okp) m ds 0 nq [] t' [] 0 (Nat.zero_le _) (by unfold K10.gapOf K10.stL; simp only; omega) it
        rw [List.nil_append, gp] at h2
        have e : hi + 1 = g' := by omega
        exact ⟨m, h3 _ (by rw [← e])⟩
    rw [g]; exact ⟨D, q, m, ds, _, K10.fb_kind _ _ _ _, ht, hD, hq⟩
theorem tabs_frmL {H H' : Hp} {S : Addr} {xs : List V} {T : List (Addr × Str)} (t : LamX.Tabs T H) (hS : H S = some (.lst xs)) (f : Frm S H H') : LamX.Tabs T H' := fun p hp => by
  obtain ⟨ps, h1, h2, h3⟩ := t p hp
  refine ⟨ps, f _ _ (ne_of h1 hS (fun z => nomatch z)) h1, h2, fun pos cv hc => ?_⟩
  obtain ⟨c', e1, e2⟩ := h3 pos cv hc
  exact ⟨c', e1, f _ _ (ne_of e2 hS (fun z => nomatch z)) e2⟩
theorem WkL.ext {H H' : Hp} {L : Addr} {zs : List Wk} (w : WkL H L zs) (e : LamX.ExtN H H') : WkL H' L zs := ⟨e _ _ w.at_ (fun _ z => nomatch z), fun z hz => e _ _ (w.own z hz) (fun _ z => nomatch z)⟩
theorem g_kind {K : PySem.W.Frag} {CD : Addr} {cs : List Addr} {tl : XK → Hp → VK → Prop} {H : Hp} {Q : VK} (h : tl (EKind K CD cs Q) H Q) : TKind K CD cs tl H Q := h
theorem sizes_snoc {lo hi : Int} {ws : List (Int × Int)} {l : List (List Nat)} {j : Nat} {r : List Nat} (h : l[j]? = some r) : sizes lo hi ws (l.take (j + 1)) = sizes lo hi ws (l.take j) ++ (if goodB lo hi ws r = true then [(r.length : Int)] else []) := by
  unfold sizes
  rw [List.take_add_one, h, List.filter_append, List.map_append]
  congr 1
  rw [show (some r).toList = [r] from rfl, List.filter_cons, List.filter_nil]
  by_cases c : goodB lo hi ws r = true
  · rw [if_pos c, if_pos c]; rfl
  · rw [if_neg c, if_neg c]; rfl
theorem sizes_len {lo hi : Int} {ws : List (Int × Int)} {l : List (List Nat)} : (sizes lo hi ws l).length ≤ l.length := by
  unfold sizes
  rw [List.length_map]
  exact List.length_filter_le _ _
/-- what found holds -/
def foundV (H : Hp) (o : Option (List Nat)) (v : V) : Prop := match o with
  | none => v = .str "NoPats"
  | some r => ∃ Fo, v = .ref Fo ∧ H Fo = some (.lst (r.map nI))
end K10R
namespace K10R
open PySem PySem.Spec PyProof.Rows L2 Wd K10
local macro_rules | `(tactic| walk_at "gs") => `(tactic| repeat (first
  | with_reducible refine Wd.g_seq ?_
  | ((with_reducible show L2.Ends.nx _ _ _); (with_reducible refine Wd.g_nx ?_))
  | with_reducible refine Wd.g_asg ?_
  | ((with_reducible refine' Wd.g_var ?h1 ?_); (case h1 => exact rfl))
  | with_reducible refine Wd.g_c ?_
  | with_reducible refine Wd.g_op ?_
  | with_reducible refine Wd.g_un ?_
  | with_reducible refine Wd.g_I0 ?_
  | with_reducible refine Wd.g_U ?_
  | with_reducible refine Wd.g_eqI ?_
  | with_reducible refine Wd.g_neI ?_
  | with_reducible refine Wd.g_eqS ?_
  | with_reducible refine Wd.g_neS ?_
  | with_reducible refine Wd.g_eqB ?_
  | with_reducible refine Wd.g_neB ?_
  | with_reducible refine Wd.g_isN ?_
  | with_reducible refine Wd.g_notN ?_
  | with_reducible refine Wd.g_lc ?_
  | with_reducible refine Wd.g_yes ?_
  | with_reducible refine Wd.g_test ?_
  | with_reducible refine Wd.g_tB ?_
  | with_reducible refine Wd.g_bl ?_
  | with_reducible refine Wd.g_blI ?_
  | with_reducible refine Wd.g_and ?_
  | with_reducible refine Wd.g_or ?_
  | with_reducible refine Wd.g_not ?_
  | with_reducible refine Wd.g_andV ?_
  | with_reducible refine Wd.g_orV ?_
  | with_reducible refine Wd.g_notV ?_
  | with_reducible refine Wd.g_if ?_
  | with_reducible refine Wd.g_chain ?_
  | with_reducible refine Wd.g_chain3 ?_
  | with_reducible refine Wd.g_nil ?_
  | with_reducible refine Wd.g_cons ?_
  | with_reducible refine Wd.g_tup ?_
  | with_reducible refine Wd.g_lst ?_
  | with_reducible refine Wd.g_CB ?_
  | with_reducible refine Wd.g_call ?_
  | with_reducible refine Wd.g_callS ?_
  | with_reducible refine Wd.g_bm ?_
  | with_reducible refine Wd.g_bm0 ?_
  | with_reducible refine Wd.g_sl ?_
  | with_reducible refine Wd.g_part ?_
  | with_reducible refine Wd.g_part1 ?_
  | with_reducible refine Wd.g_noPart ?_
  | with_reducible refine Wd.g_next ?_
  | with_reducible refine Wd.g_name ?_
  | with_reducible refine Wd.g_sub ?_
  | with_reducible refine Wd.g_gnil ?_
  | with_reducible refine Wd.g_gcons ?_
  | with_reducible refine Wd.g_drop ?_
  | with_reducible refine Wd.g_ret ?_
  | with_reducible refine Wd.g_retN ?_
  | with_reducible refine Wd.g_brk ?_
  | with_reducible refine Wd.g_cont ?_
  | ((with_reducible show L2.Ends.bk _ _ _); (with_reducible refine Wd.g_bk ?_))
  | ((with_reducible show L2.Ends.ct _ _ _); (with_reducible refine Wd.g_ct ?_))
  | ((with_reducible show L2.Ends.rt _ _ _); (with_reducible refine Wd.g_rt ?_))
  | with_reducible refine Wd.g_for ?_
  | with_reducible refine Wd.g_rng1 ?_
  | with_reducible refine Wd.g_rng2 ?_
  | with_reducible refine Wd.g_iList ?_
  | with_reducible refine Wd.g_iTup ?_
  | ((with_reducible refine Wd.g_fit ?h1 ?_); (case h1 => exact rfl))
  | with_reducible refine Wd.g_max2 ?_
  | with_reducible refine Wd.g_min2 ?_
  | with_reducible refine Wd.g_int1B ?_
  | with_reducible refine L2.iteT ?_
  | with_reducible refine L2.iteF ?_
  | ((with_reducible refine Wd.g_itT ?h1 ?_); (case h1 => exact rfl))
  | ((with_reducible refine Wd.g_itF ?h1 ?_); (case h1 => exact rfl))))
section
variable {P : Program} {w : World} {K : PySem.W.Frag} {mg : Str → Option Value} {base : Heap} {CN : Addr}
abbrev s_law : Stmt := top 58
theorem sc_law : FnScope ["_law_script", "_law_state", "_law_turn", "_law_works_here", "_law_window", "_law_sizes", "_law_places", "_law_found", "_law_wide_here"] ["_law_script"] (C8.fnScope s_law) := C8.fnScope_by (by decide +kernel)
def lamQ : Str := "law.<locals>.<lambda>"
def sp_law (K : PySem.W.Frag) (Pt : Addr) : Sp := fun vs H Q _ => ∃ (sc : Addr) (ns : List Int), vs = [.ref sc] ∧ SqL K H sc (ns.map V.int) ∧ ns.length ≤ 63 ∧ H Pt = some (.tbl #[]) ∧ ∀ H', Q (.bl true) H'
theorem nI_toI (r : List Nat) : r.map nI = (toI r).map V.int := by unfold toI; rw [List.map_map]; rfl
theorem rnil {r : List Nat} : decide ((r.map fun n : Nat => (n : Int)) = []) = decide (r = []) := by
  cases r with
  | nil => rfl
  | cons x xs => rfl
theorem g_neB {K : PySem.W.Frag} {a b : Addr} {x y : Bool} {H : Hp} {Q : VK} (h1 : H a = some (.lst [.bl x, .bl y])) (h2 : H b = some (.lst [.bl x, .bl y])) (k : Q (.bl false) H) : rNeD K (.ref a) (.ref b) H Q :=
  ⟨.list [.bool x, .bool y], .list [.bool x, .bool y], .lst (SqL.of h1) (.cons (.bl _) (.cons (.bl _) .nil)), .lst (SqL.of h2) (.cons (.bl _) (.cons (.bl _) .nil)), by cases x <;> cases y <;> decide, by cases x <;> cases y <;> decide, by
    have : PyData.eqv (.list [.bool x, .bool y]) (.list [.bool x, .bool y]) = true := by cases x <;> cases y <;> simp [PyData.eqv, PyData.eqvAll]
    rw [this]; exact k⟩
theorem ok_law (T : TxtW K mg CN) {CD : Addr} {cs : List Addr} (R : Refs K mg CD cs) (RN : IsRef K CD cs 4 CN) {c Pt : Addr} (TB : LamX.TabB base mg c Pt)
    {f fk : Addr} {fdk : FuncData} {dV kV doc pm ct oc : Value} {an od : Option Addr} {osl : Array (Option Value)}
    (lk : K.lookup f = some ⟨oc, od, .func (PySem.W.fnOf "law" "law" (C8.fnArgs s_law) (C8.fnBody s_law) (C8.fnScope s_law) dV kV doc pm an (.ref c) ct), osl⟩) (hcd : PySem.W.codeIn K (.ref c) "law" = true)
    (Dk : C8.Def K mg "_law_kind" s_law_kind fk fdk) (bk : Binds K fdk ["_law_work"] [])
    (g_law_start : C8.Cal P w K mg base 1 "_law_start" (sp_start K) []) (g_law_drawn : C8.Cal P w K mg base 1 "_law_drawn" (sp_drawn K) []) (g_law_works : C8.Cal P w K mg base 2 "_law_works" (sp_works K) []) (g_law_wide : C8.Cal P w K mg base 2 "_law_wide" (sp_wide K) []) (g_law_sets : C8.Cal P w K mg base 1 "_law_sets" sp_sets [])
    (g_plan_with : C8.Cal P w K mg base 4 "plan_with" (sp_plan_with K) []) (g_judged : C8.Cal P w K mg base 10 "judged" (K10.sp_jd 1) []) (g_fewest : CalX P w K mg base 6 "fewest" (sp_fewest K CN)) (g_shown : C8.Cal P w K mg base 6 "shown" (sp_shown K CN) []) :
    FnOk P w K mg base C8.CX0 11 f (PySem.W.fnOf "law" "law" (C8.fnArgs s_law) (C8.fnBody s_law) (C8.fnScope s_law) dV kV doc pm an (.ref c) ct) ["_law_script"] (sp_law K Pt) := by
  refine fn_code lk hcd sc_law (fun vs H Q E h => ?_) fun A outer s H vs Q E hr h => ?_
  · obtain ⟨sc, ns, rfl, _⟩ := h; rfl
  · obtain ⟨sc, ns, rfl, hsc, hl, hT, q⟩ := h
    have nd := sc_law.nd
    obtain ⟨oc', od', dV', kV', doc', pm', an', cdv', ct', osl', rfl, lkk, hck⟩ := Dk.fn.ex
    refine ⟨_, (pss_cons (ps_set (i := 1) nd rfl (Or.inl rfl) (C8.pe_c g_law_start hr (by first | decide | exact Nat.le_refl _ | omega) (by rfl) (pa_cons (pv 0) pa_nil)))
      (pss_cons (ps_for PassesOwn.never rfl (pi_range1 rfl T.n_range (pa_cons pe_int pa_nil)) (pg_name (i := 2) nd rfl (Or.inl rfl)) (pss_cons (ps_set (i := 3) nd rfl (Or.inr rfl) (pe_slice (r := rSlL K) sl_list (C8.pe_c g_law_works hr (by first | decide | exact Nat.le_refl _ | omega) (by rfl) (pa_cons (pv 1) pa_nil)) po_none (po_some pe_int)))
      (pss_cons (ps_set (i := 4) nd rfl (Or.inr rfl) (C8.pe_c g_law_wide hr (by first | decide | exact Nat.le_refl _ | omega) (by rfl) (pa_cons (pv 1) (pa_cons (pv 3) pa_nil))))
      (pss_cons (ps_set (i := 5) nd rfl (Or.inl rfl) (pe_lst pa_nil))
      (pss_cons (ps_for PassesOwn.never rfl (pi_list (C8.pe_c g_law_sets hr (by first | decide | exact Nat.le_refl _ | omega) (by rfl) (pa_cons (pe_callB (r := Wd.rLen K) call_len1 (by rfl) T.n_len PySem.boot_len (pa_cons (pv 3) pa_nil)) pa_nil))) (pg_name (i := 6) nd rfl (Or.inl rfl)) (pss_one (ps_if (PW.pt (pw_and (pt_cmpR (r := rNeD K) (op_neD hr.units) (pv 6) (pe_lst pa_nil) (nomark _)) (pw_and1 (pt_cmpR (r := rEqD K) (op_eqD hr.units) (C8.pe_c g_judged hr (by first | decide | exact Nat.le_refl _ | omega) (by rfl) (pa_cons (pv 4) (pa_cons (C8.pe_c g_plan_with hr (by first | decide | exact Nat.le_refl _ | omega) (by rfl) (pa_cons (pv 3) (pa_cons (pv 6) pa_nil))) pa_nil))) (pe_tup (pa_cons pe_str pa_nil)) (nomark _))))) (pss_one (ps_expr (pe_bmK (K := K) rfl PySem.F.plainAttrs_list PySem.F.slot_list_append PySem.F.type_list_append mt_append (pv 5) (pa_cons (pe_callB (r := Wd.rLen K) call_len1 (by rfl) T.n_len PySem.boot_len (pa_cons (pv 6) pa_nil)) pa_nil)))) pss_nil)))
      (pss_cons (ps_set (i := 7) nd rfl (Or.inl rfl) (LamX.pe_lamcall (k := 8) (T := [(Pt, lamQ)]) (TT := TKind K CD cs) (by rfl) Dk.mgf Dk.kp lkk hck bk sc_law_kind rfl (Or.inl rfl) (kind_gives R) TB rfl (List.mem_singleton.mpr rfl) (fun p hp _ => by rw [List.mem_singleton.mp hp]; rfl) hr (LamX.lamS_by (show LamX.lamSB (C8.fnScope s_law) _ = true by decide +kernel)) rfl (fun _ _ _ _ _ => rfl) (fun A outer s H E f c' hr2 => (pe_cX g_fewest hr2 (by first | decide | exact Nat.le_refl _ | omega) (by rfl) (fun σ => passAt (takes_of rfl rfl rfl rfl) σ) (pa_cons (pv 4) (pa_cons (pv 3) pa_nil))))))
      (pss_one (ps_if (pt_cmpR (r := rEqD K) (op_eqD hr.units) (pv 5) (pe_lst pa_nil) (nomark _)) (pss_one (ps_if (PW.pt (pw_or (pt_cmpR op_ne (pv 7) pe_str (nomark _)) (pw_or1 (pt_not (pt_val (C8.pe_c g_shown hr (by first | decide | exact Nat.le_refl _ | omega) (by rfl) (pa_cons (pv 4) (pa_cons (pv 3) (pa_cons (pe_op op_add pe_int (C8.pe_c g_law_drawn hr (by first | decide | exact Nat.le_refl _ | omega) (by rfl) (pa_cons (pv 1) (pa_cons pe_int pa_nil)))) pa_nil))))))))) (pss_one (ps_ret pe_bl)) pss_nil)) (pss_cons (ps_if (PW.pt (pw_or (pt_cmpR op_ne (pe_callB (r := Wd.rLen K) call_len1 (by rfl) T.n_len PySem.boot_len (pa_cons (pv 7) pa_nil)) (pe_callB (r := rMin K) (cr_min rfl) (by rfl) T.n_min (by decide +kernel) (pa_cons (pv 5) pa_nil)) (nomark _)) (pw_or1 (pt_cmpR (r := rNeD K) (op_neD hr.units) (C8.pe_c g_judged hr (by first | decide | exact Nat.le_refl _ | omega) (by rfl) (pa_cons (pv 4) (pa_cons (C8.pe_c g_plan_with hr (by first | decide | exact Nat.le_refl _ | omega) (by rfl) (pa_cons (pv 3) (pa_cons (pv 7) pa_nil))) pa_nil))) (pe_tup (pa_cons pe_str pa_nil)) (nomark _))))) (pss_one (ps_ret pe_bl)) pss_nil)
      (pss_cons (ps_if (pt_cmpR (r := rNeD K) (op_neD hr.units) (pe_lst (pa_cons (C8.pe_c g_shown hr (by first | decide | exact Nat.le_refl _ | omega) (by rfl) (pa_cons (pv 4) (pa_cons (pv 3) (pa_cons (pe_callB (r := Wd.rLen K) call_len1 (by rfl) T.n_len PySem.boot_len (pa_cons (pv 7) pa_nil)) pa_nil)))) (pa_cons (C8.pe_c g_shown hr (by first | decide | exact Nat.le_refl _ | omega) (by rfl) (pa_cons (pv 4) (pa_cons (pv 3) (pa_cons (pe_op op_add (pe_callB (r := Wd.rLen K) call_len1 (by rfl) T.n_len PySem.boot_len (pa_cons (pv 7) pa_nil)) pe_int) pa_nil)))) pa_nil))) (pe_lst (pa_cons pe_bl (pa_cons pe_bl pa_nil))) (nomark _)) (pss_one (ps_ret pe_bl)) pss_nil)
      (pss_cons (ps_set (i := 8) nd rfl (Or.inl rfl) (pe_tup (pa_cons (pe_callB (call_max1 rfl) (by rfl) T.n_max (by decide +kernel) (pa_cons pe_int (pa_cons (pe_op op_sub (pe_ix (r := rIxT K) ix_tup (pv 4) pe_int (fun _ _ => rfl)) (C8.pe_c g_law_drawn hr (by first | decide | exact Nat.le_refl _ | omega) (by rfl) (pa_cons (pv 1) (pa_cons pe_int pa_nil)))) pa_nil))) (pa_cons (pe_callB (call_min1 rfl) (by rfl) T.n_min (by decide +kernel) (pa_cons pe_int (pa_cons (pe_op op_add (pe_ix (r := rIxT K) ix_tup (pv 4) pe_int (fun _ _ => rfl)) (C8.pe_c g_law_drawn hr (by first | decide | exact Nat.le_refl _ | omega) (by rfl) (pa_cons (pv 1) (pa_cons pe_int pa_nil)))) pa_nil))) pa_nil))))
      (pss_one (ps_if (pt_cmpR op_gt (pe_callB (r := Wd.rLen K) call_len1 (by rfl) T.n_len PySem.boot_len (pa_cons (pe_cX g_fewest hr (by first | decide | exact Nat.le_refl _ | omega) (by rfl) (fun σ => passAt (W := fun _ _ _ _ => False) LamX.takes0 σ) (pa_cons (pv 8) (pa_cons (pv 3) pa_nil))) pa_nil)) (pe_callB (r := Wd.rLen K) call_len1 (by rfl) T.n_len PySem.boot_len (pa_cons (pv 7) pa_nil)) (nomark _)) (pss_one (ps_ret pe_bl)) pss_nil)))))))))))))
      (pss_one (ps_ret pe_bl)))), ?_⟩
    walk_at "go"
    refine ⟨noT H, sc, ns, rfl, noT_list hsc, noT_same H, hl, fun H1 S nS s1 d1 => ?_⟩
    have tb1 : LamX.Tabs [(Pt, lamQ)] H1 := fun p hp => by
      rw [List.mem_singleton.mp hp]
      exact .nil (s1 _ _ hT)
    walk_at "go"
    refine w_range (by decide) (by decide) (fun i σ H' => ∃ v2 v3 v4 v5 v6 v7 v8 : Option V, σ = [some (.ref sc), some (.ref S), v2, v3, v4, v5, v6, v7, v8] ∧ Dst K (noT H) H' S ∧ LamX.Tabs [(Pt, lamQ)] H') ?_ ?_ ?_
    · exact ⟨_, _, _, _, _, _, _, rfl, d1, tb1⟩
    · clear d1 tb1
      rintro i σ H0 hi' ⟨v2, v3, v4, v5, v6, v7, v8, rfl, d, tb⟩
      walk_at "go"
      refine ⟨_, S, rfl, d, fun H2 L0 zs0 f2 d2 ws2 okz0 ne0 ln0 => ?_⟩
      have tb2 := tabs_frm tb d f2
      walk_at "go"
      refine g_slL (SqL.of ws2.at_) fun L hL => ?_
      rw [show (5 : Int) = ((5 : Nat) : Int) from rfl, cut_any]
      have ok5 : okZ (zs0.take 5) := fun z hz => okz0 z (List.mem_of_mem_take hz)
      have ne5 : zs0.take 5 ≠ [] := by
        cases zs0 with
        | nil => exact absurd rfl ne0
        | cons z zs => exact List.cons_ne_nil _ _
      have ln5 : (zs0.take 5).length ≤ 5 := List.length_take_le _ _
      have sL := same_new (o := .lst ((zs0.take 5).map fun z => V.ref z.1)) hL
      have ws3 : WkS S (upd H2 L (.lst ((zs0.take 5).map fun z => V.ref z.1))) L (zs0.take 5) := ⟨upd_same, d2.ne hL, fun z hz => (ws2.frm (.of sL)).own z (List.mem_of_mem_take hz)⟩
      have d3 := d2.same sL
      have tb3 := tabs_same tb2 sL
      generalize upd H2 L (.lst ((zs0.take 5).map fun z => V.ref z.1)) = H3 at ws3 d3 tb3
      generalize zs0.take 5 = zs at ok5 ne5 ln5 ws3
      have ln : zs.length ≤ 10 := by omega
      clear sL hL ws2 d2 tb2 f2 tb d ln0 ne0 okz0
      walk_at "go"
      refine ⟨_, S, L, zs, rfl, d3, ws3, ok5, ne5, ln, fun H4 W lo hi f4 d4 hW nW okw => ?_⟩
      have tb4 := tabs_frm tb3 d3 f4
      have wk4 := (ws3.frm f4).wk
      have mkS : ∀ H', WkL H' L zs → WkS S H' L zs := fun H' wk => ⟨wk.at_, ws3.nS, fun z hz => ⟨wk.own z hz, (ws3.own z hz).2⟩⟩
      clear ws3 f4 d3 tb3
      walk_at "go"
      intro SZ hSZ
      have sS := same_new (o := .lst []) hSZ
      have wkS : WkS SZ (upd H4 SZ (.lst [])) L zs := ⟨sS _ _ wk4.at_, ne_of_none wk4.at_ hSZ, fun z hz => ⟨sS _ _ (wk4.own z hz), ne_of_none (wk4.own z hz) hSZ⟩⟩
      have nWS : W ≠ SZ := ne_of_none hW hSZ
      have nSS : SZ ≠ S := d4.ne hSZ
      have bSZ := d4.fresh hSZ
      have hW5 := sS _ _ hW
      have d5 := d4.same sS
      have tb5 := tabs_same tb4 sS
      have eS5 := upd_same (H := H4) (a := SZ) (o := .lst [])
      generalize upd H4 SZ (.lst []) = H5 at wkS hW5 d5 tb5 eS5
      clear sS hSZ wk4 hW d4 tb4
      walk_at "go"
      refine g_len (.inl (SqL.of wkS.at_)) ?_
      walk_at "go"
      rw [List.length_map]
      refine ⟨zs.length, rfl, ln, fun H6 RR rs s6 nRR rl er => ?_⟩
      have nRS : RR ≠ SZ := (ne_of_none eS5 nRR).symm
      have rows : ∀ r ∈ rs, H6 r.1 = some (.lst (r.2.map nI)) ∧ r.1 ≠ SZ := fun r hr' => ⟨(rl.own r hr').1, (ne_of_none eS5 (rl.own r hr').2).symm⟩
      have rat := rl.at_
      have wk6 := wkS.frm (.of s6)
      have hW6 := s6 _ _ hW5
      have d6 := d5.same s6
      have tb6 := tabs_same tb5 s6
      have eS6 := s6 _ _ eS5
      clear rl s6 wkS hW5 d5 tb5 eS5 nRR
      have rl5 : rs.length ≤ 32 := by
        have := congrArg List.length er
        rw [List.length_map, subs_len] at this
        rw [this]
        exact Nat.pow_le_pow_right (by decide) ln5
      generalize hws : zs.map (·.2) = ws
      have wl : ws.length = zs.length := by rw [← hws, List.length_map]
      refine w_list (xs := rs.map fun r => V.ref r.1) (fun j σ H' => ∃ v6 : Option V, σ = [some (.ref sc), some (.ref S), some (.int i), some (.ref L), some (.ref W), some (.ref SZ), v6, v7, v8] ∧ Frm SZ H6 H' ∧ H' SZ = some (.lst ((sizes lo hi ws ((subsN zs.length).take j)).map V.int)) ∧ Dst K (noT H) H' S ∧ LamX.Tabs [(Pt, lamQ)] H') ?_ ?_ ?_ ?_
      · exact ⟨_, rfl, Frm.refl _ _, eS6, d6, tb6⟩
      · rintro j σ H' _ ⟨v6, rfl, f7, _⟩
        exact SqL.of (f7 _ _ nRS rat)
      · clear eS6 d6 tb6
        rintro j x σ H7 hx ⟨v6, rfl, f7, eS7, d7, tb7⟩
        obtain ⟨r, hr', rfl⟩ := map_at2 hx
        have rm := List.mem_of_getElem? hr'
        have jl : j < rs.length := (List.getElem?_eq_some_iff.mp hr').1
        obtain ⟨er6, nr⟩ := rows r rm
        have er7 := f7 _ _ nr er6
        have wk7 := wk6.frm f7
        have hW7 := f7 _ _ nWS hW6
        have rj : (subsN zs.length)[j]? = some r.2 := by rw [← er, List.getElem?_map, hr']; rfl
        have rsub := List.mem_of_getElem? rj
        have ss := sizes_snoc (lo := lo) (hi := hi) (ws := ws) rj
        walk_at "go"
        intro e0 he0
        have s8 := same_new (o := .lst []) he0
        refine g_neLI (ns := toI r.2) (ms := []) (SqL.of (by rw [← nI_toI]; exact s8 _ _ er7)) (SqL.of upd_same) ?_
        rw [rnil]
        generalize upd H7 e0 (.lst []) = H8 at s8
        have d8 := d7.same s8
        have tb8 := tabs_same tb7 s8
        have eS8 := s8 _ _ eS7
        by_cases c : r.2 = []
        · rw [decide_eq_true c]
          walk_at "go"
          refine ⟨_, rfl, f7.trans (.of s8), ?_, d8, tb8⟩
          have hg : goodB lo hi ws r.2 = false := by rw [c]; rfl
          rw [ss, if_neg (by rw [hg]; decide), List.append_nil]
          exact eS8
        · rw [decide_eq_false c]
          walk_at "go"
          refine ⟨L, r.1, zs, r.2, rfl, wk7.wk.same s8, ok5, ne5, ln, SqL.of (s8 _ _ er7), rsub, fun H9 v s9 pv => ?_⟩
          have s79 := s8.trans s9
          walk_at "go"
          refine use_jd rfl (s79 _ _ hW7) okw ok5 ne5 ln rsub c pv fun H10 t s10 jd => ?_
          rw [hws] at jd
          have s710 := s79.trans s10
          walk_at "go"
          intro t2 ht2
          have s11 := same_new (o := .tup [.str "safe"]) ht2
          refine g_eqJd (jd.same s11) upd_same ?_
          generalize upd H10 t2 (.tup [.str "safe"]) = H11 at s11
          have s711 := s710.trans s11
          have eS11 := s711 _ _ eS7
          cases hg : goodB lo hi ws r.2 with
          | false =>
            rw [if_neg (show ¬ goodB lo hi ws r.2 = true by rw [hg]; decide), List.append_nil] at ss
            walk_at "go"
            exact ⟨_, rfl, f7.trans (.of s711), by rw [ss]; exact eS11, d7.same s711, tabs_same tb7 s711⟩
          | true =>
            rw [if_pos hg] at ss
            walk_at "go"
            refine g_tyL eS11 ?_
            walk_at "go"
            refine g_len (.inl (SqL.of (s711 _ _ er7))) ?_
            walk_at "go"
            have sl := sizes_len (lo := lo) (hi := hi) (ws := ws) (l := (subsN zs.length).take j)
            have sl2 := List.length_take_le j (subsN zs.length)
            refine g_append eS11 (by rw [List.length_map]; omega) ?_
            walk_at "go"
            have fS : Frm SZ H7 (upd H11 SZ (.lst ((sizes lo hi ws ((subsN zs.length).take j)).map V.int ++ [.int ((r.2.map nI).length : Nat)]))) := (Frm.of s711).trans .set
            refine ⟨_, rfl, f7.trans fS, ?_, (d7.same s711).mut nSS bSZ, tabs_frmL (tabs_same tb7 s711) eS11 .set⟩
            rw [upd_same, ss, List.map_append, List.length_map]; rfl
      · clear eS6 d6 tb6
        rintro σ H7 ⟨v6, rfl, f7, eS7, d7, tb7⟩
        have tl : (subsN zs.length).take (rs.map fun r => V.ref r.1).length = subsN zs.length := by
          rw [List.length_map]
          have : rs.length = (subsN zs.length).length := by rw [← er, List.length_map]
          rw [this, List.take_length]
        rw [tl] at eS7
        have wk7 := (wk6.frm f7).wk
        have hW7 := f7 _ _ nWS hW6
        clear wk6 hW6 f7 rows rat tl
        have sn := @sizes_none lo hi ws
        have so := @sizes_some lo hi ws
        have sz2 : (sizes lo hi ws (subsN zs.length)).length ≤ 32 := by
          have h1 := sizes_len (lo := lo) (hi := hi) (ws := ws) (l := subsN zs.length)
          have h2 : (subsN zs.length).length = rs.length := by rw [← er, List.length_map]
          omega
        rw [wl] at sn so
        generalize sizes lo hi ws (subsN zs.length) = szs at eS7 sn so sz2
        walk_at "go"
        refine g_lam tb7 fun H8 x8 tb8 => ?_
        have wk8 := wk7.ext x8
        have hW8 := x8 _ _ hW7 (fun _ z => nomatch z)
        have eS8 := x8 _ _ eS7 (fun _ z => nomatch z)
        have d8 := d7.ext x8
        clear wk7 hW7 eS7 d7 tb7 x8
        refine g_kind ?_
        walk_at "go"
        refine ⟨W, L, lo, hi, zs, rfl, SqT.of hW8, okw, wk8, ok5, ne5, ln, fun r e H9 Fo s9 hFo eFo => ?_, fun e H9 s9 => ?_⟩
        · rw [hws] at e
          have nFo := d8.ne hFo
          have fs := few_some e
          have rsub : r ∈ subsN zs.length := by rw [← wl]; exact fs.2.1
          have rne := good_ne fs.1
          obtain ⟨p1, p2⟩ := subs_mem.mp rsub
          have rlen : r.length ≤ 10 := by
            rcases up_len (a := 0) p1 (fun x hx => ⟨Nat.zero_le _, p2 x hx⟩) with q | q
            · omega
            · exact absurd q rne
          obtain ⟨so1, so2⟩ := so e
          walk_at "go"
          intro e1 he1
          have s10 := s9.trans (same_new (o := .lst []) he1)
          refine g_eqLI (ns := szs) (ms := []) (SqL.of (s10 _ _ eS8)) (SqL.of upd_same) ?_
          rw [decide_eq_false (fun z => by rw [z] at so1; cases so1)]
          have eFo10 := same_new (o := .lst []) he1 _ _ eFo
          generalize upd H9 e1 (.lst []) = H10 at s10 eFo10
          walk_at "go"
          refine g_len (.inl (SqL.of eFo10)) ?_
          walk_at "go"
          refine ⟨SZ, szs, rfl, SqL.of (s10 _ _ eS8), List.length_pos_of_mem so1, fun m m1 m2 => ?_⟩
          have em : m = (r.length : Int) := Int.le_antisymm (m2 _ so1) (so2 _ m1)
          subst em
          rw [List.length_map]
          refine ⟨rfl, _, rfl, ?_⟩
          rw [show decide (V.int (r.length : Int) = V.int (r.length : Int)) = true from decide_eq_true rfl]
          refine L2.iteF ?_
          walk_at "go"
          refine ⟨L, Fo, zs, r, rfl, wk8.same s10, ok5, ne5, ln, SqL.of eFo10, rsub, fun H11 v s11 pv => ?_⟩
          have s811 := s10.trans s11
          walk_at "go"
          refine use_jd rfl (s811 _ _ hW8) okw ok5 ne5 ln rsub rne pv fun H12 t s12 jd => ?_
          rw [hws, fs.1] at jd
          walk_at "go"
          intro t2 ht2
          have s13 := same_new (o := .tup [.str "safe"]) ht2
          refine g_neJd (jd.same s13) upd_same ?_
          have s8' := (s811.trans s12).trans s13
          have eFo13 := s13 _ _ (s12 _ _ (s11 _ _ eFo10))
          generalize upd H12 t2 (.tup [.str "safe"]) = H13 at s8' eFo13
          clear jd s13 s12 s11 pv s811 s10 eFo10
          have sh := shown_len e
          walk_at "go"
          refine g_len (.inl (SqL.of eFo13)) ?_
          walk_at "go"
          refine ⟨W, L, lo, hi, zs, _, rfl, SqT.of (s8' _ _ hW8), okw, wk8.same s8', ok5, ne5, ln, fun H14 s14 => ?_⟩
          rw [List.length_map, hws, sh.1]
          walk_at "go"
          have s814 := s8'.trans s14
          have eFo14 := s14 _ _ eFo13
          refine g_len (.inl (SqL.of eFo14)) ?_
          walk_at "go"
          refine ⟨W, L, lo, hi, zs, _, rfl, SqT.of (s814 _ _ hW8), okw, wk8.same s814, ok5, ne5, ln, fun H15 s15 => ?_⟩
          rw [List.length_map, hws, sh.2]
          walk_at "go"
          intro l1 hl1
          have s16 := same_new (o := .lst [.bl true, .bl false]) hl1
          have e16 := upd_same (H := H15) (a := l1) (o := .lst [.bl true, .bl false])
          generalize upd H15 l1 (.lst [.bl true, .bl false]) = H16 at s16 e16
          walk_at "go"
          intro l2 hl2
          have s17 := same_new (o := .lst [.bl true, .bl false]) hl2
          refine g_neB (s17 _ _ e16) upd_same ?_
          have s817 := (s814.trans s15).trans (s16.trans s17)
          have eFo17 := (s16.trans s17) _ _ (s15 _ _ eFo14)
          generalize upd H16 l2 (.lst [.bl true, .bl false]) = H17 at s817 eFo17
          have wk17 := wk8.same s817
          have hW17 := s817 _ _ hW8
          have d17 := d8.same s817
          have tb17 := tabs_same tb8 s817
          clear s17 e16 s16 s15 eFo14 s814 s14 eFo13 s8' s817 wk8 hW8 d8 tb8 hl1 hl2 eS8
          walk_at "go"
          refine g_ixT (SqT.of hW17) rfl ?_
          walk_at "go"
          refine use_drawn (n := 4) d17 (by decide) (by decide) fun H18 a f18 d18 a0 a1 => ?_
          have tb18 := tabs_frm tb17 d17 f18
          have nWS2 : W ≠ S := nW
          have hW18 := f18 _ _ nWS2 hW17
          walk_at "go"
          refine g_ixT (SqT.of hW18) rfl ?_
          walk_at "go"
          refine use_drawn (n := 6) d18 (by decide) (by decide) fun H19 b2 f19 d19 b0 b1 => ?_
          have tb19 := tabs_frm tb18 d18 f19
          have wk19 : WkL H19 L zs := (((mkS _ wk17).frm f18).frm f19).wk
          have eFo19 : H19 Fo = some (.lst (r.map nI)) := f19 _ _ nFo (f18 _ _ nFo eFo17)
          walk_at "go"
          generalize hlo : (if lo - a > 0 then lo - a else 0) = lo'
          generalize hhi : (if hi + b2 < 1000 then hi + b2 else 1000) = hi'
          intro W2 hW2
          have s20 := same_new (o := .tup [.int lo', .int hi']) hW2
          have e20 := upd_same (H := H19) (a := W2) (o := .tup [.int lo', .int hi'])
          have d20 := d19.same s20
          have tb20 := tabs_same tb19 s20
          have wk20 := wk19.same s20
          have eFo20 := s20 _ _ eFo19
          generalize upd H19 W2 (.tup [.int lo', .int hi']) = H20 at s20 e20 d20 tb20 wk20 eFo20
          have okw2 : okW lo' hi' := by
            obtain ⟨o1, o2, o3⟩ := okw
            unfold okW
            subst hlo hhi
            refine ⟨?_, ?_, ?_⟩ <;> repeat' split
            all_goals omega
          have w1 : lo' ≤ lo := by
            obtain ⟨o1, o2, o3⟩ := okw
            subst hlo
            split <;> omega
          have w2 : hi ≤ hi' := by
            obtain ⟨o1, o2, o3⟩ := okw
            subst hhi
            split <;> omega
          obtain ⟨r2, er2, lr2⟩ := few_wider w1 w2 e
          clear hlo hhi
          walk_at "go"
          refine ⟨W2, L, lo', hi', zs, rfl, SqT.of e20, okw2, wk20, ok5, ne5, ln, fun r3 e3 H21 F2 s21 _ eF2 => ?_, fun e3 => ?_⟩
          · rw [hws, er2] at e3
            cases e3
            walk_at "go"
            refine g_len (.inl (SqL.of eF2)) ?_
            walk_at "go"
            refine g_len (.inl (SqL.of (s21 _ _ eFo20))) ?_
            walk_at "go"
            rw [List.length_map, List.length_map]
            rw [decide_eq_false (show ¬ (r.length : Int) < (r2.length : Int) by omega)]
            walk_at "go"
            exact ⟨_, _, _, _, _, _, _, rfl, d20.same s21, tabs_same tb20 s21⟩
          · rw [hws, er2] at e3; cases e3
        · rw [hws] at e
          have se := sn e
          refine ⟨4, CN, "NoPats", rfl, rfl, RN, rfl, fun H10 s10 => ?_⟩
          have s810 := s9.trans s10
          walk_at "go"
          intro e1 he1
          have s11 := same_new (o := .lst []) he1
          refine g_eqLI (ns := szs) (ms := []) (SqL.of (s11 _ _ (s810 _ _ eS8))) (SqL.of upd_same) ?_
          rw [decide_eq_true se]
          generalize upd H10 e1 (.lst []) = H11 at s11
          have s811 := s810.trans s11
          have d11 := d8.same s811
          have tb11 := tabs_same tb8 s811
          walk_at "go"
          refine use_drawn (n := 20) d11 (by decide) (by decide) fun H12 a f12 d12 a0 a1 => ?_
          have tb12 := tabs_frm tb11 d11 f12
          have wk12 : WkL H12 L zs := ((mkS _ (wk8.same s811)).frm f12).wk
          have hW12 := f12 _ _ nW (s811 _ _ hW8)
          walk_at "go"
          refine ⟨W, L, lo, hi, zs, _, rfl, SqT.of hW12, okw, wk12, ok5, ne5, ln, fun H13 s13 => ?_⟩
          rw [hws, shown_none e]
          walk_at "go"
          exact ⟨_, _, _, _, _, _, _, rfl, d12.same s13, tabs_same tb12 s13⟩
    · rintro σ H' ⟨v2, v3, v4, v5, v6, v7, v8, rfl, d, tb⟩
      walk_at "go"
      exact q H'
end
end K10R
namespace K10R
open PySem PySem.Spec PyProof.Rows L2 Wd K10
theorem law_at {l : PySem.W.OpenLaw} {w : World} {K : PySem.W.Frag} {h : Heap} {mg : Str → Option Value} {fa : Addr} (X : K.In h) (G : h.Ns mainGlobals mg) (hfa : mg "law" = some (.ref fa))
    {f_is_number : Addr} {oc_is_number kV_is_number dc_is_number pm_is_number cd_is_number ct_is_number : Value} {od_is_number an_is_number : Option Addr} {sl_is_number : Array (Option Value)}
    {f_is_range : Addr} {oc_is_range kV_is_range dc_is_range pm_is_range cd_is_range ct_is_range : Value} {od_is_range an_is_range : Option Addr} {sl_is_range : Array (Option Value)}
    {f_has_form : Addr} {oc_has_form kV_has_form dc_has_form pm_has_form cd_has_form ct_has_form : Value} {od_has_form an_has_form : Option Addr} {sl_has_form : Array (Option Value)}
    {f_plans_in : Addr} {oc_plans_in kV_plans_in dc_plans_in pm_plans_in cd_plans_in ct_plans_in : Value} {od_plans_in an_plans_in : Option Addr} {sl_plans_in : Array (Option Value)}
    {f_check_plan : Addr} {oc_check_plan kV_check_plan dc_check_plan pm_check_plan cd_check_plan ct_check_plan : Value} {od_check_plan an_check_plan : Option Addr} {sl_check_plan : Array (Option Value)}
    {f_check_window : Addr} {oc_check_window kV_check_window dc_check_window pm_check_window cd_check_window ct_check_window : Value} {od_check_window an_check_window : Option Addr} {sl_check_window : Array (Option Value)}
    {f_first_bite : Addr} {oc_first_bite kV_first_bite dc_first_bite pm_first_bite cd_first_bite ct_first_bite : Value} {od_first_bite an_first_bite : Option Addr} {sl_first_bite : Array (Option Value)}
    {f_holds : Addr} {oc_holds kV_holds dc_holds pm_holds cd_holds ct_holds : Value} {od_holds an_holds : Option Addr} {sl_holds : Array (Option Value)}
    {f_spread : Addr} {oc_spread kV_spread dc_spread pm_spread cd_spread ct_spread : Value} {od_spread an_spread : Option Addr} {sl_spread : Array (Option Value)}
    {f_way_to : Addr} {oc_way_to kV_way_to dc_way_to pm_way_to cd_way_to ct_way_to : Value} {od_way_to an_way_to : Option Addr} {sl_way_to : Array (Option Value)}
    {f_goals_of_rounds : Addr} {oc_goals_of_rounds kV_goals_of_rounds dc_goals_of_rounds pm_goals_of_rounds cd_goals_of_rounds ct_goals_of_rounds : Value} {od_goals_of_rounds an_goals_of_rounds : Option Addr} {sl_goals_of_rounds : Array (Option Value)}
    {f_delays_of_rounds : Addr} {oc_delays_of_rounds kV_delays_of_rounds dc_delays_of_rounds pm_delays_of_rounds cd_delays_of_rounds ct_delays_of_rounds : Value} {od_delays_of_rounds an_delays_of_rounds : Option Addr} {sl_delays_of_rounds : Array (Option Value)}
    {f_bite_of_rounds : Addr} {oc_bite_of_rounds kV_bite_of_rounds dc_bite_of_rounds pm_bite_of_rounds cd_bite_of_rounds ct_bite_of_rounds : Value} {od_bite_of_rounds an_bite_of_rounds : Option Addr} {sl_bite_of_rounds : Array (Option Value)}
    {f_judged : Addr} {oc_judged kV_judged dc_judged pm_judged cd_judged ct_judged : Value} {od_judged an_judged : Option Addr} {sl_judged : Array (Option Value)}
    {f_check_works : Addr} {oc_check_works kV_check_works dc_check_works pm_check_works cd_check_works ct_check_works : Value} {od_check_works an_check_works : Option Addr} {sl_check_works : Array (Option Value)}
    {f_check_places : Addr} {oc_check_places kV_check_places dc_check_places pm_check_places cd_check_places ct_check_places : Value} {od_check_places an_check_places : Option Addr} {sl_check_places : Array (Option Value)}
    {f_plan_with : Addr} {oc_plan_with kV_plan_with dc_plan_with pm_plan_with cd_plan_with ct_plan_with : Value} {od_plan_with an_plan_with : Option Addr} {sl_plan_with : Array (Option Value)}
    {f_fewest : Addr} {oc_fewest kV_fewest dc_fewest pm_fewest cd_fewest ct_fewest : Value} {od_fewest an_fewest : Option Addr} {sl_fewest : Array (Option Value)}
    {f_shown : Addr} {oc_shown kV_shown dc_shown pm_shown cd_shown ct_shown : Value} {od_shown an_shown : Option Addr} {sl_shown : Array (Option Value)}
    {f_law_start : Addr} {oc_law_start kV_law_start dc_law_start pm_law_start cd_law_start ct_law_start : Value} {od_law_start an_law_start : Option Addr} {sl_law_start : Array (Option Value)}
    {f_law_drawn : Addr} {oc_law_drawn kV_law_drawn dc_law_drawn pm_law_drawn cd_law_drawn ct_law_drawn : Value} {od_law_drawn an_law_drawn : Option Addr} {sl_law_drawn : Array (Option Value)}
    {f_law_kind : Addr} {oc_law_kind kV_law_kind dc_law_kind pm_law_kind cd_law_kind ct_law_kind : Value} {od_law_kind an_law_kind : Option Addr} {sl_law_kind : Array (Option Value)}
    {f_law_works : Addr} {oc_law_works kV_law_works dc_law_works pm_law_works cd_law_works ct_law_works : Value} {od_law_works an_law_works : Option Addr} {sl_law_works : Array (Option Value)}
    {f_law_wide : Addr} {oc_law_wide kV_law_wide dc_law_wide pm_law_wide cd_law_wide ct_law_wide : Value} {od_law_wide an_law_wide : Option Addr} {sl_law_wide : Array (Option Value)}
    {f_law_sets : Addr} {oc_law_sets kV_law_sets dc_law_sets pm_law_sets cd_law_sets ct_law_sets : Value} {od_law_sets an_law_sets : Option Addr} {sl_law_sets : Array (Option Value)}
    {fa0 : Addr} {oc_law kV_law dc_law pm_law ct_law : Value} {od_law an_law : Option Addr} {sl_law : Array (Option Value)}
    {C_Run : Addr}
    {f_Run_init : Addr} {oc_Run_init kV_Run_init dc_Run_init pm_Run_init cd_Run_init ct_Run_init : Value} {od_Run_init an_Run_init : Option Addr} {sl_Run_init : Array (Option Value)}
    {f_Run_take : Addr} {oc_Run_take kV_Run_take dc_Run_take pm_Run_take cd_Run_take ct_Run_take : Value} {od_Run_take an_Run_take : Option Addr} {sl_Run_take : Array (Option Value)}
    {f_Run_follow : Addr} {oc_Run_follow kV_Run_follow dc_Run_follow pm_Run_follow cd_Run_follow ct_Run_follow : Value} {od_Run_follow an_Run_follow : Option Addr} {sl_Run_follow : Array (Option Value)}
    {C_Watcher : Addr}
    {f_Watcher_init : Addr} {oc_Watcher_init kV_Watcher_init dc_Watcher_init pm_Watcher_init cd_Watcher_init ct_Watcher_init : Value} {od_Watcher_init an_Watcher_init : Option Addr} {sl_Watcher_init : Array (Option Value)}
    {f_Watcher_gap_behind_pat : Addr} {oc_Watcher_gap_behind_pat kV_Watcher_gap_behind_pat dc_Watcher_gap_behind_pat pm_Watcher_gap_behind_pat cd_Watcher_gap_behind_pat ct_Watcher_gap_behind_pat : Value} {od_Watcher_gap_behind_pat an_Watcher_gap_behind_pat : Option Addr} {sl_Watcher_gap_behind_pat : Array (Option Value)}
    {f_Watcher_gap_behind_work : Addr} {oc_Watcher_gap_behind_work kV_Watcher_gap_behind_work dc_Watcher_gap_behind_work pm_Watcher_gap_behind_work cd_Watcher_gap_behind_work ct_Watcher_gap_behind_work : Value} {od_Watcher_gap_behind_work an_Watcher_gap_behind_work : Option Addr} {sl_Watcher_gap_behind_work : Array (Option Value)}
    {f_Watcher_gaps_ahead_of_pat : Addr} {oc_Watcher_gaps_ahead_of_pat kV_Watcher_gaps_ahead_of_pat dc_Watcher_gaps_ahead_of_pat pm_Watcher_gaps_ahead_of_pat cd_Watcher_gaps_ahead_of_pat ct_Watcher_gaps_ahead_of_pat : Value} {od_Watcher_gaps_ahead_of_pat an_Watcher_gaps_ahead_of_pat : Option Addr} {sl_Watcher_gaps_ahead_of_pat : Array (Option Value)}
    {f_Watcher_gaps_ahead_of_work : Addr} {oc_Watcher_gaps_ahead_of_work kV_Watcher_gaps_ahead_of_work dc_Watcher_gaps_ahead_of_work pm_Watcher_gaps_ahead_of_work cd_Watcher_gaps_ahead_of_work ct_Watcher_gaps_ahead_of_work : Value} {od_Watcher_gaps_ahead_of_work an_Watcher_gaps_ahead_of_work : Option Addr} {sl_Watcher_gaps_ahead_of_work : Array (Option Value)}
    {C_PatWay : Addr}
    {f_PatWay_init : Addr} {oc_PatWay_init kV_PatWay_init dc_PatWay_init pm_PatWay_init cd_PatWay_init ct_PatWay_init : Value} {od_PatWay_init an_PatWay_init : Option Addr} {sl_PatWay_init : Array (Option Value)}
    {f_PatWay_lead : Addr} {oc_PatWay_lead kV_PatWay_lead dc_PatWay_lead pm_PatWay_lead cd_PatWay_lead ct_PatWay_lead : Value} {od_PatWay_lead an_PatWay_lead : Option Addr} {sl_PatWay_lead : Array (Option Value)}
    {C_WorkWay : Addr}
    {f_WorkWay_init : Addr} {oc_WorkWay_init kV_WorkWay_init dc_WorkWay_init pm_WorkWay_init cd_WorkWay_init ct_WorkWay_init : Value} {od_WorkWay_init an_WorkWay_init : Option Addr} {sl_WorkWay_init : Array (Option Value)}
    {f_WorkWay_lead : Addr} {oc_WorkWay_lead kV_WorkWay_lead dc_WorkWay_lead pm_WorkWay_lead cd_WorkWay_lead ct_WorkWay_lead : Value} {od_WorkWay_lead an_WorkWay_lead : Option Addr} {sl_WorkWay_lead : Array (Option Value)}
    {C_RowWay : Addr}
    {f_RowWay_init : Addr} {oc_RowWay_init kV_RowWay_init dc_RowWay_init pm_RowWay_init cd_RowWay_init ct_RowWay_init : Value} {od_RowWay_init an_RowWay_init : Option Addr} {sl_RowWay_init : Array (Option Value)}
    {f_RowWay_lead : Addr} {oc_RowWay_lead kV_RowWay_lead dc_RowWay_lead pm_RowWay_lead cd_RowWay_lead ct_RowWay_lead : Value} {od_RowWay_lead an_RowWay_lead : Option Addr} {sl_RowWay_lead : Array (Option Value)}
    {C_EitherWay : Addr}
    {f_EitherWay_init : Addr} {oc_EitherWay_init kV_EitherWay_init dc_EitherWay_init pm_EitherWay_init cd_EitherWay_init ct_EitherWay_init : Value} {od_EitherWay_init an_EitherWay_init : Option Addr} {sl_EitherWay_init : Array (Option Value)}
    {f_EitherWay_lead : Addr} {oc_EitherWay_lead kV_EitherWay_lead dc_EitherWay_lead pm_EitherWay_lead cd_EitherWay_lead ct_EitherWay_lead : Value} {od_EitherWay_lead an_EitherWay_lead : Option Addr} {sl_EitherWay_lead : Array (Option Value)}
    {C_LoopWay : Addr}
    {f_LoopWay_init : Addr} {oc_LoopWay_init kV_LoopWay_init dc_LoopWay_init pm_LoopWay_init cd_LoopWay_init ct_LoopWay_init : Value} {od_LoopWay_init an_LoopWay_init : Option Addr} {sl_LoopWay_init : Array (Option Value)}
    {f_LoopWay_lead : Addr} {oc_LoopWay_lead kV_LoopWay_lead dc_LoopWay_lead pm_LoopWay_lead cd_LoopWay_lead ct_LoopWay_lead : Value} {od_LoopWay_lead an_LoopWay_lead : Option Addr} {sl_LoopWay_lead : Array (Option Value)}
    {C_Ring : Addr}
    {f_Ring_init : Addr} {oc_Ring_init kV_Ring_init dc_Ring_init pm_Ring_init cd_Ring_init ct_Ring_init : Value} {od_Ring_init an_Ring_init : Option Addr} {sl_Ring_init : Array (Option Value)}
    {f_Ring_is_timely : Addr} {oc_Ring_is_timely kV_Ring_is_timely dc_Ring_is_timely pm_Ring_is_timely cd_Ring_is_timely ct_Ring_is_timely : Value} {od_Ring_is_timely an_Ring_is_timely : Option Addr} {sl_Ring_is_timely : Array (Option Value)}
    {f_Ring_fits : Addr} {oc_Ring_fits kV_Ring_fits dc_Ring_fits pm_Ring_fits cd_Ring_fits ct_Ring_fits : Value} {od_Ring_fits an_Ring_fits : Option Addr} {sl_Ring_fits : Array (Option Value)}
    {f_Ring_first_places : Addr} {oc_Ring_first_places kV_Ring_first_places dc_Ring_first_places pm_Ring_first_places cd_Ring_first_places ct_Ring_first_places : Value} {od_Ring_first_places an_Ring_first_places : Option Addr} {sl_Ring_first_places : Array (Option Value)}
    {f_Ring_next_places : Addr} {oc_Ring_next_places kV_Ring_next_places dc_Ring_next_places pm_Ring_next_places cd_Ring_next_places ct_Ring_next_places : Value} {od_Ring_next_places an_Ring_next_places : Option Addr} {sl_Ring_next_places : Array (Option Value)}
    {f_Ring_next_level : Addr} {oc_Ring_next_level kV_Ring_next_level dc_Ring_next_level pm_Ring_next_level cd_Ring_next_level ct_Ring_next_level : Value} {od_Ring_next_level an_Ring_next_level : Option Addr} {sl_Ring_next_level : Array (Option Value)}
    {f_Ring_levels_of : Addr} {oc_Ring_levels_of kV_Ring_levels_of dc_Ring_levels_of pm_Ring_levels_of cd_Ring_levels_of ct_Ring_levels_of : Value} {od_Ring_levels_of an_Ring_levels_of : Option Addr} {sl_Ring_levels_of : Array (Option Value)}
    {f_Ring_comes_back : Addr} {oc_Ring_comes_back kV_Ring_comes_back dc_Ring_comes_back pm_Ring_comes_back cd_Ring_comes_back ct_Ring_comes_back : Value} {od_Ring_comes_back an_Ring_comes_back : Option Addr} {sl_Ring_comes_back : Array (Option Value)}
    {cc Pt : Addr} {occ : Value} {odc : Option Addr} {slc : Array (Option Value)} {vsc : Array Value}
    {t_LONGEST_WORK : Tok}
    {t_MOST_TIMES : Tok}
    {t_LONGEST_ROW : Tok}
    {t_MOST_PLANS : Tok}
    {t_MOST_DEEP : Tok}
    {t_MOST_LOOPS : Tok}
    {t_GREATEST_HIGH : Tok}
    {t_MOST_WORKS : Tok}
    {CD C_0 C_1 C_2 C_3 C_4 C_5 C_6 C_7 C_8 : Addr}
    (a_is_number : PySem.W.nsIn K mainGlobals "is_number" = some (some (.ref f_is_number)))
    (l_is_number : K.lookup f_is_number = some ⟨oc_is_number, od_is_number, .func (PySem.W.fnOf "is_number" "is_number" (C8.fnArgs s_is_number) (C8.fnBody s_is_number) (C8.fnScope s_is_number) .none kV_is_number dc_is_number pm_is_number an_is_number cd_is_number ct_is_number), sl_is_number⟩)
    (c_is_number : PySem.W.codeIn K cd_is_number "is_number" = true)
    (k_is_number : PySem.W.keepIn K (.ref f_is_number) = true)
    (a_is_range : PySem.W.nsIn K mainGlobals "is_range" = some (some (.ref f_is_range)))
    (l_is_range : K.lookup f_is_range = some ⟨oc_is_range, od_is_range, .func (PySem.W.fnOf "is_range" "is_range" (C8.fnArgs s_is_range) (C8.fnBody s_is_range) (C8.fnScope s_is_range) .none kV_is_range dc_is_range pm_is_range an_is_range cd_is_range ct_is_range), sl_is_range⟩)
    (c_is_range : PySem.W.codeIn K cd_is_range "is_range" = true)
    (k_is_range : PySem.W.keepIn K (.ref f_is_range) = true)
    (a_has_form : PySem.W.nsIn K mainGlobals "has_form" = some (some (.ref f_has_form)))
    (l_has_form : K.lookup f_has_form = some ⟨oc_has_form, od_has_form, .func (PySem.W.fnOf "has_form" "has_form" (C8.fnArgs s_has_form) (C8.fnBody s_has_form) (C8.fnScope s_has_form) .none kV_has_form dc_has_form pm_has_form an_has_form cd_has_form ct_has_form), sl_has_form⟩)
    (c_has_form : PySem.W.codeIn K cd_has_form "has_form" = true)
    (k_has_form : PySem.W.keepIn K (.ref f_has_form) = true)
    (a_plans_in : PySem.W.nsIn K mainGlobals "plans_in" = some (some (.ref f_plans_in)))
    (l_plans_in : K.lookup f_plans_in = some ⟨oc_plans_in, od_plans_in, .func (PySem.W.fnOf "plans_in" "plans_in" (C8.fnArgs s_plans_in) (C8.fnBody s_plans_in) (C8.fnScope s_plans_in) .none kV_plans_in dc_plans_in pm_plans_in an_plans_in cd_plans_in ct_plans_in), sl_plans_in⟩)
    (c_plans_in : PySem.W.codeIn K cd_plans_in "plans_in" = true)
    (k_plans_in : PySem.W.keepIn K (.ref f_plans_in) = true)
    (a_check_plan : PySem.W.nsIn K mainGlobals "check_plan" = some (some (.ref f_check_plan)))
    (l_check_plan : K.lookup f_check_plan = some ⟨oc_check_plan, od_check_plan, .func (PySem.W.fnOf "check_plan" "check_plan" (C8.fnArgs s_check_plan) (C8.fnBody s_check_plan) (C8.fnScope s_check_plan) .none kV_check_plan dc_check_plan pm_check_plan an_check_plan cd_check_plan ct_check_plan), sl_check_plan⟩)
    (c_check_plan : PySem.W.codeIn K cd_check_plan "check_plan" = true)
    (k_check_plan : PySem.W.keepIn K (.ref f_check_plan) = true)
    (a_check_window : PySem.W.nsIn K mainGlobals "check_window" = some (some (.ref f_check_window)))
    (l_check_window : K.lookup f_check_window = some ⟨oc_check_window, od_check_window, .func (PySem.W.fnOf "check_window" "check_window" (C8.fnArgs s_check_window) (C8.fnBody s_check_window) (C8.fnScope s_check_window) .none kV_check_window dc_check_window pm_check_window an_check_window cd_check_window ct_check_window), sl_check_window⟩)
    (c_check_window : PySem.W.codeIn K cd_check_window "check_window" = true)
    (k_check_window : PySem.W.keepIn K (.ref f_check_window) = true)
    (a_first_bite : PySem.W.nsIn K mainGlobals "first_bite" = some (some (.ref f_first_bite)))
    (l_first_bite : K.lookup f_first_bite = some ⟨oc_first_bite, od_first_bite, .func (PySem.W.fnOf "first_bite" "first_bite" (C8.fnArgs s_first_bite) (C8.fnBody s_first_bite) (C8.fnScope s_first_bite) .none kV_first_bite dc_first_bite pm_first_bite an_first_bite cd_first_bite ct_first_bite), sl_first_bite⟩)
    (c_first_bite : PySem.W.codeIn K cd_first_bite "first_bite" = true)
    (k_first_bite : PySem.W.keepIn K (.ref f_first_bite) = true)
    (a_holds : PySem.W.nsIn K mainGlobals "holds" = some (some (.ref f_holds)))
    (l_holds : K.lookup f_holds = some ⟨oc_holds, od_holds, .func (PySem.W.fnOf "holds" "holds" (C8.fnArgs s_holds) (C8.fnBody s_holds) (C8.fnScope s_holds) .none kV_holds dc_holds pm_holds an_holds cd_holds ct_holds), sl_holds⟩)
    (c_holds : PySem.W.codeIn K cd_holds "holds" = true)
    (k_holds : PySem.W.keepIn K (.ref f_holds) = true)
    (a_spread : PySem.W.nsIn K mainGlobals "spread" = some (some (.ref f_spread)))
    (l_spread : K.lookup f_spread = some ⟨oc_spread, od_spread, .func (PySem.W.fnOf "spread" "spread" (C8.fnArgs s_spread) (C8.fnBody s_spread) (C8.fnScope s_spread) .none kV_spread dc_spread pm_spread an_spread cd_spread ct_spread), sl_spread⟩)
    (c_spread : PySem.W.codeIn K cd_spread "spread" = true)
    (k_spread : PySem.W.keepIn K (.ref f_spread) = true)
    (a_way_to : PySem.W.nsIn K mainGlobals "way_to" = some (some (.ref f_way_to)))
    (l_way_to : K.lookup f_way_to = some ⟨oc_way_to, od_way_to, .func (PySem.W.fnOf "way_to" "way_to" (C8.fnArgs s_way_to) (C8.fnBody s_way_to) (C8.fnScope s_way_to) .none kV_way_to dc_way_to pm_way_to an_way_to cd_way_to ct_way_to), sl_way_to⟩)
    (c_way_to : PySem.W.codeIn K cd_way_to "way_to" = true)
    (k_way_to : PySem.W.keepIn K (.ref f_way_to) = true)
    (a_goals_of_rounds : PySem.W.nsIn K mainGlobals "goals_of_rounds" = some (some (.ref f_goals_of_rounds)))
    (l_goals_of_rounds : K.lookup f_goals_of_rounds = some ⟨oc_goals_of_rounds, od_goals_of_rounds, .func (PySem.W.fnOf "goals_of_rounds" "goals_of_rounds" (C8.fnArgs s_goals_of_rounds) (C8.fnBody s_goals_of_rounds) (C8.fnScope s_goals_of_rounds) .none kV_goals_of_rounds dc_goals_of_rounds pm_goals_of_rounds an_goals_of_rounds cd_goals_of_rounds ct_goals_of_rounds), sl_goals_of_rounds⟩)
    (c_goals_of_rounds : PySem.W.codeIn K cd_goals_of_rounds "goals_of_rounds" = true)
    (k_goals_of_rounds : PySem.W.keepIn K (.ref f_goals_of_rounds) = true)
    (a_delays_of_rounds : PySem.W.nsIn K mainGlobals "delays_of_rounds" = some (some (.ref f_delays_of_rounds)))
    (l_delays_of_rounds : K.lookup f_delays_of_rounds = some ⟨oc_delays_of_rounds, od_delays_of_rounds, .func (PySem.W.fnOf "delays_of_rounds" "delays_of_rounds" (C8.fnArgs s_delays_of_rounds) (C8.fnBody s_delays_of_rounds) (C8.fnScope s_delays_of_rounds) .none kV_delays_of_rounds dc_delays_of_rounds pm_delays_of_rounds an_delays_of_rounds cd_delays_of_rounds ct_delays_of_rounds), sl_delays_of_rounds⟩)
    (c_delays_of_rounds : PySem.W.codeIn K cd_delays_of_rounds "delays_of_rounds" = true)
    (k_delays_of_rounds : PySem.W.keepIn K (.ref f_delays_of_rounds) = true)
    (a_bite_of_rounds : PySem.W.nsIn K mainGlobals "bite_of_rounds" = some (some (.ref f_bite_of_rounds)))
    (l_bite_of_rounds : K.lookup f_bite_of_rounds = some ⟨oc_bite_of_rounds, od_bite_of_rounds, .func (PySem.W.fnOf "bite_of_rounds" "bite_of_rounds" (C8.fnArgs s_bite_of_rounds) (C8.fnBody s_bite_of_rounds) (C8.fnScope s_bite_of_rounds) .none kV_bite_of_rounds dc_bite_of_rounds pm_bite_of_rounds an_bite_of_rounds cd_bite_of_rounds ct_bite_of_rounds), sl_bite_of_rounds⟩)
    (c_bite_of_rounds : PySem.W.codeIn K cd_bite_of_rounds "bite_of_rounds" = true)
    (k_bite_of_rounds : PySem.W.keepIn K (.ref f_bite_of_rounds) = true)
    (a_judged : PySem.W.nsIn K mainGlobals "judged" = some (some (.ref f_judged)))
    (l_judged : K.lookup f_judged = some ⟨oc_judged, od_judged, .func (PySem.W.fnOf "judged" "judged" (C8.fnArgs s_judged) (C8.fnBody s_judged) (C8.fnScope s_judged) .none kV_judged dc_judged pm_judged an_judged cd_judged ct_judged), sl_judged⟩)
    (c_judged : PySem.W.codeIn K cd_judged "judged" = true)
    (k_judged : PySem.W.keepIn K (.ref f_judged) = true)
    (a_check_works : PySem.W.nsIn K mainGlobals "check_works" = some (some (.ref f_check_works)))
    (l_check_works : K.lookup f_check_works = some ⟨oc_check_works, od_check_works, .func (PySem.W.fnOf "check_works" "check_works" (C8.fnArgs s_check_works) (C8.fnBody s_check_works) (C8.fnScope s_check_works) .none kV_check_works dc_check_works pm_check_works an_check_works cd_check_works ct_check_works), sl_check_works⟩)
    (c_check_works : PySem.W.codeIn K cd_check_works "check_works" = true)
    (k_check_works : PySem.W.keepIn K (.ref f_check_works) = true)
    (a_check_places : PySem.W.nsIn K mainGlobals "check_places" = some (some (.ref f_check_places)))
    (l_check_places : K.lookup f_check_places = some ⟨oc_check_places, od_check_places, .func (PySem.W.fnOf "check_places" "check_places" (C8.fnArgs s_check_places) (C8.fnBody s_check_places) (C8.fnScope s_check_places) .none kV_check_places dc_check_places pm_check_places an_check_places cd_check_places ct_check_places), sl_check_places⟩)
    (c_check_places : PySem.W.codeIn K cd_check_places "check_places" = true)
    (k_check_places : PySem.W.keepIn K (.ref f_check_places) = true)
    (a_plan_with : PySem.W.nsIn K mainGlobals "plan_with" = some (some (.ref f_plan_with)))
    (l_plan_with : K.lookup f_plan_with = some ⟨oc_plan_with, od_plan_with, .func (PySem.W.fnOf "plan_with" "plan_with" (C8.fnArgs s_plan_with) (C8.fnBody s_plan_with) (C8.fnScope s_plan_with) .none kV_plan_with dc_plan_with pm_plan_with an_plan_with cd_plan_with ct_plan_with), sl_plan_with⟩)
    (c_plan_with : PySem.W.codeIn K cd_plan_with "plan_with" = true)
    (k_plan_with : PySem.W.keepIn K (.ref f_plan_with) = true)
    (a_fewest : PySem.W.nsIn K mainGlobals "fewest" = some (some (.ref f_fewest)))
    (l_fewest : K.lookup f_fewest = some ⟨oc_fewest, od_fewest, .func (PySem.W.fnOf "fewest" "fewest" (C8.fnArgs s_fewest) (C8.fnBody s_fewest) (C8.fnScope s_fewest) .none kV_fewest dc_fewest pm_fewest an_fewest cd_fewest ct_fewest), sl_fewest⟩)
    (c_fewest : PySem.W.codeIn K cd_fewest "fewest" = true)
    (k_fewest : PySem.W.keepIn K (.ref f_fewest) = true)
    (a_shown : PySem.W.nsIn K mainGlobals "shown" = some (some (.ref f_shown)))
    (l_shown : K.lookup f_shown = some ⟨oc_shown, od_shown, .func (PySem.W.fnOf "shown" "shown" (C8.fnArgs s_shown) (C8.fnBody s_shown) (C8.fnScope s_shown) .none kV_shown dc_shown pm_shown an_shown cd_shown ct_shown), sl_shown⟩)
    (c_shown : PySem.W.codeIn K cd_shown "shown" = true)
    (k_shown : PySem.W.keepIn K (.ref f_shown) = true)
    (a_law_start : PySem.W.nsIn K mainGlobals "_law_start" = some (some (.ref f_law_start)))
    (l_law_start : K.lookup f_law_start = some ⟨oc_law_start, od_law_start, .func (PySem.W.fnOf "_law_start" "_law_start" (C8.fnArgs s_law_start) (C8.fnBody s_law_start) (C8.fnScope s_law_start) .none kV_law_start dc_law_start pm_law_start an_law_start cd_law_start ct_law_start), sl_law_start⟩)
    (c_law_start : PySem.W.codeIn K cd_law_start "_law_start" = true)
    (k_law_start : PySem.W.keepIn K (.ref f_law_start) = true)
    (a_law_drawn : PySem.W.nsIn K mainGlobals "_law_drawn" = some (some (.ref f_law_drawn)))
    (l_law_drawn : K.lookup f_law_drawn = some ⟨oc_law_drawn, od_law_drawn, .func (PySem.W.fnOf "_law_drawn" "_law_drawn" (C8.fnArgs s_law_drawn) (C8.fnBody s_law_drawn) (C8.fnScope s_law_drawn) .none kV_law_drawn dc_law_drawn pm_law_drawn an_law_drawn cd_law_drawn ct_law_drawn), sl_law_drawn⟩)
    (c_law_drawn : PySem.W.codeIn K cd_law_drawn "_law_drawn" = true)
    (k_law_drawn : PySem.W.keepIn K (.ref f_law_drawn) = true)
    (a_law_kind : PySem.W.nsIn K mainGlobals "_law_kind" = some (some (.ref f_law_kind)))
    (l_law_kind : K.lookup f_law_kind = some ⟨oc_law_kind, od_law_kind, .func (PySem.W.fnOf "_law_kind" "_law_kind" (C8.fnArgs s_law_kind) (C8.fnBody s_law_kind) (C8.fnScope s_law_kind) .none kV_law_kind dc_law_kind pm_law_kind an_law_kind cd_law_kind ct_law_kind), sl_law_kind⟩)
    (c_law_kind : PySem.W.codeIn K cd_law_kind "_law_kind" = true)
    (k_law_kind : PySem.W.keepIn K (.ref f_law_kind) = true)
    (a_law_works : PySem.W.nsIn K mainGlobals "_law_works" = some (some (.ref f_law_works)))
    (l_law_works : K.lookup f_law_works = some ⟨oc_law_works, od_law_works, .func (PySem.W.fnOf "_law_works" "_law_works" (C8.fnArgs s_law_works) (C8.fnBody s_law_works) (C8.fnScope s_law_works) .none kV_law_works dc_law_works pm_law_works an_law_works cd_law_works ct_law_works), sl_law_works⟩)
    (c_law_works : PySem.W.codeIn K cd_law_works "_law_works" = true)
    (k_law_works : PySem.W.keepIn K (.ref f_law_works) = true)
    (a_law_wide : PySem.W.nsIn K mainGlobals "_law_wide" = some (some (.ref f_law_wide)))
    (l_law_wide : K.lookup f_law_wide = some ⟨oc_law_wide, od_law_wide, .func (PySem.W.fnOf "_law_wide" "_law_wide" (C8.fnArgs s_law_wide) (C8.fnBody s_law_wide) (C8.fnScope s_law_wide) .none kV_law_wide dc_law_wide pm_law_wide an_law_wide cd_law_wide ct_law_wide), sl_law_wide⟩)
    (c_law_wide : PySem.W.codeIn K cd_law_wide "_law_wide" = true)
    (k_law_wide : PySem.W.keepIn K (.ref f_law_wide) = true)
    (a_law_sets : PySem.W.nsIn K mainGlobals "_law_sets" = some (some (.ref f_law_sets)))
    (l_law_sets : K.lookup f_law_sets = some ⟨oc_law_sets, od_law_sets, .func (PySem.W.fnOf "_law_sets" "_law_sets" (C8.fnArgs s_law_sets) (C8.fnBody s_law_sets) (C8.fnScope s_law_sets) .none kV_law_sets dc_law_sets pm_law_sets an_law_sets cd_law_sets ct_law_sets), sl_law_sets⟩)
    (c_law_sets : PySem.W.codeIn K cd_law_sets "_law_sets" = true)
    (k_law_sets : PySem.W.keepIn K (.ref f_law_sets) = true)
    (a_law : PySem.W.nsIn K mainGlobals "law" = some (some (.ref fa0)))
    (l_law : K.lookup fa0 = some ⟨oc_law, od_law, .func (PySem.W.fnOf "law" "law" (C8.fnArgs s_law) (C8.fnBody s_law) (C8.fnScope s_law) .none kV_law dc_law pm_law an_law (.ref cc) ct_law), sl_law⟩)
    (c_law : PySem.W.codeIn K (.ref cc) "law" = true)
    (k_law : PySem.W.keepIn K (.ref fa0) = true)
    (aC_Run : PySem.W.nsIn K mainGlobals "Run" = some (some (.ref C_Run)))
    (a_Run_init : PySem.W.findIn K (.ref C_Run) "__init__" = some (some (.ref f_Run_init)))
    (i_Run_init : PySem.W.isFn K (.ref f_Run_init) = true)
    (l_Run_init : K.lookup f_Run_init = some ⟨oc_Run_init, od_Run_init, .func (PySem.W.fnOf "__init__" "Run.__init__" (C8.fnArgs s_Run_init) (C8.fnBody s_Run_init) (C8.fnScope s_Run_init) .none kV_Run_init dc_Run_init pm_Run_init an_Run_init cd_Run_init ct_Run_init), sl_Run_init⟩)
    (c_Run_init : PySem.W.codeIn K cd_Run_init "Run.__init__" = true)
    (k_Run_init : PySem.W.keepIn K (.ref f_Run_init) = true)
    (a_Run_take : PySem.W.findIn K (.ref C_Run) "take" = some (some (.ref f_Run_take)))
    (i_Run_take : PySem.W.isFn K (.ref f_Run_take) = true)
    (l_Run_take : K.lookup f_Run_take = some ⟨oc_Run_take, od_Run_take, .func (PySem.W.fnOf "take" "Run.take" (C8.fnArgs s_Run_take) (C8.fnBody s_Run_take) (C8.fnScope s_Run_take) .none kV_Run_take dc_Run_take pm_Run_take an_Run_take cd_Run_take ct_Run_take), sl_Run_take⟩)
    (c_Run_take : PySem.W.codeIn K cd_Run_take "Run.take" = true)
    (k_Run_take : PySem.W.keepIn K (.ref f_Run_take) = true)
    (a_Run_follow : PySem.W.findIn K (.ref C_Run) "follow" = some (some (.ref f_Run_follow)))
    (i_Run_follow : PySem.W.isFn K (.ref f_Run_follow) = true)
    (l_Run_follow : K.lookup f_Run_follow = some ⟨oc_Run_follow, od_Run_follow, .func (PySem.W.fnOf "follow" "Run.follow" (C8.fnArgs s_Run_follow) (C8.fnBody s_Run_follow) (C8.fnScope s_Run_follow) .none kV_Run_follow dc_Run_follow pm_Run_follow an_Run_follow cd_Run_follow ct_Run_follow), sl_Run_follow⟩)
    (c_Run_follow : PySem.W.codeIn K cd_Run_follow "Run.follow" = true)
    (k_Run_follow : PySem.W.keepIn K (.ref f_Run_follow) = true)
    (pg_Run : PySem.W.plainGet K C_Run Str.empty = true)
    (hdd_Run : PySem.W.hasDictIn K C_Run = true)
    (po_Run : PySem.W.plainOver K C_Run = true)
    (sa_Run : PySem.W.findIn K (.ref C_Run) "__setattr__" = some (some (.builtin "object.__setattr__")))
    (mk_Run : PySem.W.makesIn K C_Run = true)
    (kc_Run : PySem.W.keepIn K (.ref C_Run) = true)
    (n_Run_delays : PySem.W.findIn K (.ref C_Run) "delays" = some none)
    (n_Run_used : PySem.W.findIn K (.ref C_Run) "used" = some none)
    (n_Run_now : PySem.W.findIn K (.ref C_Run) "now" = some none)
    (n_Run_pats : PySem.W.findIn K (.ref C_Run) "pats" = some none)
    (aC_Watcher : PySem.W.nsIn K mainGlobals "Watcher" = some (some (.ref C_Watcher)))
    (a_Watcher_init : PySem.W.findIn K (.ref C_Watcher) "__init__" = some (some (.ref f_Watcher_init)))
    (i_Watcher_init : PySem.W.isFn K (.ref f_Watcher_init) = true)
    (l_Watcher_init : K.lookup f_Watcher_init = some ⟨oc_Watcher_init, od_Watcher_init, .func (PySem.W.fnOf "__init__" "Watcher.__init__" (C8.fnArgs s_Watcher_init) (C8.fnBody s_Watcher_init) (C8.fnScope s_Watcher_init) .none kV_Watcher_init dc_Watcher_init pm_Watcher_init an_Watcher_init cd_Watcher_init ct_Watcher_init), sl_Watcher_init⟩)
    (c_Watcher_init : PySem.W.codeIn K cd_Watcher_init "Watcher.__init__" = true)
    (k_Watcher_init : PySem.W.keepIn K (.ref f_Watcher_init) = true)
    (a_Watcher_gap_behind_pat : PySem.W.findIn K (.ref C_Watcher) "gap_behind_pat" = some (some (.ref f_Watcher_gap_behind_pat)))
    (i_Watcher_gap_behind_pat : PySem.W.isFn K (.ref f_Watcher_gap_behind_pat) = true)
    (l_Watcher_gap_behind_pat : K.lookup f_Watcher_gap_behind_pat = some ⟨oc_Watcher_gap_behind_pat, od_Watcher_gap_behind_pat, .func (PySem.W.fnOf "gap_behind_pat" "Watcher.gap_behind_pat" (C8.fnArgs s_Watcher_gap_behind_pat) (C8.fnBody s_Watcher_gap_behind_pat) (C8.fnScope s_Watcher_gap_behind_pat) .none kV_Watcher_gap_behind_pat dc_Watcher_gap_behind_pat pm_Watcher_gap_behind_pat an_Watcher_gap_behind_pat cd_Watcher_gap_behind_pat ct_Watcher_gap_behind_pat), sl_Watcher_gap_behind_pat⟩)
    (c_Watcher_gap_behind_pat : PySem.W.codeIn K cd_Watcher_gap_behind_pat "Watcher.gap_behind_pat" = true)
    (k_Watcher_gap_behind_pat : PySem.W.keepIn K (.ref f_Watcher_gap_behind_pat) = true)
    (a_Watcher_gap_behind_work : PySem.W.findIn K (.ref C_Watcher) "gap_behind_work" = some (some (.ref f_Watcher_gap_behind_work)))
    (i_Watcher_gap_behind_work : PySem.W.isFn K (.ref f_Watcher_gap_behind_work) = true)
    (l_Watcher_gap_behind_work : K.lookup f_Watcher_gap_behind_work = some ⟨oc_Watcher_gap_behind_work, od_Watcher_gap_behind_work, .func (PySem.W.fnOf "gap_behind_work" "Watcher.gap_behind_work" (C8.fnArgs s_Watcher_gap_behind_work) (C8.fnBody s_Watcher_gap_behind_work) (C8.fnScope s_Watcher_gap_behind_work) .none kV_Watcher_gap_behind_work dc_Watcher_gap_behind_work pm_Watcher_gap_behind_work an_Watcher_gap_behind_work cd_Watcher_gap_behind_work ct_Watcher_gap_behind_work), sl_Watcher_gap_behind_work⟩)
    (c_Watcher_gap_behind_work : PySem.W.codeIn K cd_Watcher_gap_behind_work "Watcher.gap_behind_work" = true)
    (k_Watcher_gap_behind_work : PySem.W.keepIn K (.ref f_Watcher_gap_behind_work) = true)
    (a_Watcher_gaps_ahead_of_pat : PySem.W.findIn K (.ref C_Watcher) "gaps_ahead_of_pat" = some (some (.ref f_Watcher_gaps_ahead_of_pat)))
    (i_Watcher_gaps_ahead_of_pat : PySem.W.isFn K (.ref f_Watcher_gaps_ahead_of_pat) = true)
    (l_Watcher_gaps_ahead_of_pat : K.lookup f_Watcher_gaps_ahead_of_pat = some ⟨oc_Watcher_gaps_ahead_of_pat, od_Watcher_gaps_ahead_of_pat, .func (PySem.W.fnOf "gaps_ahead_of_pat" "Watcher.gaps_ahead_of_pat" (C8.fnArgs s_Watcher_gaps_ahead_of_pat) (C8.fnBody s_Watcher_gaps_ahead_of_pat) (C8.fnScope s_Watcher_gaps_ahead_of_pat) .none kV_Watcher_gaps_ahead_of_pat dc_Watcher_gaps_ahead_of_pat pm_Watcher_gaps_ahead_of_pat an_Watcher_gaps_ahead_of_pat cd_Watcher_gaps_ahead_of_pat ct_Watcher_gaps_ahead_of_pat), sl_Watcher_gaps_ahead_of_pat⟩)
    (c_Watcher_gaps_ahead_of_pat : PySem.W.codeIn K cd_Watcher_gaps_ahead_of_pat "Watcher.gaps_ahead_of_pat" = true)
    (k_Watcher_gaps_ahead_of_pat : PySem.W.keepIn K (.ref f_Watcher_gaps_ahead_of_pat) = true)
    (a_Watcher_gaps_ahead_of_work : PySem.W.findIn K (.ref C_Watcher) "gaps_ahead_of_work" = some (some (.ref f_Watcher_gaps_ahead_of_work)))
    (i_Watcher_gaps_ahead_of_work : PySem.W.isFn K (.ref f_Watcher_gaps_ahead_of_work) = true)
    (l_Watcher_gaps_ahead_of_work : K.lookup f_Watcher_gaps_ahead_of_work = some ⟨oc_Watcher_gaps_ahead_of_work, od_Watcher_gaps_ahead_of_work, .func (PySem.W.fnOf "gaps_ahead_of_work" "Watcher.gaps_ahead_of_work" (C8.fnArgs s_Watcher_gaps_ahead_of_work) (C8.fnBody s_Watcher_gaps_ahead_of_work) (C8.fnScope s_Watcher_gaps_ahead_of_work) .none kV_Watcher_gaps_ahead_of_work dc_Watcher_gaps_ahead_of_work pm_Watcher_gaps_ahead_of_work an_Watcher_gaps_ahead_of_work cd_Watcher_gaps_ahead_of_work ct_Watcher_gaps_ahead_of_work), sl_Watcher_gaps_ahead_of_work⟩)
    (c_Watcher_gaps_ahead_of_work : PySem.W.codeIn K cd_Watcher_gaps_ahead_of_work "Watcher.gaps_ahead_of_work" = true)
    (k_Watcher_gaps_ahead_of_work : PySem.W.keepIn K (.ref f_Watcher_gaps_ahead_of_work) = true)
    (pg_Watcher : PySem.W.plainGet K C_Watcher Str.empty = true)
    (hdd_Watcher : PySem.W.hasDictIn K C_Watcher = true)
    (po_Watcher : PySem.W.plainOver K C_Watcher = true)
    (sa_Watcher : PySem.W.findIn K (.ref C_Watcher) "__setattr__" = some (some (.builtin "object.__setattr__")))
    (mk_Watcher : PySem.W.makesIn K C_Watcher = true)
    (kc_Watcher : PySem.W.keepIn K (.ref C_Watcher) = true)
    (n_Watcher_low : PySem.W.findIn K (.ref C_Watcher) "low" = some none)
    (n_Watcher_high : PySem.W.findIn K (.ref C_Watcher) "high" = some none)
    (n_Watcher_bitten : PySem.W.findIn K (.ref C_Watcher) "bitten" = some none)
    (n_Watcher_bite : PySem.W.findIn K (.ref C_Watcher) "bite" = some none)
    (n_Watcher_too_soon : PySem.W.findIn K (.ref C_Watcher) "too_soon" = some none)
    (n_Watcher_timely : PySem.W.findIn K (.ref C_Watcher) "timely" = some none)
    (aC_PatWay : PySem.W.nsIn K mainGlobals "PatWay" = some (some (.ref C_PatWay)))
    (a_PatWay_init : PySem.W.findIn K (.ref C_PatWay) "__init__" = some (some (.ref f_PatWay_init)))
    (i_PatWay_init : PySem.W.isFn K (.ref f_PatWay_init) = true)
    (l_PatWay_init : K.lookup f_PatWay_init = some ⟨oc_PatWay_init, od_PatWay_init, .func (PySem.W.fnOf "__init__" "PatWay.__init__" (C8.fnArgs s_PatWay_init) (C8.fnBody s_PatWay_init) (C8.fnScope s_PatWay_init) .none kV_PatWay_init dc_PatWay_init pm_PatWay_init an_PatWay_init cd_PatWay_init ct_PatWay_init), sl_PatWay_init⟩)
    (c_PatWay_init : PySem.W.codeIn K cd_PatWay_init "PatWay.__init__" = true)
    (k_PatWay_init : PySem.W.keepIn K (.ref f_PatWay_init) = true)
    (a_PatWay_lead : PySem.W.findIn K (.ref C_PatWay) "lead" = some (some (.ref f_PatWay_lead)))
    (i_PatWay_lead : PySem.W.isFn K (.ref f_PatWay_lead) = true)
    (l_PatWay_lead : K.lookup f_PatWay_lead = some ⟨oc_PatWay_lead, od_PatWay_lead, .func (PySem.W.fnOf "lead" "PatWay.lead" (C8.fnArgs s_PatWay_lead) (C8.fnBody s_PatWay_lead) (C8.fnScope s_PatWay_lead) .none kV_PatWay_lead dc_PatWay_lead pm_PatWay_lead an_PatWay_lead cd_PatWay_lead ct_PatWay_lead), sl_PatWay_lead⟩)
    (c_PatWay_lead : PySem.W.codeIn K cd_PatWay_lead "PatWay.lead" = true)
    (k_PatWay_lead : PySem.W.keepIn K (.ref f_PatWay_lead) = true)
    (pg_PatWay : PySem.W.plainGet K C_PatWay Str.empty = true)
    (hdd_PatWay : PySem.W.hasDictIn K C_PatWay = true)
    (po_PatWay : PySem.W.plainOver K C_PatWay = true)
    (sa_PatWay : PySem.W.findIn K (.ref C_PatWay) "__setattr__" = some (some (.builtin "object.__setattr__")))
    (mk_PatWay : PySem.W.makesIn K C_PatWay = true)
    (kc_PatWay : PySem.W.keepIn K (.ref C_PatWay) = true)
    (n_PatWay_watcher : PySem.W.findIn K (.ref C_PatWay) "watcher" = some none)
    (n_PatWay_gaps : PySem.W.findIn K (.ref C_PatWay) "gaps" = some none)
    (aC_WorkWay : PySem.W.nsIn K mainGlobals "WorkWay" = some (some (.ref C_WorkWay)))
    (a_WorkWay_init : PySem.W.findIn K (.ref C_WorkWay) "__init__" = some (some (.ref f_WorkWay_init)))
    (i_WorkWay_init : PySem.W.isFn K (.ref f_WorkWay_init) = true)
    (l_WorkWay_init : K.lookup f_WorkWay_init = some ⟨oc_WorkWay_init, od_WorkWay_init, .func (PySem.W.fnOf "__init__" "WorkWay.__init__" (C8.fnArgs s_WorkWay_init) (C8.fnBody s_WorkWay_init) (C8.fnScope s_WorkWay_init) .none kV_WorkWay_init dc_WorkWay_init pm_WorkWay_init an_WorkWay_init cd_WorkWay_init ct_WorkWay_init), sl_WorkWay_init⟩)
    (c_WorkWay_init : PySem.W.codeIn K cd_WorkWay_init "WorkWay.__init__" = true)
    (k_WorkWay_init : PySem.W.keepIn K (.ref f_WorkWay_init) = true)
    (a_WorkWay_lead : PySem.W.findIn K (.ref C_WorkWay) "lead" = some (some (.ref f_WorkWay_lead)))
    (i_WorkWay_lead : PySem.W.isFn K (.ref f_WorkWay_lead) = true)
    (l_WorkWay_lead : K.lookup f_WorkWay_lead = some ⟨oc_WorkWay_lead, od_WorkWay_lead, .func (PySem.W.fnOf "lead" "WorkWay.lead" (C8.fnArgs s_WorkWay_lead) (C8.fnBody s_WorkWay_lead) (C8.fnScope s_WorkWay_lead) .none kV_WorkWay_lead dc_WorkWay_lead pm_WorkWay_lead an_WorkWay_lead cd_WorkWay_lead ct_WorkWay_lead), sl_WorkWay_lead⟩)
    (c_WorkWay_lead : PySem.W.codeIn K cd_WorkWay_lead "WorkWay.lead" = true)
    (k_WorkWay_lead : PySem.W.keepIn K (.ref f_WorkWay_lead) = true)
    (pg_WorkWay : PySem.W.plainGet K C_WorkWay Str.empty = true)
    (hdd_WorkWay : PySem.W.hasDictIn K C_WorkWay = true)
    (po_WorkWay : PySem.W.plainOver K C_WorkWay = true)
    (sa_WorkWay : PySem.W.findIn K (.ref C_WorkWay) "__setattr__" = some (some (.builtin "object.__setattr__")))
    (mk_WorkWay : PySem.W.makesIn K C_WorkWay = true)
    (kc_WorkWay : PySem.W.keepIn K (.ref C_WorkWay) = true)
    (n_WorkWay_watcher : PySem.W.findIn K (.ref C_WorkWay) "watcher" = some none)
    (n_WorkWay_goal : PySem.W.findIn K (.ref C_WorkWay) "goal" = some none)
    (n_WorkWay_least : PySem.W.findIn K (.ref C_WorkWay) "least" = some none)
    (n_WorkWay_gaps : PySem.W.findIn K (.ref C_WorkWay) "gaps" = some none)
    (aC_RowWay : PySem.W.nsIn K mainGlobals "RowWay" = some (some (.ref C_RowWay)))
    (a_RowWay_init : PySem.W.findIn K (.ref C_RowWay) "__init__" = some (some (.ref f_RowWay_init)))
    (i_RowWay_init : PySem.W.isFn K (.ref f_RowWay_init) = true)
    (l_RowWay_init : K.lookup f_RowWay_init = some ⟨oc_RowWay_init, od_RowWay_init, .func (PySem.W.fnOf "__init__" "RowWay.__init__" (C8.fnArgs s_RowWay_init) (C8.fnBody s_RowWay_init) (C8.fnScope s_RowWay_init) .none kV_RowWay_init dc_RowWay_init pm_RowWay_init an_RowWay_init cd_RowWay_init ct_RowWay_init), sl_RowWay_init⟩)
    (c_RowWay_init : PySem.W.codeIn K cd_RowWay_init "RowWay.__init__" = true)
    (k_RowWay_init : PySem.W.keepIn K (.ref f_RowWay_init) = true)
    (a_RowWay_lead : PySem.W.findIn K (.ref C_RowWay) "lead" = some (some (.ref f_RowWay_lead)))
    (i_RowWay_lead : PySem.W.isFn K (.ref f_RowWay_lead) = true)
    (l_RowWay_lead : K.lookup f_RowWay_lead = some ⟨oc_RowWay_lead, od_RowWay_lead, .func (PySem.W.fnOf "lead" "RowWay.lead" (C8.fnArgs s_RowWay_lead) (C8.fnBody s_RowWay_lead) (C8.fnScope s_RowWay_lead) .none kV_RowWay_lead dc_RowWay_lead pm_RowWay_lead an_RowWay_lead cd_RowWay_lead ct_RowWay_lead), sl_RowWay_lead⟩)
    (c_RowWay_lead : PySem.W.codeIn K cd_RowWay_lead "RowWay.lead" = true)
    (k_RowWay_lead : PySem.W.keepIn K (.ref f_RowWay_lead) = true)
    (pg_RowWay : PySem.W.plainGet K C_RowWay Str.empty = true)
    (hdd_RowWay : PySem.W.hasDictIn K C_RowWay = true)
    (po_RowWay : PySem.W.plainOver K C_RowWay = true)
    (sa_RowWay : PySem.W.findIn K (.ref C_RowWay) "__setattr__" = some (some (.builtin "object.__setattr__")))
    (mk_RowWay : PySem.W.makesIn K C_RowWay = true)
    (kc_RowWay : PySem.W.keepIn K (.ref C_RowWay) = true)
    (n_RowWay_ways : PySem.W.findIn K (.ref C_RowWay) "ways" = some none)
    (n_RowWay_gaps : PySem.W.findIn K (.ref C_RowWay) "gaps" = some none)
    (aC_EitherWay : PySem.W.nsIn K mainGlobals "EitherWay" = some (some (.ref C_EitherWay)))
    (a_EitherWay_init : PySem.W.findIn K (.ref C_EitherWay) "__init__" = some (some (.ref f_EitherWay_init)))
    (i_EitherWay_init : PySem.W.isFn K (.ref f_EitherWay_init) = true)
    (l_EitherWay_init : K.lookup f_EitherWay_init = some ⟨oc_EitherWay_init, od_EitherWay_init, .func (PySem.W.fnOf "__init__" "EitherWay.__init__" (C8.fnArgs s_EitherWay_init) (C8.fnBody s_EitherWay_init) (C8.fnScope s_EitherWay_init) .none kV_EitherWay_init dc_EitherWay_init pm_EitherWay_init an_EitherWay_init cd_EitherWay_init ct_EitherWay_init), sl_EitherWay_init⟩)
    (c_EitherWay_init : PySem.W.codeIn K cd_EitherWay_init "EitherWay.__init__" = true)
    (k_EitherWay_init : PySem.W.keepIn K (.ref f_EitherWay_init) = true)
    (a_EitherWay_lead : PySem.W.findIn K (.ref C_EitherWay) "lead" = some (some (.ref f_EitherWay_lead)))
    (i_EitherWay_lead : PySem.W.isFn K (.ref f_EitherWay_lead) = true)
    (l_EitherWay_lead : K.lookup f_EitherWay_lead = some ⟨oc_EitherWay_lead, od_EitherWay_lead, .func (PySem.W.fnOf "lead" "EitherWay.lead" (C8.fnArgs s_EitherWay_lead) (C8.fnBody s_EitherWay_lead) (C8.fnScope s_EitherWay_lead) .none kV_EitherWay_lead dc_EitherWay_lead pm_EitherWay_lead an_EitherWay_lead cd_EitherWay_lead ct_EitherWay_lead), sl_EitherWay_lead⟩)
    (c_EitherWay_lead : PySem.W.codeIn K cd_EitherWay_lead "EitherWay.lead" = true)
    (k_EitherWay_lead : PySem.W.keepIn K (.ref f_EitherWay_lead) = true)
    (pg_EitherWay : PySem.W.plainGet K C_EitherWay Str.empty = true)
    (hdd_EitherWay : PySem.W.hasDictIn K C_EitherWay = true)
    (po_EitherWay : PySem.W.plainOver K C_EitherWay = true)
    (sa_EitherWay : PySem.W.findIn K (.ref C_EitherWay) "__setattr__" = some (some (.builtin "object.__setattr__")))
    (mk_EitherWay : PySem.W.makesIn K C_EitherWay = true)
    (kc_EitherWay : PySem.W.keepIn K (.ref C_EitherWay) = true)
    (n_EitherWay_ways : PySem.W.findIn K (.ref C_EitherWay) "ways" = some none)
    (n_EitherWay_gaps : PySem.W.findIn K (.ref C_EitherWay) "gaps" = some none)
    (aC_LoopWay : PySem.W.nsIn K mainGlobals "LoopWay" = some (some (.ref C_LoopWay)))
    (a_LoopWay_init : PySem.W.findIn K (.ref C_LoopWay) "__init__" = some (some (.ref f_LoopWay_init)))
    (i_LoopWay_init : PySem.W.isFn K (.ref f_LoopWay_init) = true)
    (l_LoopWay_init : K.lookup f_LoopWay_init = some ⟨oc_LoopWay_init, od_LoopWay_init, .func (PySem.W.fnOf "__init__" "LoopWay.__init__" (C8.fnArgs s_LoopWay_init) (C8.fnBody s_LoopWay_init) (C8.fnScope s_LoopWay_init) .none kV_LoopWay_init dc_LoopWay_init pm_LoopWay_init an_LoopWay_init cd_LoopWay_init ct_LoopWay_init), sl_LoopWay_init⟩)
    (c_LoopWay_init : PySem.W.codeIn K cd_LoopWay_init "LoopWay.__init__" = true)
    (k_LoopWay_init : PySem.W.keepIn K (.ref f_LoopWay_init) = true)
    (a_LoopWay_lead : PySem.W.findIn K (.ref C_LoopWay) "lead" = some (some (.ref f_LoopWay_lead)))
    (i_LoopWay_lead : PySem.W.isFn K (.ref f_LoopWay_lead) = true)
    (l_LoopWay_lead : K.lookup f_LoopWay_lead = some ⟨oc_LoopWay_lead, od_LoopWay_lead, .func (PySem.W.fnOf "lead" "LoopWay.lead" (C8.fnArgs s_LoopWay_lead) (C8.fnBody s_LoopWay_lead) (C8.fnScope s_LoopWay_lead) .none kV_LoopWay_lead dc_LoopWay_lead pm_LoopWay_lead an_LoopWay_lead cd_LoopWay_lead ct_LoopWay_lead), sl_LoopWay_lead⟩)
    (c_LoopWay_lead : PySem.W.codeIn K cd_LoopWay_lead "LoopWay.lead" = true)
    (k_LoopWay_lead : PySem.W.keepIn K (.ref f_LoopWay_lead) = true)
    (pg_LoopWay : PySem.W.plainGet K C_LoopWay Str.empty = true)
    (hdd_LoopWay : PySem.W.hasDictIn K C_LoopWay = true)
    (po_LoopWay : PySem.W.plainOver K C_LoopWay = true)
    (sa_LoopWay : PySem.W.findIn K (.ref C_LoopWay) "__setattr__" = some (some (.builtin "object.__setattr__")))
    (mk_LoopWay : PySem.W.makesIn K C_LoopWay = true)
    (kc_LoopWay : PySem.W.keepIn K (.ref C_LoopWay) = true)
    (n_LoopWay_least : PySem.W.findIn K (.ref C_LoopWay) "least" = some none)
    (n_LoopWay_turns : PySem.W.findIn K (.ref C_LoopWay) "turns" = some none)
    (n_LoopWay_goals : PySem.W.findIn K (.ref C_LoopWay) "goals" = some none)
    (n_LoopWay_gaps : PySem.W.findIn K (.ref C_LoopWay) "gaps" = some none)
    (aC_Ring : PySem.W.nsIn K mainGlobals "Ring" = some (some (.ref C_Ring)))
    (a_Ring_init : PySem.W.findIn K (.ref C_Ring) "__init__" = some (some (.ref f_Ring_init)))
    (i_Ring_init : PySem.W.isFn K (.ref f_Ring_init) = true)
    (l_Ring_init : K.lookup f_Ring_init = some ⟨oc_Ring_init, od_Ring_init, .func (PySem.W.fnOf "__init__" "Ring.__init__" (C8.fnArgs s_Ring_init) (C8.fnBody s_Ring_init) (C8.fnScope s_Ring_init) .none kV_Ring_init dc_Ring_init pm_Ring_init an_Ring_init cd_Ring_init ct_Ring_init), sl_Ring_init⟩)
    (c_Ring_init : PySem.W.codeIn K cd_Ring_init "Ring.__init__" = true)
    (k_Ring_init : PySem.W.keepIn K (.ref f_Ring_init) = true)
    (a_Ring_is_timely : PySem.W.findIn K (.ref C_Ring) "is_timely" = some (some (.ref f_Ring_is_timely)))
    (i_Ring_is_timely : PySem.W.isFn K (.ref f_Ring_is_timely) = true)
    (l_Ring_is_timely : K.lookup f_Ring_is_timely = some ⟨oc_Ring_is_timely, od_Ring_is_timely, .func (PySem.W.fnOf "is_timely" "Ring.is_timely" (C8.fnArgs s_Ring_is_timely) (C8.fnBody s_Ring_is_timely) (C8.fnScope s_Ring_is_timely) .none kV_Ring_is_timely dc_Ring_is_timely pm_Ring_is_timely an_Ring_is_timely cd_Ring_is_timely ct_Ring_is_timely), sl_Ring_is_timely⟩)
    (c_Ring_is_timely : PySem.W.codeIn K cd_Ring_is_timely "Ring.is_timely" = true)
    (k_Ring_is_timely : PySem.W.keepIn K (.ref f_Ring_is_timely) = true)
    (a_Ring_fits : PySem.W.findIn K (.ref C_Ring) "fits" = some (some (.ref f_Ring_fits)))
    (i_Ring_fits : PySem.W.isFn K (.ref f_Ring_fits) = true)
    (l_Ring_fits : K.lookup f_Ring_fits = some ⟨oc_Ring_fits, od_Ring_fits, .func (PySem.W.fnOf "fits" "Ring.fits" (C8.fnArgs s_Ring_fits) (C8.fnBody s_Ring_fits) (C8.fnScope s_Ring_fits) .none kV_Ring_fits dc_Ring_fits pm_Ring_fits an_Ring_fits cd_Ring_fits ct_Ring_fits), sl_Ring_fits⟩)
    (c_Ring_fits : PySem.W.codeIn K cd_Ring_fits "Ring.fits" = true)
    (k_Ring_fits : PySem.W.keepIn K (.ref f_Ring_fits) = true)
    (a_Ring_first_places : PySem.W.findIn K (.ref C_Ring) "first_places" = some (some (.ref f_Ring_first_places)))
    (i_Ring_first_places : PySem.W.isFn K (.ref f_Ring_first_places) = true)
    (l_Ring_first_places : K.lookup f_Ring_first_places = some ⟨oc_Ring_first_places, od_Ring_first_places, .func (PySem.W.fnOf "first_places" "Ring.first_places" (C8.fnArgs s_Ring_first_places) (C8.fnBody s_Ring_first_places) (C8.fnScope s_Ring_first_places) .none kV_Ring_first_places dc_Ring_first_places pm_Ring_first_places an_Ring_first_places cd_Ring_first_places ct_Ring_first_places), sl_Ring_first_places⟩)
    (c_Ring_first_places : PySem.W.codeIn K cd_Ring_first_places "Ring.first_places" = true)
    (k_Ring_first_places : PySem.W.keepIn K (.ref f_Ring_first_places) = true)
    (a_Ring_next_places : PySem.W.findIn K (.ref C_Ring) "next_places" = some (some (.ref f_Ring_next_places)))
    (i_Ring_next_places : PySem.W.isFn K (.ref f_Ring_next_places) = true)
    (l_Ring_next_places : K.lookup f_Ring_next_places = some ⟨oc_Ring_next_places, od_Ring_next_places, .func (PySem.W.fnOf "next_places" "Ring.next_places" (C8.fnArgs s_Ring_next_places) (C8.fnBody s_Ring_next_places) (C8.fnScope s_Ring_next_places) .none kV_Ring_next_places dc_Ring_next_places pm_Ring_next_places an_Ring_next_places cd_Ring_next_places ct_Ring_next_places), sl_Ring_next_places⟩)
    (c_Ring_next_places : PySem.W.codeIn K cd_Ring_next_places "Ring.next_places" = true)
    (k_Ring_next_places : PySem.W.keepIn K (.ref f_Ring_next_places) = true)
    (a_Ring_next_level : PySem.W.findIn K (.ref C_Ring) "next_level" = some (some (.ref f_Ring_next_level)))
    (i_Ring_next_level : PySem.W.isFn K (.ref f_Ring_next_level) = true)
    (l_Ring_next_level : K.lookup f_Ring_next_level = some ⟨oc_Ring_next_level, od_Ring_next_level, .func (PySem.W.fnOf "next_level" "Ring.next_level" (C8.fnArgs s_Ring_next_level) (C8.fnBody s_Ring_next_level) (C8.fnScope s_Ring_next_level) .none kV_Ring_next_level dc_Ring_next_level pm_Ring_next_level an_Ring_next_level cd_Ring_next_level ct_Ring_next_level), sl_Ring_next_level⟩)
    (c_Ring_next_level : PySem.W.codeIn K cd_Ring_next_level "Ring.next_level" = true)
    (k_Ring_next_level : PySem.W.keepIn K (.ref f_Ring_next_level) = true)
    (a_Ring_levels_of : PySem.W.findIn K (.ref C_Ring) "levels_of" = some (some (.ref f_Ring_levels_of)))
    (i_Ring_levels_of : PySem.W.isFn K (.ref f_Ring_levels_of) = true)
    (l_Ring_levels_of : K.lookup f_Ring_levels_of = some ⟨oc_Ring_levels_of, od_Ring_levels_of, .func (PySem.W.fnOf "levels_of" "Ring.levels_of" (C8.fnArgs s_Ring_levels_of) (C8.fnBody s_Ring_levels_of) (C8.fnScope s_Ring_levels_of) .none kV_Ring_levels_of dc_Ring_levels_of pm_Ring_levels_of an_Ring_levels_of cd_Ring_levels_of ct_Ring_levels_of), sl_Ring_levels_of⟩)
    (c_Ring_levels_of : PySem.W.codeIn K cd_Ring_levels_of "Ring.levels_of" = true)
    (k_Ring_levels_of : PySem.W.keepIn K (.ref f_Ring_levels_of) = true)
    (a_Ring_comes_back : PySem.W.findIn K (.ref C_Ring) "comes_back" = some (some (.ref f_Ring_comes_back)))
    (i_Ring_comes_back : PySem.W.isFn K (.ref f_Ring_comes_back) = true)
    (l_Ring_comes_back : K.lookup f_Ring_comes_back = some ⟨oc_Ring_comes_back, od_Ring_comes_back, .func (PySem.W.fnOf "comes_back" "Ring.comes_back" (C8.fnArgs s_Ring_comes_back) (C8.fnBody s_Ring_comes_back) (C8.fnScope s_Ring_comes_back) .none kV_Ring_comes_back dc_Ring_comes_back pm_Ring_comes_back an_Ring_comes_back cd_Ring_comes_back ct_Ring_comes_back), sl_Ring_comes_back⟩)
    (c_Ring_comes_back : PySem.W.codeIn K cd_Ring_comes_back "Ring.comes_back" = true)
    (k_Ring_comes_back : PySem.W.keepIn K (.ref f_Ring_comes_back) = true)
    (pg_Ring : PySem.W.plainGet K C_Ring Str.empty = true)
    (hdd_Ring : PySem.W.hasDictIn K C_Ring = true)
    (po_Ring : PySem.W.plainOver K C_Ring = true)
    (sa_Ring : PySem.W.findIn K (.ref C_Ring) "__setattr__" = some (some (.builtin "object.__setattr__")))
    (mk_Ring : PySem.W.makesIn K C_Ring = true)
    (kc_Ring : PySem.W.keepIn K (.ref C_Ring) = true)
    (n_Ring_low : PySem.W.findIn K (.ref C_Ring) "low" = some none)
    (n_Ring_high : PySem.W.findIn K (.ref C_Ring) "high" = some none)
    (n_Ring_works : PySem.W.findIn K (.ref C_Ring) "works" = some none)
    (lc : K.lookup cc = some ⟨occ, odc, .fields vsc, slc⟩)
    (v11 : vsc[11]? = some (.ref Pt))
    (hch : PySem.W.codeHdIn K cc Pt = true)
    (nPt : K.lookup Pt = none)
    (z_isinstance : PySem.W.nsIn K mainGlobals "isinstance" = some none)
    (z_len : PySem.W.nsIn K mainGlobals "len" = some none)
    (z_int : PySem.W.nsIn K mainGlobals "int" = some none)
    (z_bool : PySem.W.nsIn K mainGlobals "bool" = some none)
    (z_range : PySem.W.nsIn K mainGlobals "range" = some none)
    (z_list : PySem.W.nsIn K mainGlobals "list" = some none)
    (z_tuple : PySem.W.nsIn K mainGlobals "tuple" = some none)
    (z_str : PySem.W.nsIn K mainGlobals "str" = some none)
    (z_sum : PySem.W.nsIn K mainGlobals "sum" = some none)
    (z_min : PySem.W.nsIn K mainGlobals "min" = some none)
    (z_reversed : PySem.W.nsIn K mainGlobals "reversed" = some none)
    (z_ValueError : PySem.W.nsIn K mainGlobals "ValueError" = some none)
    (z_max : PySem.W.nsIn K mainGlobals "max" = some none)
    (z_sorted : PySem.W.nsIn K mainGlobals "sorted" = some none)
    (z_set : PySem.W.nsIn K mainGlobals "set" = some none)
    (z_enumerate : PySem.W.nsIn K mainGlobals "enumerate" = some none)
    (q_LONGEST_WORK : PySem.W.nsIn K mainGlobals "LONGEST_WORK" = some (some (.int 1000 t_LONGEST_WORK)))
    (q_MOST_TIMES : PySem.W.nsIn K mainGlobals "MOST_TIMES" = some (some (.int 9 t_MOST_TIMES)))
    (q_LONGEST_ROW : PySem.W.nsIn K mainGlobals "LONGEST_ROW" = some (some (.int 20 t_LONGEST_ROW)))
    (q_MOST_PLANS : PySem.W.nsIn K mainGlobals "MOST_PLANS" = some (some (.int 30 t_MOST_PLANS)))
    (q_MOST_DEEP : PySem.W.nsIn K mainGlobals "MOST_DEEP" = some (some (.int 6 t_MOST_DEEP)))
    (q_MOST_LOOPS : PySem.W.nsIn K mainGlobals "MOST_LOOPS" = some (some (.int 2 t_MOST_LOOPS)))
    (q_GREATEST_HIGH : PySem.W.nsIn K mainGlobals "GREATEST_HIGH" = some (some (.int 1000 t_GREATEST_HIGH)))
    (q_MOST_WORKS : PySem.W.nsIn K mainGlobals "MOST_WORKS" = some (some (.int 10 t_MOST_WORKS)))
    (aD : PySem.W.nsIn K mainGlobals "DogError" = some (some (.ref CD)))
    (aC0 : PySem.W.nsIn K mainGlobals "BadWindow" = some (some (.ref C_0)))
    (aC1 : PySem.W.nsIn K mainGlobals "BadPlan" = some (some (.ref C_1)))
    (aC2 : PySem.W.nsIn K mainGlobals "BadDelays" = some (some (.ref C_2)))
    (aC3 : PySem.W.nsIn K mainGlobals "BadWorks" = some (some (.ref C_3)))
    (aC4 : PySem.W.nsIn K mainGlobals "NoPats" = some (some (.ref C_4)))
    (aC5 : PySem.W.nsIn K mainGlobals "NoPlace" = some (some (.ref C_5)))
    (aC6 : PySem.W.nsIn K mainGlobals "BadTasks" = some (some (.ref C_6)))
    (aC7 : PySem.W.nsIn K mainGlobals "BadBeat" = some (some (.ref C_7)))
    (aC8 : PySem.W.nsIn K mainGlobals "TooMuch" = some (some (.ref C_8)))
    (bD : PySem.W.subIn K (.ref CD) (.type "BaseException") = some true)
    (hD : PySem.W.hasDictIn K CD = true)
    (tD : PySem.W.typeIn K (.ref CD) = some (.type "type"))
    (xn : PySem.W.specialIn K (.builtin "object.__class__") "__get__" = some (some (.builtin "getset_descriptor.__get__")))
    (xt : PySem.W.takesIn K (.builtin "object.__class__") = some true)
    (x4 : PySem.W.excIn K C_4 [.type "ValueError", .type "Exception", .type "BaseException", .type "object"] "ValueError.__new__" = true)
    (kk4 : PySem.W.keepIn K (.ref C_4) = true)
    (b4 : PySem.W.subIn K (.ref C_4) (.type "BaseException") = some true)
    (t4 : PySem.W.typeIn K (.ref C_4) = some (.type "type"))
    (hg4 : PySem.W.findIn K (.ref C_4) "__getattribute__" = some (some (.builtin "BaseException.__getattribute__")))
    (hk4 : PySem.W.findIn K (.ref C_4) "__getattr__" = some none)
    (hd4 : PySem.W.hasDictIn K C_4 = true)
    (ha4 : PySem.W.findIn K (.ref C_4) "__class__" = some (some (.builtin "object.__class__")))
    (hm4 : PySem.W.mroIn K C_4 (.type "object") = some true)
    (sD4 : PySem.W.subIn K (.ref C_4) (.ref CD) = some true)
    (kv4 : PySem.W.kitOne K (.ref C_4) (.type "ValueError") = some true)
    (ki4_0 : PySem.W.kitOne K (.ref C_4) (.ref C_0) = some false)
    (ki4_1 : PySem.W.kitOne K (.ref C_4) (.ref C_1) = some false)
    (ki4_2 : PySem.W.kitOne K (.ref C_4) (.ref C_2) = some false)
    (ki4_3 : PySem.W.kitOne K (.ref C_4) (.ref C_3) = some false)
    (ki4_4 : PySem.W.kitOne K (.ref C_4) (.ref C_4) = some true)
    (ki4_5 : PySem.W.kitOne K (.ref C_4) (.ref C_5) = some false)
    (ki4_6 : PySem.W.kitOne K (.ref C_4) (.ref C_6) = some false)
    (ki4_7 : PySem.W.kitOne K (.ref C_4) (.ref C_7) = some false)
    (ki4_8 : PySem.W.kitOne K (.ref C_4) (.ref C_8) = some false)
    (hT : h.get? Pt = some { cls := .none, data := .fields #[] }) :
    LamX.LawAtS l w K C8.CX0 11 63 "_law_script" mg fa h := by
  have e := hfa.symm.trans (PySem.W.mg_of X G a_law)
  cases e
  have D_is_number : C8.Def K mg "is_number" s_is_number f_is_number _ := ⟨⟨_, _, _, _, _, _, _, _, _, _, rfl, l_is_number, c_is_number⟩, PySem.W.mg_of X G a_is_number, k_is_number⟩
  have B_is_number := C8.Fun.binds (ps := ["value"]) D_is_number.fn rfl fun _ _ _ _ _ _ us hl => match us, hl with | [_], _ => rfl
  have D_is_range : C8.Def K mg "is_range" s_is_range f_is_range _ := ⟨⟨_, _, _, _, _, _, _, _, _, _, rfl, l_is_range, c_is_range⟩, PySem.W.mg_of X G a_is_range, k_is_range⟩
  have B_is_range := C8.Fun.binds (ps := ["least", "most", "limit"]) D_is_range.fn rfl fun _ _ _ _ _ _ us hl => match us, hl with | [_, _, _], _ => rfl
  have D_has_form : C8.Def K mg "has_form" s_has_form f_has_form _ := ⟨⟨_, _, _, _, _, _, _, _, _, _, rfl, l_has_form, c_has_form⟩, PySem.W.mg_of X G a_has_form, k_has_form⟩
  have B_has_form := C8.Fun.binds (ps := ["plan"]) D_has_form.fn rfl fun _ _ _ _ _ _ us hl => match us, hl with | [_], _ => rfl
  have D_plans_in : C8.Def K mg "plans_in" s_plans_in f_plans_in _ := ⟨⟨_, _, _, _, _, _, _, _, _, _, rfl, l_plans_in, c_plans_in⟩, PySem.W.mg_of X G a_plans_in, k_plans_in⟩
  have B_plans_in := C8.Fun.binds (ps := ["plan"]) D_plans_in.fn rfl fun _ _ _ _ _ _ us hl => match us, hl with | [_], _ => rfl
  have D_check_plan : C8.Def K mg "check_plan" s_check_plan f_check_plan _ := ⟨⟨_, _, _, _, _, _, _, _, _, _, rfl, l_check_plan, c_check_plan⟩, PySem.W.mg_of X G a_check_plan, k_check_plan⟩
  have B_check_plan := C8.Fun.binds (ps := ["plan"]) D_check_plan.fn rfl fun _ _ _ _ _ _ us hl => match us, hl with | [_], _ => rfl
  have D_check_window : C8.Def K mg "check_window" s_check_window f_check_window _ := ⟨⟨_, _, _, _, _, _, _, _, _, _, rfl, l_check_window, c_check_window⟩, PySem.W.mg_of X G a_check_window, k_check_window⟩
  have B_check_window := C8.Fun.binds (ps := ["window"]) D_check_window.fn rfl fun _ _ _ _ _ _ us hl => match us, hl with | [_], _ => rfl
  have D_first_bite : C8.Def K mg "first_bite" s_first_bite f_first_bite _ := ⟨⟨_, _, _, _, _, _, _, _, _, _, rfl, l_first_bite, c_first_bite⟩, PySem.W.mg_of X G a_first_bite, k_first_bite⟩
  have B_first_bite := C8.Fun.binds (ps := ["window", "pats"]) D_first_bite.fn rfl fun _ _ _ _ _ _ us hl => match us, hl with | [_, _], _ => rfl
  have D_holds : C8.Def K mg "holds" s_holds f_holds _ := ⟨⟨_, _, _, _, _, _, _, _, _, _, rfl, l_holds, c_holds⟩, PySem.W.mg_of X G a_holds, k_holds⟩
  have B_holds := C8.Fun.binds (ps := ["gaps", "gap"]) D_holds.fn rfl fun _ _ _ _ _ _ us hl => match us, hl with | [_, _], _ => rfl
  have D_spread : C8.Def K mg "spread" s_spread f_spread _ := ⟨⟨_, _, _, _, _, _, _, _, _, _, rfl, l_spread, c_spread⟩, PySem.W.mg_of X G a_spread, k_spread⟩
  have B_spread := C8.Fun.binds (ps := ["gaps", "most"]) D_spread.fn rfl fun _ _ _ _ _ _ us hl => match us, hl with | [_, _], _ => rfl
  have D_way_to : C8.Def K mg "way_to" s_way_to f_way_to _ := ⟨⟨_, _, _, _, _, _, _, _, _, _, rfl, l_way_to, c_way_to⟩, PySem.W.mg_of X G a_way_to, k_way_to⟩
  have B_way_to := C8.Fun.binds (ps := ["watcher", "plan", "goal"]) D_way_to.fn rfl fun _ _ _ _ _ _ us hl => match us, hl with | [_, _, _], _ => rfl
  have D_goals_of_rounds : C8.Def K mg "goals_of_rounds" s_goals_of_rounds f_goals_of_rounds _ := ⟨⟨_, _, _, _, _, _, _, _, _, _, rfl, l_goals_of_rounds, c_goals_of_rounds⟩, PySem.W.mg_of X G a_goals_of_rounds, k_goals_of_rounds⟩
  have B_goals_of_rounds := C8.Fun.binds (ps := ["watcher", "plan"]) D_goals_of_rounds.fn rfl fun _ _ _ _ _ _ us hl => match us, hl with | [_, _], _ => rfl
  have D_delays_of_rounds : C8.Def K mg "delays_of_rounds" s_delays_of_rounds f_delays_of_rounds _ := ⟨⟨_, _, _, _, _, _, _, _, _, _, rfl, l_delays_of_rounds, c_delays_of_rounds⟩, PySem.W.mg_of X G a_delays_of_rounds, k_delays_of_rounds⟩
  have B_delays_of_rounds := C8.Fun.binds (ps := ["watcher", "plan", "goals"]) D_delays_of_rounds.fn rfl fun _ _ _ _ _ _ us hl => match us, hl with | [_, _, _], _ => rfl
  have D_bite_of_rounds : C8.Def K mg "bite_of_rounds" s_bite_of_rounds f_bite_of_rounds _ := ⟨⟨_, _, _, _, _, _, _, _, _, _, rfl, l_bite_of_rounds, c_bite_of_rounds⟩, PySem.W.mg_of X G a_bite_of_rounds, k_bite_of_rounds⟩
  have B_bite_of_rounds := C8.Fun.binds (ps := ["window", "plan", "rounds", "delays"]) D_bite_of_rounds.fn rfl fun _ _ _ _ _ _ us hl => match us, hl with | [_, _, _, _], _ => rfl
  have D_judged : C8.Def K mg "judged" s_judged f_judged _ := ⟨⟨_, _, _, _, _, _, _, _, _, _, rfl, l_judged, c_judged⟩, PySem.W.mg_of X G a_judged, k_judged⟩
  have B_judged := C8.Fun.binds (ps := ["window", "plan"]) D_judged.fn rfl fun _ _ _ _ _ _ us hl => match us, hl with | [_, _], _ => rfl
  have D_check_works : C8.Def K mg "check_works" s_check_works f_check_works _ := ⟨⟨_, _, _, _, _, _, _, _, _, _, rfl, l_check_works, c_check_works⟩, PySem.W.mg_of X G a_check_works, k_check_works⟩
  have B_check_works := C8.Fun.binds (ps := ["works"]) D_check_works.fn rfl fun _ _ _ _ _ _ us hl => match us, hl with | [_], _ => rfl
  have D_check_places : C8.Def K mg "check_places" s_check_places f_check_places _ := ⟨⟨_, _, _, _, _, _, _, _, _, _, rfl, l_check_places, c_check_places⟩, PySem.W.mg_of X G a_check_places, k_check_places⟩
  have B_check_places := C8.Fun.binds (ps := ["works", "places"]) D_check_places.fn rfl fun _ _ _ _ _ _ us hl => match us, hl with | [_, _], _ => rfl
  have D_plan_with : C8.Def K mg "plan_with" s_plan_with f_plan_with _ := ⟨⟨_, _, _, _, _, _, _, _, _, _, rfl, l_plan_with, c_plan_with⟩, PySem.W.mg_of X G a_plan_with, k_plan_with⟩
  have B_plan_with := C8.Fun.binds (ps := ["works", "places"]) D_plan_with.fn rfl fun _ _ _ _ _ _ us hl => match us, hl with | [_, _], _ => rfl
  have D_fewest : C8.Def K mg "fewest" s_fewest f_fewest _ := ⟨⟨_, _, _, _, _, _, _, _, _, _, rfl, l_fewest, c_fewest⟩, PySem.W.mg_of X G a_fewest, k_fewest⟩
  have B_fewest := C8.Fun.binds (ps := ["window", "works"]) D_fewest.fn rfl fun _ _ _ _ _ _ us hl => match us, hl with | [_, _], _ => rfl
  have D_shown : C8.Def K mg "shown" s_shown f_shown _ := ⟨⟨_, _, _, _, _, _, _, _, _, _, rfl, l_shown, c_shown⟩, PySem.W.mg_of X G a_shown, k_shown⟩
  have B_shown := C8.Fun.binds (ps := ["window", "works", "many"]) D_shown.fn rfl fun _ _ _ _ _ _ us hl => match us, hl with | [_, _, _], _ => rfl
  have D_law_start : C8.Def K mg "_law_start" s_law_start f_law_start _ := ⟨⟨_, _, _, _, _, _, _, _, _, _, rfl, l_law_start, c_law_start⟩, PySem.W.mg_of X G a_law_start, k_law_start⟩
  have B_law_start := C8.Fun.binds (ps := ["_law_script"]) D_law_start.fn rfl fun _ _ _ _ _ _ us hl => match us, hl with | [_], _ => rfl
  have D_law_drawn : C8.Def K mg "_law_drawn" s_law_drawn f_law_drawn _ := ⟨⟨_, _, _, _, _, _, _, _, _, _, rfl, l_law_drawn, c_law_drawn⟩, PySem.W.mg_of X G a_law_drawn, k_law_drawn⟩
  have B_law_drawn := C8.Fun.binds (ps := ["_law_state", "_law_many"]) D_law_drawn.fn rfl fun _ _ _ _ _ _ us hl => match us, hl with | [_, _], _ => rfl
  have D_law_kind : C8.Def K mg "_law_kind" s_law_kind f_law_kind _ := ⟨⟨_, _, _, _, _, _, _, _, _, _, rfl, l_law_kind, c_law_kind⟩, PySem.W.mg_of X G a_law_kind, k_law_kind⟩
  have B_law_kind := C8.Fun.binds (ps := ["_law_work"]) D_law_kind.fn rfl fun _ _ _ _ _ _ us hl => match us, hl with | [_], _ => rfl
  have D_law_works : C8.Def K mg "_law_works" s_law_works f_law_works _ := ⟨⟨_, _, _, _, _, _, _, _, _, _, rfl, l_law_works, c_law_works⟩, PySem.W.mg_of X G a_law_works, k_law_works⟩
  have B_law_works := C8.Fun.binds (ps := ["_law_state"]) D_law_works.fn rfl fun _ _ _ _ _ _ us hl => match us, hl with | [_], _ => rfl
  have D_law_wide : C8.Def K mg "_law_wide" s_law_wide f_law_wide _ := ⟨⟨_, _, _, _, _, _, _, _, _, _, rfl, l_law_wide, c_law_wide⟩, PySem.W.mg_of X G a_law_wide, k_law_wide⟩
  have B_law_wide := C8.Fun.binds (ps := ["_law_state", "_law_works_here"]) D_law_wide.fn rfl fun _ _ _ _ _ _ us hl => match us, hl with | [_, _], _ => rfl
  have D_law_sets : C8.Def K mg "_law_sets" s_law_sets f_law_sets _ := ⟨⟨_, _, _, _, _, _, _, _, _, _, rfl, l_law_sets, c_law_sets⟩, PySem.W.mg_of X G a_law_sets, k_law_sets⟩
  have B_law_sets := C8.Fun.binds (ps := ["_law_many"]) D_law_sets.fn rfl fun _ _ _ _ _ _ us hl => match us, hl with | [_], _ => rfl
  have F_Run_init : C8.Fun K "__init__" "Run.__init__" s_Run_init f_Run_init _ := ⟨_, _, _, _, _, _, _, _, _, _, rfl, l_Run_init, c_Run_init⟩
  have B_Run_init := C8.Fun.binds (ps := ["self", "delays"]) F_Run_init rfl fun _ _ _ _ _ _ us hl => match us, hl with | [_, _], _ => rfl
  have F_Run_take : C8.Fun K "take" "Run.take" s_Run_take f_Run_take _ := ⟨_, _, _, _, _, _, _, _, _, _, rfl, l_Run_take, c_Run_take⟩
  have B_Run_take := C8.Fun.binds (ps := ["self", "least", "most"]) F_Run_take rfl fun _ _ _ _ _ _ us hl => match us, hl with | [_, _, _], _ => rfl
  have F_Run_follow : C8.Fun K "follow" "Run.follow" s_Run_follow f_Run_follow _ := ⟨_, _, _, _, _, _, _, _, _, _, rfl, l_Run_follow, c_Run_follow⟩
  have B_Run_follow := C8.Fun.binds (ps := ["self", "plan"]) F_Run_follow rfl fun _ _ _ _ _ _ us hl => match us, hl with | [_, _], _ => rfl
  have F_Watcher_init : C8.Fun K "__init__" "Watcher.__init__" s_Watcher_init f_Watcher_init _ := ⟨_, _, _, _, _, _, _, _, _, _, rfl, l_Watcher_init, c_Watcher_init⟩
  have B_Watcher_init := C8.Fun.binds (ps := ["self", "window"]) F_Watcher_init rfl fun _ _ _ _ _ _ us hl => match us, hl with | [_, _], _ => rfl
  have F_Watcher_gap_behind_pat : C8.Fun K "gap_behind_pat" "Watcher.gap_behind_pat" s_Watcher_gap_behind_pat f_Watcher_gap_behind_pat _ := ⟨_, _, _, _, _, _, _, _, _, _, rfl, l_Watcher_gap_behind_pat, c_Watcher_gap_behind_pat⟩
  have B_Watcher_gap_behind_pat := C8.Fun.binds (ps := ["self", "gap"]) F_Watcher_gap_behind_pat rfl fun _ _ _ _ _ _ us hl => match us, hl with | [_, _], _ => rfl
  have F_Watcher_gap_behind_work : C8.Fun K "gap_behind_work" "Watcher.gap_behind_work" s_Watcher_gap_behind_work f_Watcher_gap_behind_work _ := ⟨_, _, _, _, _, _, _, _, _, _, rfl, l_Watcher_gap_behind_work, c_Watcher_gap_behind_work⟩
  have B_Watcher_gap_behind_work := C8.Fun.binds (ps := ["self", "gap", "delay"]) F_Watcher_gap_behind_work rfl fun _ _ _ _ _ _ us hl => match us, hl with | [_, _, _], _ => rfl
  have F_Watcher_gaps_ahead_of_pat : C8.Fun K "gaps_ahead_of_pat" "Watcher.gaps_ahead_of_pat" s_Watcher_gaps_ahead_of_pat f_Watcher_gaps_ahead_of_pat _ := ⟨_, _, _, _, _, _, _, _, _, _, rfl, l_Watcher_gaps_ahead_of_pat, c_Watcher_gaps_ahead_of_pat⟩
  have B_Watcher_gaps_ahead_of_pat := C8.Fun.binds (ps := ["self", "goal"]) F_Watcher_gaps_ahead_of_pat rfl fun _ _ _ _ _ _ us hl => match us, hl with | [_, _], _ => rfl
  have F_Watcher_gaps_ahead_of_work : C8.Fun K "gaps_ahead_of_work" "Watcher.gaps_ahead_of_work" s_Watcher_gaps_ahead_of_work f_Watcher_gaps_ahead_of_work _ := ⟨_, _, _, _, _, _, _, _, _, _, rfl, l_Watcher_gaps_ahead_of_work, c_Watcher_gaps_ahead_of_work⟩
  have B_Watcher_gaps_ahead_of_work := C8.Fun.binds (ps := ["self", "goal", "least", "most"]) F_Watcher_gaps_ahead_of_work rfl fun _ _ _ _ _ _ us hl => match us, hl with | [_, _, _, _], _ => rfl
  have F_PatWay_init : C8.Fun K "__init__" "PatWay.__init__" s_PatWay_init f_PatWay_init _ := ⟨_, _, _, _, _, _, _, _, _, _, rfl, l_PatWay_init, c_PatWay_init⟩
  have B_PatWay_init := C8.Fun.binds (ps := ["self", "watcher", "goal"]) F_PatWay_init rfl fun _ _ _ _ _ _ us hl => match us, hl with | [_, _, _], _ => rfl
  have F_PatWay_lead : C8.Fun K "lead" "PatWay.lead" s_PatWay_lead f_PatWay_lead _ := ⟨_, _, _, _, _, _, _, _, _, _, rfl, l_PatWay_lead, c_PatWay_lead⟩
  have B_PatWay_lead := C8.Fun.binds (ps := ["self", "gap", "delays"]) F_PatWay_lead rfl fun _ _ _ _ _ _ us hl => match us, hl with | [_, _, _], _ => rfl
  have F_WorkWay_init : C8.Fun K "__init__" "WorkWay.__init__" s_WorkWay_init f_WorkWay_init _ := ⟨_, _, _, _, _, _, _, _, _, _, rfl, l_WorkWay_init, c_WorkWay_init⟩
  have B_WorkWay_init := C8.Fun.binds (ps := ["self", "watcher", "plan", "goal"]) F_WorkWay_init rfl fun _ _ _ _ _ _ us hl => match us, hl with | [_, _, _, _], _ => rfl
  have F_WorkWay_lead : C8.Fun K "lead" "WorkWay.lead" s_WorkWay_lead f_WorkWay_lead _ := ⟨_, _, _, _, _, _, _, _, _, _, rfl, l_WorkWay_lead, c_WorkWay_lead⟩
  have B_WorkWay_lead := C8.Fun.binds (ps := ["self", "gap", "delays"]) F_WorkWay_lead rfl fun _ _ _ _ _ _ us hl => match us, hl with | [_, _, _], _ => rfl
  have F_RowWay_init : C8.Fun K "__init__" "RowWay.__init__" s_RowWay_init f_RowWay_init _ := ⟨_, _, _, _, _, _, _, _, _, _, rfl, l_RowWay_init, c_RowWay_init⟩
  have B_RowWay_init := C8.Fun.binds (ps := ["self", "watcher", "plan", "goal"]) F_RowWay_init rfl fun _ _ _ _ _ _ us hl => match us, hl with | [_, _, _, _], _ => rfl
  have F_RowWay_lead : C8.Fun K "lead" "RowWay.lead" s_RowWay_lead f_RowWay_lead _ := ⟨_, _, _, _, _, _, _, _, _, _, rfl, l_RowWay_lead, c_RowWay_lead⟩
  have B_RowWay_lead := C8.Fun.binds (ps := ["self", "gap", "delays"]) F_RowWay_lead rfl fun _ _ _ _ _ _ us hl => match us, hl with | [_, _, _], _ => rfl
  have F_EitherWay_init : C8.Fun K "__init__" "EitherWay.__init__" s_EitherWay_init f_EitherWay_init _ := ⟨_, _, _, _, _, _, _, _, _, _, rfl, l_EitherWay_init, c_EitherWay_init⟩
  have B_EitherWay_init := C8.Fun.binds (ps := ["self", "watcher", "plan", "goal"]) F_EitherWay_init rfl fun _ _ _ _ _ _ us hl => match us, hl with | [_, _, _, _], _ => rfl
  have F_EitherWay_lead : C8.Fun K "lead" "EitherWay.lead" s_EitherWay_lead f_EitherWay_lead _ := ⟨_, _, _, _, _, _, _, _, _, _, rfl, l_EitherWay_lead, c_EitherWay_lead⟩
  have B_EitherWay_lead := C8.Fun.binds (ps := ["self", "gap", "delays"]) F_EitherWay_lead rfl fun _ _ _ _ _ _ us hl => match us, hl with | [_, _, _], _ => rfl
  have F_LoopWay_init : C8.Fun K "__init__" "LoopWay.__init__" s_LoopWay_init f_LoopWay_init _ := ⟨_, _, _, _, _, _, _, _, _, _, rfl, l_LoopWay_init, c_LoopWay_init⟩
  have B_LoopWay_init := C8.Fun.binds (ps := ["self", "watcher", "plan", "goal"]) F_LoopWay_init rfl fun _ _ _ _ _ _ us hl => match us, hl with | [_, _, _, _], _ => rfl
  have F_LoopWay_lead : C8.Fun K "lead" "LoopWay.lead" s_LoopWay_lead f_LoopWay_lead _ := ⟨_, _, _, _, _, _, _, _, _, _, rfl, l_LoopWay_lead, c_LoopWay_lead⟩
  have B_LoopWay_lead := C8.Fun.binds (ps := ["self", "gap", "delays"]) F_LoopWay_lead rfl fun _ _ _ _ _ _ us hl => match us, hl with | [_, _, _], _ => rfl
  have F_Ring_init : C8.Fun K "__init__" "Ring.__init__" s_Ring_init f_Ring_init _ := ⟨_, _, _, _, _, _, _, _, _, _, rfl, l_Ring_init, c_Ring_init⟩
  have B_Ring_init := C8.Fun.binds (ps := ["self", "window", "works"]) F_Ring_init rfl fun _ _ _ _ _ _ us hl => match us, hl with | [_, _, _], _ => rfl
  have F_Ring_is_timely : C8.Fun K "is_timely" "Ring.is_timely" s_Ring_is_timely f_Ring_is_timely _ := ⟨_, _, _, _, _, _, _, _, _, _, rfl, l_Ring_is_timely, c_Ring_is_timely⟩
  have B_Ring_is_timely := C8.Fun.binds (ps := ["self", "works"]) F_Ring_is_timely rfl fun _ _ _ _ _ _ us hl => match us, hl with | [_, _], _ => rfl
  have F_Ring_fits : C8.Fun K "fits" "Ring.fits" s_Ring_fits f_Ring_fits _ := ⟨_, _, _, _, _, _, _, _, _, _, rfl, l_Ring_fits, c_Ring_fits⟩
  have B_Ring_fits := C8.Fun.binds (ps := ["self", "place", "behind"]) F_Ring_fits rfl fun _ _ _ _ _ _ us hl => match us, hl with | [_, _, _], _ => rfl
  have F_Ring_first_places : C8.Fun K "first_places" "Ring.first_places" s_Ring_first_places f_Ring_first_places _ := ⟨_, _, _, _, _, _, _, _, _, _, rfl, l_Ring_first_places, c_Ring_first_places⟩
  have B_Ring_first_places := C8.Fun.binds (ps := ["self"]) F_Ring_first_places rfl fun _ _ _ _ _ _ us hl => match us, hl with | [_], _ => rfl
  have F_Ring_next_places : C8.Fun K "next_places" "Ring.next_places" s_Ring_next_places f_Ring_next_places _ := ⟨_, _, _, _, _, _, _, _, _, _, rfl, l_Ring_next_places, c_Ring_next_places⟩
  have B_Ring_next_places := C8.Fun.binds (ps := ["self", "behind"]) F_Ring_next_places rfl fun _ _ _ _ _ _ us hl => match us, hl with | [_, _], _ => rfl
  have F_Ring_next_level : C8.Fun K "next_level" "Ring.next_level" s_Ring_next_level f_Ring_next_level _ := ⟨_, _, _, _, _, _, _, _, _, _, rfl, l_Ring_next_level, c_Ring_next_level⟩
  have B_Ring_next_level := C8.Fun.binds (ps := ["self", "level"]) F_Ring_next_level rfl fun _ _ _ _ _ _ us hl => match us, hl with | [_, _], _ => rfl
  have F_Ring_levels_of : C8.Fun K "levels_of" "Ring.levels_of" s_Ring_levels_of f_Ring_levels_of _ := ⟨_, _, _, _, _, _, _, _, _, _, rfl, l_Ring_levels_of, c_Ring_levels_of⟩
  have B_Ring_levels_of := C8.Fun.binds (ps := ["self", "first"]) F_Ring_levels_of rfl fun _ _ _ _ _ _ us hl => match us, hl with | [_, _], _ => rfl
  have F_Ring_comes_back : C8.Fun K "comes_back" "Ring.comes_back" s_Ring_comes_back f_Ring_comes_back _ := ⟨_, _, _, _, _, _, _, _, _, _, rfl, l_Ring_comes_back, c_Ring_comes_back⟩
  have B_Ring_comes_back := C8.Fun.binds (ps := ["self", "first", "levels"]) F_Ring_comes_back rfl fun _ _ _ _ _ _ us hl => match us, hl with | [_, _, _], _ => rfl
  have R : Refs K mg CD [C_0, C_1, C_2, C_3, C_4, C_5, C_6, C_7, C_8] :=
    ⟨PySem.W.mg_none_of X G z_isinstance, PySem.W.mg_none_of X G z_ValueError, PySem.W.mg_of X G aD, ⟨_, rfl, PySem.W.mg_of X G aC0⟩, ⟨_, rfl, PySem.W.mg_of X G aC1⟩, ⟨_, rfl, PySem.W.mg_of X G aC2⟩, ⟨_, rfl, PySem.W.mg_of X G aC3⟩, ⟨_, rfl, PySem.W.mg_of X G aC4⟩, ⟨_, rfl, PySem.W.mg_of X G aC5⟩, ⟨_, rfl, PySem.W.mg_of X G aC6⟩, ⟨_, rfl, PySem.W.mg_of X G aC7⟩, ⟨_, rfl, PySem.W.mg_of X G aC8⟩⟩
  have RN : IsRef K CD [C_0, C_1, C_2, C_3, C_4, C_5, C_6, C_7, C_8] 4 C_4 := by
    refine ⟨rfl, ⟨hg4, hk4, b4, hd4, ha4, xn, xt, hm4⟩, PySem.W.exm_ref bD hD tD sD4, kv4, fun j C' e => ?_⟩
    match j, e with
    | 0, e => cases e; exact ki4_0
    | 1, e => cases e; exact ki4_1
    | 2, e => cases e; exact ki4_2
    | 3, e => cases e; exact ki4_3
    | 4, e => cases e; exact ki4_4
    | 5, e => cases e; exact ki4_5
    | 6, e => cases e; exact ki4_6
    | 7, e => cases e; exact ki4_7
    | 8, e => cases e; exact ki4_8
  have T0 : K10.Txt K mg := ⟨PySem.W.mg_none_of X G z_isinstance, PySem.W.mg_none_of X G z_len, PySem.W.mg_none_of X G z_int, PySem.W.mg_none_of X G z_bool, PySem.W.mg_none_of X G z_range, PySem.W.mg_none_of X G z_list, PySem.W.mg_none_of X G z_tuple, PySem.W.mg_none_of X G z_str, PySem.W.mg_none_of X G z_sum⟩
  have T : K10.TxtP K mg := ⟨T0, ⟨_, PySem.W.mg_of X G q_LONGEST_WORK⟩, ⟨_, PySem.W.mg_of X G q_MOST_TIMES⟩, ⟨_, PySem.W.mg_of X G q_LONGEST_ROW⟩, ⟨_, PySem.W.mg_of X G q_MOST_PLANS⟩, ⟨_, PySem.W.mg_of X G q_MOST_DEEP⟩, ⟨_, PySem.W.mg_of X G q_MOST_LOOPS⟩⟩
  have TJ : K10.TxtJ K mg := ⟨T, PySem.W.mg_none_of X G z_min, PySem.W.mg_none_of X G z_reversed⟩
  have TQ : K10.TxtQ K mg := ⟨TJ, ⟨_, PySem.W.mg_of X G q_GREATEST_HIGH⟩⟩
  have TR : K10.TxtR K C_Run := ⟨⟨pg_Run, hdd_Run, po_Run, sa_Run⟩, n_Run_delays, n_Run_used, n_Run_now, n_Run_pats⟩
  have TW : K10.TxtWt K C_Watcher := ⟨⟨pg_Watcher, hdd_Watcher, po_Watcher, sa_Watcher⟩, n_Watcher_low, n_Watcher_high, n_Watcher_bitten, n_Watcher_bite, n_Watcher_too_soon, n_Watcher_timely⟩
  have TY : K10.TxtY K C_PatWay C_WorkWay C_RowWay C_EitherWay C_LoopWay := ⟨⟨pg_PatWay, hdd_PatWay, po_PatWay, sa_PatWay⟩, ⟨pg_WorkWay, hdd_WorkWay, po_WorkWay, sa_WorkWay⟩, ⟨pg_RowWay, hdd_RowWay, po_RowWay, sa_RowWay⟩, ⟨pg_EitherWay, hdd_EitherWay, po_EitherWay, sa_EitherWay⟩, ⟨pg_LoopWay, hdd_LoopWay, po_LoopWay, sa_LoopWay⟩, n_PatWay_watcher, n_PatWay_gaps, n_WorkWay_watcher, n_WorkWay_goal, n_WorkWay_least, n_WorkWay_gaps, n_RowWay_ways, n_RowWay_gaps, n_EitherWay_ways, n_EitherWay_gaps, n_LoopWay_least, n_LoopWay_turns, n_LoopWay_goals, n_LoopWay_gaps⟩
  have TX : K10R.TxtW K mg C_4 := ⟨T0, PySem.W.mg_none_of X G z_max, PySem.W.mg_none_of X G z_min, PySem.W.mg_none_of X G z_sorted, PySem.W.mg_none_of X G z_set, PySem.W.mg_none_of X G z_enumerate, ⟨_, PySem.W.mg_of X G q_GREATEST_HIGH⟩, ⟨_, PySem.W.mg_of X G q_MOST_WORKS⟩, ⟨_, PySem.W.mg_of X G q_LONGEST_WORK⟩, PySem.W.mg_of X G aC4, x4, kk4, b4, t4⟩
  have TI : K10R.TxtR K C_Ring := ⟨⟨pg_Ring, hdd_Ring, po_Ring, sa_Ring⟩, n_Ring_low, n_Ring_high, n_Ring_works⟩
  refine ⟨PySem.W.fnOf "law" "law" (C8.fnArgs s_law) (C8.fnBody s_law) (C8.fnScope s_law) .none kV_law dc_law pm_law an_law (.ref cc) ct_law, [(cc, Pt)], sp_law K Pt, fun p hp => by rw [List.mem_singleton.mp hp]; exact hT, fun p hp => by rw [List.mem_singleton.mp hp]; exact nPt, fun p hp => by rw [List.mem_singleton.mp hp]; exact PySem.W.codeHd_of_K X hch, fun s u => .of_eq rfl,
    fun H a ns hl _ ht hs => ⟨a, ns, rfl, hs, hl, ht _ (List.mem_singleton.mpr rfl), fun _ => rfl⟩, fun base KB GB tb => ?_⟩
  have g0 := K10.ok_is_number (P := l.prog) (w := w) (base := base) T D_is_number B_is_number
  have g1 := K10.ok_is_range T D_is_range B_is_range g0
  have g2 := K10.ok_has_form T D_has_form B_has_form g1
  have g3 := K10.ok_plans_in (P := l.prog) (w := w) (base := base) T D_plans_in B_plans_in
  have g4 := K10.ok_check_plan T D_check_plan B_check_plan g2 g3
  have m1 := K10.ok_take T TR ⟨a_Run_take, i_Run_take, k_Run_take⟩ F_Run_take B_Run_take g0
  have m2 := K10.ok_follow T TR ⟨a_Run_follow, i_Run_follow, k_Run_follow⟩ F_Run_follow B_Run_follow m1 2
  have m0 := K10.ok_init (P := l.prog) (w := w) (base := base) T TR ⟨mk_Run, a_Run_init, i_Run_init, kc_Run⟩ (PySem.W.mg_of X G aC_Run) F_Run_init B_Run_init
  have b0 := K10.ok_holds (P := l.prog) (w := w) (mg := mg) (base := base) D_holds B_holds
  have b1 := K10.ok_spread (P := l.prog) (w := w) (base := base) TJ D_spread B_spread
  have w0 := K10.ok_winit (P := l.prog) (w := w) (mg := mg) (base := base) TW ⟨mk_Watcher, a_Watcher_init, i_Watcher_init, kc_Watcher⟩ (PySem.W.mg_of X G aC_Watcher) F_Watcher_init B_Watcher_init
  have w1 := K10.ok_gbp (P := l.prog) (w := w) (mg := mg) (base := base) TW ⟨a_Watcher_gap_behind_pat, i_Watcher_gap_behind_pat, k_Watcher_gap_behind_pat⟩ F_Watcher_gap_behind_pat B_Watcher_gap_behind_pat
  have w2 := K10.ok_gbw (P := l.prog) (w := w) (base := base) TW TJ ⟨a_Watcher_gap_behind_work, i_Watcher_gap_behind_work, k_Watcher_gap_behind_work⟩ F_Watcher_gap_behind_work B_Watcher_gap_behind_work
  have w3 := K10.ok_gap TW ⟨a_Watcher_gaps_ahead_of_pat, i_Watcher_gaps_ahead_of_pat, k_Watcher_gaps_ahead_of_pat⟩ F_Watcher_gaps_ahead_of_pat B_Watcher_gaps_ahead_of_pat b0
  have w4 := K10.ok_gaw TW ⟨a_Watcher_gaps_ahead_of_work, i_Watcher_gaps_ahead_of_work, k_Watcher_gaps_ahead_of_work⟩ F_Watcher_gaps_ahead_of_work B_Watcher_gaps_ahead_of_work b0 b1
  have y0 := K10.ok_pinit TY ⟨mk_PatWay, a_PatWay_init, i_PatWay_init, kc_PatWay⟩ (PySem.W.mg_of X G aC_PatWay) F_PatWay_init B_PatWay_init w3
  have y1 := K10.ok_kinit TY ⟨mk_WorkWay, a_WorkWay_init, i_WorkWay_init, kc_WorkWay⟩ (PySem.W.mg_of X G aC_WorkWay) F_WorkWay_init B_WorkWay_init w4
  have y2 := K10.ok_way TY TJ D_way_to B_way_to y0 y1 ⟨mk_RowWay, a_RowWay_init, i_RowWay_init, kc_RowWay⟩ (PySem.W.mg_of X G aC_RowWay) F_RowWay_init B_RowWay_init ⟨mk_EitherWay, a_EitherWay_init, i_EitherWay_init, kc_EitherWay⟩ (PySem.W.mg_of X G aC_EitherWay) F_EitherWay_init B_EitherWay_init ⟨mk_LoopWay, a_LoopWay_init, i_LoopWay_init, kc_LoopWay⟩ (PySem.W.mg_of X G aC_LoopWay) F_LoopWay_init B_LoopWay_init 1
  have y3 := K10.ok_lead TY TJ ⟨a_PatWay_lead, i_PatWay_lead, k_PatWay_lead⟩ F_PatWay_lead B_PatWay_lead ⟨a_WorkWay_lead, i_WorkWay_lead, k_WorkWay_lead⟩ F_WorkWay_lead B_WorkWay_lead ⟨a_RowWay_lead, i_RowWay_lead, k_RowWay_lead⟩ F_RowWay_lead B_RowWay_lead ⟨a_EitherWay_lead, i_EitherWay_lead, k_EitherWay_lead⟩ F_EitherWay_lead B_EitherWay_lead ⟨a_LoopWay_lead, i_LoopWay_lead, k_LoopWay_lead⟩ F_LoopWay_lead B_LoopWay_lead w1 w2 b0 1
  have j0 := K10.ok_gr (n := 1) TY TW TJ D_goals_of_rounds B_goals_of_rounds b0 y2
  have j1 := K10.ok_dr (n := 1) TY TJ D_delays_of_rounds B_delays_of_rounds y3 y2
  have j2 := K10.ok_check_window TQ D_check_window B_check_window g1
  have j3 := K10.ok_first_bite (P := l.prog) (w := w) (base := base) TQ D_first_bite B_first_bite
  have j4 := K10.ok_br (n := 1) TQ TR D_bite_of_rounds B_bite_of_rounds m0 m2 j3
  have j5 := K10.ok_judged (n := 1) TQ D_judged B_judged j2 g4 w0 j0 j1 j4
  have r0 := K10R.ok_is_number (P := l.prog) (w := w) (base := base) T0 D_is_number B_is_number
  have r1 := K10R.ok_is_range T0 D_is_range B_is_range r0
  have r2 := K10R.ok_check_window TX D_check_window B_check_window r1
  have r3 := K10R.ok_check_works TX D_check_works B_check_works r1
  have i0 := K10R.ok_init TX TI ⟨mk_Ring, a_Ring_init, i_Ring_init, kc_Ring⟩ (PySem.W.mg_of X G aC_Ring) F_Ring_init B_Ring_init r2 r3
  have i1 := ok_timely (P := l.prog) (w := w) (base := base) TX TI ⟨a_Ring_is_timely, i_Ring_is_timely, k_Ring_is_timely⟩ F_Ring_is_timely B_Ring_is_timely
  have i2 := ok_fits TX TI ⟨a_Ring_fits, i_Ring_fits, k_Ring_fits⟩ F_Ring_fits B_Ring_fits i1
  have i3 := ok_firsts TX TI ⟨a_Ring_first_places, i_Ring_first_places, k_Ring_first_places⟩ F_Ring_first_places B_Ring_first_places i1
  have i4 := ok_nexts TX TI ⟨a_Ring_next_places, i_Ring_next_places, k_Ring_next_places⟩ F_Ring_next_places B_Ring_next_places i2
  have i5 := ok_lev TX TI ⟨a_Ring_next_level, i_Ring_next_level, k_Ring_next_level⟩ F_Ring_next_level B_Ring_next_level i4
  have i6 := ok_levels TX TI ⟨a_Ring_levels_of, i_Ring_levels_of, k_Ring_levels_of⟩ F_Ring_levels_of B_Ring_levels_of i5
  have i7 := ok_comes TX TI ⟨a_Ring_comes_back, i_Ring_comes_back, k_Ring_comes_back⟩ F_Ring_comes_back B_Ring_comes_back i2
  have r4 := ok_fewest TX TI D_fewest B_fewest i0 i3 i2 i4
  have r5 := ok_shown TX TI D_shown B_shown i0 i3 i6 i7
  have r6 := ok_check_places TX D_check_places B_check_places r0
  have r7 := ok_plan_with TX D_plan_with B_plan_with r3 r6
  have h1 := K10.ok_start (P := l.prog) (w := w) (base := base) T0 D_law_start B_law_start
  have h2 := K10.ok_drawn (P := l.prog) (w := w) (base := base) T0 D_law_drawn B_law_drawn
  exact ok_law TX R RN (tb _ (List.mem_singleton.mpr rfl)) l_law c_law D_law_kind B_law_kind h1 h2 (ok_works TX D_law_works B_law_works h2) (ok_wide TX D_law_wide B_law_wide h2) (ok_sets (P := l.prog) (w := w) (base := base) TX D_law_sets B_law_sets) r7 j5 r4 r5
end K10R
open PySem PySem.W PyProof.Rows
set_option maxRecDepth 100000 in
set_option maxHeartbeats 0 in
theorem PySem.Challenge.cw_windowdog_k10_whole_safe_with_the_fewest_holds : PySem.Challenge.rw_windowdog_k10_whole_safe_with_the_fewest.Holds := by
  w_on; o_law; k_head; (case hw => w_witness2)
  k_fill
  refine LamX.walk_ofTs (l := PySem.Challenge.rw_windowdog_k10_whole_safe_with_the_fewest) (n := 63) (k := 11) (x := "_law_script") (CX := fun _ => C8.CX0) rfl (by decide) rfl ⟨rfl, by decide, by decide⟩ (fun w h Y => PySem.W.km_in_of Y) ?F (fun _ _ _ _ _ z => z)
  case F =>
    intro w mg fa h Y KX G hmg
    refine' K10R.law_at KX G hmg ?a_is_number ?l_is_number ?c_is_number ?k_is_number ?a_is_range ?l_is_range ?c_is_range ?k_is_range ?a_has_form ?l_has_form ?c_has_form ?k_has_form ?a_plans_in ?l_plans_in ?c_plans_in ?k_plans_in ?a_check_plan ?l_check_plan ?c_check_plan ?k_check_plan ?a_check_window ?l_check_window ?c_check_window ?k_check_window ?a_first_bite ?l_first_bite ?c_first_bite ?k_first_bite ?a_holds ?l_holds ?c_holds ?k_holds ?a_spread ?l_spread ?c_spread ?k_spread ?a_way_to ?l_way_to ?c_way_to ?k_way_to ?a_goals_of_rounds ?l_goals_of_rounds ?c_goals_of_rounds ?k_goals_of_rounds ?a_delays_of_rounds ?l_delays_of_rounds ?c_delays_of_rounds ?k_delays_of_rounds ?a_bite_of_rounds ?l_bite_of_rounds ?c_bite_of_rounds ?k_bite_of_rounds ?a_judged ?l_judged ?c_judged ?k_judged ?a_check_works ?l_check_works ?c_check_works ?k_check_works ?a_check_places ?l_check_places ?c_check_places ?k_check_places ?a_plan_with ?l_plan_with ?c_plan_with ?k_plan_with ?a_fewest ?l_fewest ?c_fewest ?k_fewest ?a_shown ?l_shown ?c_shown ?k_shown ?a_law_start ?l_law_start ?c_law_start ?k_law_start ?a_law_drawn ?l_law_drawn ?c_law_drawn ?k_law_drawn ?a_law_kind ?l_law_kind ?c_law_kind ?k_law_kind ?a_law_works ?l_law_works ?c_law_works ?k_law_works ?a_law_wide ?l_law_wide ?c_law_wide ?k_law_wide ?a_law_sets ?l_law_sets ?c_law_sets ?k_law_sets ?a_law ?l_law ?c_law ?k_law ?aC_Run ?a_Run_init ?i_Run_init ?l_Run_init ?c_Run_init ?k_Run_init ?a_Run_take ?i_Run_take ?l_Run_take ?c_Run_take ?k_Run_take ?a_Run_follow ?i_Run_follow ?l_Run_follow ?c_Run_follow ?k_Run_follow ?pg_Run ?hdd_Run ?po_Run ?sa_Run ?mk_Run ?kc_Run ?n_Run_delays ?n_Run_used ?n_Run_now ?n_Run_pats ?aC_Watcher ?a_Watcher_init ?i_Watcher_init ?l_Watcher_init ?c_Watcher_init ?k_Watcher_init ?a_Watcher_gap_behind_pat ?i_Watcher_gap_behind_pat ?l_Watcher_gap_behind_pat ?c_Watcher_gap_behind_pat ?k_Watcher_gap_behind_pat ?a_Watcher_gap_behind_work ?i_Watcher_gap_behind_work ?l_Watcher_gap_behind_work ?c_Watcher_gap_behind_work ?k_Watcher_gap_behind_work ?a_Watcher_gaps_ahead_of_pat ?i_Watcher_gaps_ahead_of_pat ?l_Watcher_gaps_ahead_of_pat ?c_Watcher_gaps_ahead_of_pat ?k_Watcher_gaps_ahead_of_pat ?a_Watcher_gaps_ahead_of_work ?i_Watcher_gaps_ahead_of_work ?l_Watcher_gaps_ahead_of_work ?c_Watcher_gaps_ahead_of_work ?k_Watcher_gaps_ahead_of_work ?pg_Watcher ?hdd_Watcher ?po_Watcher ?sa_Watcher ?mk_Watcher ?kc_Watcher ?n_Watcher_low ?n_Watcher_high ?n_Watcher_bitten ?n_Watcher_bite ?n_Watcher_too_soon ?n_Watcher_timely ?aC_PatWay ?a_PatWay_init ?i_PatWay_init ?l_PatWay_init ?c_PatWay_init ?k_PatWay_init ?a_PatWay_lead ?i_PatWay_lead ?l_PatWay_lead ?c_PatWay_lead ?k_PatWay_lead ?pg_PatWay ?hdd_PatWay ?po_PatWay ?sa_PatWay ?mk_PatWay ?kc_PatWay ?n_PatWay_watcher ?n_PatWay_gaps ?aC_WorkWay ?a_WorkWay_init ?i_WorkWay_init ?l_WorkWay_init ?c_WorkWay_init ?k_WorkWay_init ?a_WorkWay_lead ?i_WorkWay_lead ?l_WorkWay_lead ?c_WorkWay_lead ?k_WorkWay_lead ?pg_WorkWay ?hdd_WorkWay ?po_WorkWay ?sa_WorkWay ?mk_WorkWay ?kc_WorkWay ?n_WorkWay_watcher ?n_WorkWay_goal ?n_WorkWay_least ?n_WorkWay_gaps ?aC_RowWay ?a_RowWay_init ?i_RowWay_init ?l_RowWay_init ?c_RowWay_init ?k_RowWay_init ?a_RowWay_lead ?i_RowWay_lead ?l_RowWay_lead ?c_RowWay_lead ?k_RowWay_lead ?pg_RowWay ?hdd_RowWay ?po_RowWay ?sa_RowWay ?mk_RowWay ?kc_RowWay ?n_RowWay_ways ?n_RowWay_gaps ?aC_EitherWay ?a_EitherWay_init ?i_EitherWay_init ?l_EitherWay_init ?c_EitherWay_init ?k_EitherWay_init ?a_EitherWay_lead ?i_EitherWay_lead ?l_EitherWay_lead ?c_EitherWay_lead ?k_EitherWay_lead ?pg_EitherWay ?hdd_EitherWay ?po_EitherWay ?sa_EitherWay ?mk_EitherWay ?kc_EitherWay ?n_EitherWay_ways ?n_EitherWay_gaps ?aC_LoopWay ?a_LoopWay_init ?i_LoopWay_init ?l_LoopWay_init ?c_LoopWay_init ?k_LoopWay_init ?a_LoopWay_lead ?i_LoopWay_lead ?l_LoopWay_lead ?c_LoopWay_lead ?k_LoopWay_lead ?pg_LoopWay ?hdd_LoopWay ?po_LoopWay ?sa_LoopWay ?mk_LoopWay ?kc_LoopWay ?n_LoopWay_least ?n_LoopWay_turns ?n_LoopWay_goals ?n_LoopWay_gaps ?aC_Ring ?a_Ring_init ?i_Ring_init ?l_Ring_init ?c_Ring_init ?k_Ring_init ?a_Ring_is_timely ?i_Ring_is_timely ?l_Ring_is_timely ?c_Ring_is_timely ?k_Ring_is_timely ?a_Ring_fits ?i_Ring_fits ?l_Ring_fits ?c_Ring_fits ?k_Ring_fits ?a_Ring_first_places ?i_Ring_first_places ?l_Ring_first_places ?c_Ring_first_places ?k_Ring_first_places ?a_Ring_next_places ?i_Ring_next_places ?l_Ring_next_places ?c_Ring_next_places ?k_Ring_next_places ?a_Ring_next_level ?i_Ring_next_level ?l_Ring_next_level ?c_Ring_next_level ?k_Ring_next_level ?a_Ring_levels_of ?i_Ring_levels_of ?l_Ring_levels_of ?c_Ring_levels_of ?k_Ring_levels_of ?a_Ring_comes_back ?i_Ring_comes_back ?l_Ring_comes_back ?c_Ring_comes_back ?k_Ring_comes_back ?pg_Ring ?hdd_Ring ?po_Ring ?sa_Ring ?mk_Ring ?kc_Ring ?n_Ring_low ?n_Ring_high ?n_Ring_works ?lc ?v11 ?hch ?nPt ?z_isinstance ?z_len ?z_int ?z_bool ?z_range ?z_list ?z_tuple ?z_str ?z_sum ?z_min ?z_reversed ?z_ValueError ?z_max ?z_sorted ?z_set ?z_enumerate ?q_LONGEST_WORK ?q_MOST_TIMES ?q_LONGEST_ROW ?q_MOST_PLANS ?q_MOST_DEEP ?q_MOST_LOOPS ?q_GREATEST_HIGH ?q_MOST_WORKS ?aD ?aC0 ?aC1 ?aC2 ?aC3 ?aC4 ?aC5 ?aC6 ?aC7 ?aC8 ?bD ?hD ?tD ?xn ?xt ?x4 ?kk4 ?b4 ?t4 ?hg4 ?hk4 ?hd4 ?ha4 ?hm4 ?sD4 ?kv4 ?ki4_0 ?ki4_1 ?ki4_2 ?ki4_3 ?ki4_4 ?ki4_5 ?ki4_6 ?ki4_7 ?ki4_8 ?hT
    (case a_is_number => k_is)
    (case l_is_number => k_is)
    (case c_is_number => k_is)
    (case k_is_number => k_is)
    (case a_is_range => k_is)
    (case l_is_range => k_is)
    (case c_is_range => k_is)
    (case k_is_range => k_is)
    (case a_has_form => k_is)
    (case l_has_form => k_is)
    (case c_has_form => k_is)
    (case k_has_form => k_is)
    (case a_plans_in => k_is)
    (case l_plans_in => k_is)
    (case c_plans_in => k_is)
    (case k_plans_in => k_is)
    (case a_check_plan => k_is)
    (case l_check_plan => k_is)
    (case c_check_plan => k_is)
    (case k_check_plan => k_is)
    (case a_check_window => k_is)
    (case l_check_window => k_is)
    (case c_check_window => k_is)
    (case k_check_window => k_is)
    (case a_first_bite => k_is)
    (case l_first_bite => k_is)
    (case c_first_bite => k_is)
    (case k_first_bite => k_is)
    (case a_holds => k_is)
    (case l_holds => k_is)
    (case c_holds => k_is)
    (case k_holds => k_is)
    (case a_spread => k_is)
    (case l_spread => k_is)
    (case c_spread => k_is)
    (case k_spread => k_is)
    (case a_way_to => k_is)
    (case l_way_to => k_is)
    (case c_way_to => k_is)
    (case k_way_to => k_is)
    (case a_goals_of_rounds => k_is)
    (case l_goals_of_rounds => k_is)
    (case c_goals_of_rounds => k_is)
    (case k_goals_of_rounds => k_is)
    (case a_delays_of_rounds => k_is)
    (case l_delays_of_rounds => k_is)
    (case c_delays_of_rounds => k_is)
    (case k_delays_of_rounds => k_is)
    (case a_bite_of_rounds => k_is)
    (case l_bite_of_rounds => k_is)
    (case c_bite_of_rounds => k_is)
    (case k_bite_of_rounds => k_is)
    (case a_judged => k_is)
    (case l_judged => k_is)
    (case c_judged => k_is)
    (case k_judged => k_is)
    (case a_check_works => k_is)
    (case l_check_works => k_is)
    (case c_check_works => k_is)
    (case k_check_works => k_is)
    (case a_check_places => k_is)
    (case l_check_places => k_is)
    (case c_check_places => k_is)
    (case k_check_places => k_is)
    (case a_plan_with => k_is)
    (case l_plan_with => k_is)
    (case c_plan_with => k_is)
    (case k_plan_with => k_is)
    (case a_fewest => k_is)
    (case l_fewest => k_is)
    (case c_fewest => k_is)
    (case k_fewest => k_is)
    (case a_shown => k_is)
    (case l_shown => k_is)
    (case c_shown => k_is)
    (case k_shown => k_is)
    (case a_law_start => k_is)
    (case l_law_start => k_is)
    (case c_law_start => k_is)
    (case k_law_start => k_is)
    (case a_law_drawn => k_is)
    (case l_law_drawn => k_is)
    (case c_law_drawn => k_is)
    (case k_law_drawn => k_is)
    (case a_law_kind => k_is)
    (case l_law_kind => k_is)
    (case c_law_kind => k_is)
    (case k_law_kind => k_is)
    (case a_law_works => k_is)
    (case l_law_works => k_is)
    (case c_law_works => k_is)
    (case k_law_works => k_is)
    (case a_law_wide => k_is)
    (case l_law_wide => k_is)
    (case c_law_wide => k_is)
    (case k_law_wide => k_is)
    (case a_law_sets => k_is)
    (case l_law_sets => k_is)
    (case c_law_sets => k_is)
    (case k_law_sets => k_is)
    (case a_law => k_is)
    (case l_law => k_is)
    (case c_law => k_is)
    (case k_law => k_is)
    (case aC_Run => k_is)
    (case a_Run_init => k_is)
    (case i_Run_init => k_is)
    (case l_Run_init => k_is)
    (case c_Run_init => k_is)
    (case k_Run_init => k_is)
    (case a_Run_take => k_is)
    (case i_Run_take => k_is)
    (case l_Run_take => k_is)
    (case c_Run_take => k_is)
    (case k_Run_take => k_is)
    (case a_Run_follow => k_is)
    (case i_Run_follow => k_is)
    (case l_Run_follow => k_is)
    (case c_Run_follow => k_is)
    (case k_Run_follow => k_is)
    (case pg_Run => k_is)
    (case hdd_Run => k_is)
    (case po_Run => k_is)
    (case sa_Run => k_is)
    (case mk_Run => k_is)
    (case kc_Run => k_is)
    (case n_Run_delays => k_is)
    (case n_Run_used => k_is)
    (case n_Run_now => k_is)
    (case n_Run_pats => k_is)
    (case aC_Watcher => k_is)
    (case a_Watcher_init => k_is)
    (case i_Watcher_init => k_is)
    (case l_Watcher_init => k_is)
    (case c_Watcher_init => k_is)
    (case k_Watcher_init => k_is)
    (case a_Watcher_gap_behind_pat => k_is)
    (case i_Watcher_gap_behind_pat => k_is)
    (case l_Watcher_gap_behind_pat => k_is)
    (case c_Watcher_gap_behind_pat => k_is)
    (case k_Watcher_gap_behind_pat => k_is)
    (case a_Watcher_gap_behind_work => k_is)
    (case i_Watcher_gap_behind_work => k_is)
    (case l_Watcher_gap_behind_work => k_is)
    (case c_Watcher_gap_behind_work => k_is)
    (case k_Watcher_gap_behind_work => k_is)
    (case a_Watcher_gaps_ahead_of_pat => k_is)
    (case i_Watcher_gaps_ahead_of_pat => k_is)
    (case l_Watcher_gaps_ahead_of_pat => k_is)
    (case c_Watcher_gaps_ahead_of_pat => k_is)
    (case k_Watcher_gaps_ahead_of_pat => k_is)
    (case a_Watcher_gaps_ahead_of_work => k_is)
    (case i_Watcher_gaps_ahead_of_work => k_is)
    (case l_Watcher_gaps_ahead_of_work => k_is)
    (case c_Watcher_gaps_ahead_of_work => k_is)
    (case k_Watcher_gaps_ahead_of_work => k_is)
    (case pg_Watcher => k_is)
    (case hdd_Watcher => k_is)
    (case po_Watcher => k_is)
    (case sa_Watcher => k_is)
    (case mk_Watcher => k_is)
    (case kc_Watcher => k_is)
    (case n_Watcher_low => k_is)
    (case n_Watcher_high => k_is)
    (case n_Watcher_bitten => k_is)
    (case n_Watcher_bite => k_is)
    (case n_Watcher_too_soon => k_is)
    (case n_Watcher_timely => k_is)
    (case aC_PatWay => k_is)
    (case a_PatWay_init => k_is)
    (case i_PatWay_init => k_is)
    (case l_PatWay_init => k_is)
    (case c_PatWay_init => k_is)
    (case k_PatWay_init => k_is)
    (case a_PatWay_lead => k_is)
    (case i_PatWay_lead => k_is)
    (case l_PatWay_lead => k_is)
    (case c_PatWay_lead => k_is)
    (case k_PatWay_lead => k_is)
    (case pg_PatWay => k_is)
    (case hdd_PatWay => k_is)
    (case po_PatWay => k_is)
    (case sa_PatWay => k_is)
    (case mk_PatWay => k_is)
    (case kc_PatWay => k_is)
    (case n_PatWay_watcher => k_is)
    (case n_PatWay_gaps => k_is)
    (case aC_WorkWay => k_is)
    (case a_WorkWay_init => k_is)
    (case i_WorkWay_init => k_is)
    (case l_WorkWay_init => k_is)
    (case c_WorkWay_init => k_is)
    (case k_WorkWay_init => k_is)
    (case a_WorkWay_lead => k_is)
    (case i_WorkWay_lead => k_is)
    (case l_WorkWay_lead => k_is)
    (case c_WorkWay_lead => k_is)
    (case k_WorkWay_lead => k_is)
    (case pg_WorkWay => k_is)
    (case hdd_WorkWay => k_is)
    (case po_WorkWay => k_is)
    (case sa_WorkWay => k_is)
    (case mk_WorkWay => k_is)
    (case kc_WorkWay => k_is)
    (case n_WorkWay_watcher => k_is)
    (case n_WorkWay_goal => k_is)
    (case n_WorkWay_least => k_is)
    (case n_WorkWay_gaps => k_is)
    (case aC_RowWay => k_is)
    (case a_RowWay_init => k_is)
    (case i_RowWay_init => k_is)
    (case l_RowWay_init => k_is)
    (case c_RowWay_init => k_is)
    (case k_RowWay_init => k_is)
    (case a_RowWay_lead => k_is)
    (case i_RowWay_lead => k_is)
    (case l_RowWay_lead => k_is)
    (case c_RowWay_lead => k_is)
    (case k_RowWay_lead => k_is)
    (case pg_RowWay => k_is)
    (case hdd_RowWay => k_is)
    (case po_RowWay => k_is)
    (case sa_RowWay => k_is)
    (case mk_RowWay => k_is)
    (case kc_RowWay => k_is)
    (case n_RowWay_ways => k_is)
    (case n_RowWay_gaps => k_is)
    (case aC_EitherWay => k_is)
    (case a_EitherWay_init => k_is)
    (case i_EitherWay_init => k_is)
    (case l_EitherWay_init => k_is)
    (case c_EitherWay_init => k_is)
    (case k_EitherWay_init => k_is)
    (case a_EitherWay_lead => k_is)
    (case i_EitherWay_lead => k_is)
    (case l_EitherWay_lead => k_is)
    (case c_EitherWay_lead => k_is)
    (case k_EitherWay_lead => k_is)
    (case pg_EitherWay => k_is)
    (case hdd_EitherWay => k_is)
    (case po_EitherWay => k_is)
    (case sa_EitherWay => k_is)
    (case mk_EitherWay => k_is)
    (case kc_EitherWay => k_is)
    (case n_EitherWay_ways => k_is)
    (case n_EitherWay_gaps => k_is)
    (case aC_LoopWay => k_is)
    (case a_LoopWay_init => k_is)
    (case i_LoopWay_init => k_is)
    (case l_LoopWay_init => k_is)
    (case c_LoopWay_init => k_is)
    (case k_LoopWay_init => k_is)
    (case a_LoopWay_lead => k_is)
    (case i_LoopWay_lead => k_is)
    (case l_LoopWay_lead => k_is)
    (case c_LoopWay_lead => k_is)
    (case k_LoopWay_lead => k_is)
    (case pg_LoopWay => k_is)
    (case hdd_LoopWay => k_is)
    (case po_LoopWay => k_is)
    (case sa_LoopWay => k_is)
    (case mk_LoopWay => k_is)
    (case kc_LoopWay => k_is)
    (case n_LoopWay_least => k_is)
    (case n_LoopWay_turns => k_is)
    (case n_LoopWay_goals => k_is)
    (case n_LoopWay_gaps => k_is)
    (case aC_Ring => k_is)
    (case a_Ring_init => k_is)
    (case i_Ring_init => k_is)
    (case l_Ring_init => k_is)
    (case c_Ring_init => k_is)
    (case k_Ring_init => k_is)
    (case a_Ring_is_timely => k_is)
    (case i_Ring_is_timely => k_is)
    (case l_Ring_is_timely => k_is)
    (case c_Ring_is_timely => k_is)
    (case k_Ring_is_timely => k_is)
    (case a_Ring_fits => k_is)
    (case i_Ring_fits => k_is)
    (case l_Ring_fits => k_is)
    (case c_Ring_fits => k_is)
    (case k_Ring_fits => k_is)
    (case a_Ring_first_places => k_is)
    (case i_Ring_first_places => k_is)
    (case l_Ring_first_places => k_is)
    (case c_Ring_first_places => k_is)
    (case k_Ring_first_places => k_is)
    (case a_Ring_next_places => k_is)
    (case i_Ring_next_places => k_is)
    (case l_Ring_next_places => k_is)
    (case c_Ring_next_places => k_is)
    (case k_Ring_next_places => k_is)
    (case a_Ring_next_level => k_is)
    (case i_Ring_next_level => k_is)
    (case l_Ring_next_level => k_is)
    (case c_Ring_next_level => k_is)
    (case k_Ring_next_level => k_is)
    (case a_Ring_levels_of => k_is)
    (case i_Ring_levels_of => k_is)
    (case l_Ring_levels_of => k_is)
    (case c_Ring_levels_of => k_is)
    (case k_Ring_levels_of => k_is)
    (case a_Ring_comes_back => k_is)
    (case i_Ring_comes_back => k_is)
    (case l_Ring_comes_back => k_is)
    (case c_Ring_comes_back => k_is)
    (case k_Ring_comes_back => k_is)
    (case pg_Ring => k_is)
    (case hdd_Ring => k_is)
    (case po_Ring => k_is)
    (case sa_Ring => k_is)
    (case mk_Ring => k_is)
    (case kc_Ring => k_is)
    (case n_Ring_low => k_is)
    (case n_Ring_high => k_is)
    (case n_Ring_works => k_is)
    (case lc => k_is)
    (case v11 => exact rfl)
    (case hch => kernel_rfl)
    (case nPt => kernel_rfl)
    (case z_isinstance => k_is)
    (case z_len => k_is)
    (case z_int => k_is)
    (case z_bool => k_is)
    (case z_range => k_is)
    (case z_list => k_is)
    (case z_tuple => k_is)
    (case z_str => k_is)
    (case z_sum => k_is)
    (case z_min => k_is)
    (case z_reversed => k_is)
    (case z_ValueError => k_is)
    (case z_max => k_is)
    (case z_sorted => k_is)
    (case z_set => k_is)
    (case z_enumerate => k_is)
    (case q_LONGEST_WORK => k_is)
    (case q_MOST_TIMES => k_is)
    (case q_LONGEST_ROW => k_is)
    (case q_MOST_PLANS => k_is)
    (case q_MOST_DEEP => k_is)
    (case q_MOST_LOOPS => k_is)
    (case q_GREATEST_HIGH => k_is)
    (case q_MOST_WORKS => k_is)
    (case aD => k_is)
    (case aC0 => k_is)
    (case aC1 => k_is)
    (case aC2 => k_is)
    (case aC3 => k_is)
    (case aC4 => k_is)
    (case aC5 => k_is)
    (case aC6 => k_is)
    (case aC7 => k_is)
    (case aC8 => k_is)
    (case bD => k_is)
    (case hD => k_is)
    (case tD => k_is)
    (case xn => k_is)
    (case xt => k_is)
    (case x4 => k_exc)
    (case kk4 => k_is)
    (case b4 => k_is)
    (case t4 => k_is)
    (case hg4 => k_is)
    (case hk4 => k_is)
    (case hd4 => k_is)
    (case ha4 => k_is)
    (case hm4 => k_is)
    (case sD4 => k_is)
    (case kv4 => kernel_rfl)
    (case ki4_0 => kernel_rfl)
    (case ki4_1 => kernel_rfl)
    (case ki4_2 => kernel_rfl)
    (case ki4_3 => kernel_rfl)
    (case ki4_4 => kernel_rfl)
    (case ki4_5 => kernel_rfl)
    (case ki4_6 => kernel_rfl)
    (case ki4_7 => kernel_rfl)
    (case ki4_8 => kernel_rfl)
    (case hT => exact PySem.W.km_tabs_of Y _ (by k_mem))
