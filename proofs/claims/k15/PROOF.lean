import PyProof.Rows.All
import Wide.All
import OpenK.AllK
import Wide.FinOn
import HandS.ForMost
import HandS.ForExc
import HandS.Codes
import HandS.Lambda
import HandS.EndTab
import HandS.IsInst
import HandS.ExcIs
import HandS.Wide
import HandS.SetFor
import HandS.TupMul
import HandS.Conv
import HandS.Zip
import KE.SortData
import HandS.SetBool
import HandS.Strs
import KE.KDictKeyed
import KE.KDictDisplayH
import HandS.TupAny
import HandS.Style
import KE.GoesZip
import PySem.Challenge.RW_windowdog_k15_tasks_refused
set_option Elab.async false
set_option linter.all false
set_option maxRecDepth 100000
set_option maxHeartbeats 4000000
/-! The readings step by step; heaps in which one list (the drawing's) changes. -/
namespace Wd
open PySem PySem.Spec PyProof.Rows L2

/-! ### rules -/
section
variable {X : Cx} {a b c d : Expr} {ta tb tc td : TE} {pos : Pos}
def tChain3 (r r' r2 : R2) (ta tb tc td : TE) : TE := fun σ H Q => ta σ H fun x H1 => tb σ H1 fun y H2 => r x y H2 fun z H3 => ∃ k, z = .bl k ∧
  (if k = true then tc σ H3 fun w' H4 => r' y w' H4 fun z2 H5 => ∃ k2, z2 = .bl k2 ∧ (if k2 = true then td σ H5 fun w2 H6 => r2 w' w2 H6 Q else Q (.bl false) H5) else Q (.bl false) H3)
theorem pe_chain3 {op op' op2 : CmpOp} {r r' r2 : R2} (ho : OpR X (compareOp op) r) (ho' : OpR X (compareOp op') r') (ho2 : OpR X (compareOp op2) r2) (ha : PE X a ta) (hb : PE X b tb) (hc : PE X c tc) (hd : PE X d td)
    (hm : lastMarks [op, op', op2] [b, c, d] = false := by with_unfolding_all rfl) : PE X (.Compare a [op, op', op2] [b, c, d] pos) (tChain3 r r' r2 ta tb tc td) := by
  refine ⟨fun pins s σ H Q I h => ?_⟩
  refine Compare_chain (thn (ha.run pins s σ H _ I h) fun v s1 ⟨x, H1, I1, r1, q1⟩ => chain_link (thn (hb.run pins s1 σ H1 _ I1 q1) fun u s2 ⟨y, H2, I2, r2, q2⟩ =>
    thn (ho pins s2 σ H2 x y v u _ I2 r1 r2 q2) fun d s3 ⟨z, H3, I3, r3, k, e, q3⟩ => ?_)) hm
  subst e
  cases r3
  refine wpAny_truthy_bool ?_
  cases k with
  | false => exact ite_ff ⟨.bl false, H3, I3, rfl, q3⟩
  | true =>
    refine ite_tt (chain_link (thn (hc.run pins s3 σ H3 _ I3 q3) fun w' s4 ⟨z', H4, I4, r4, q4⟩ => thn (ho' pins s4 σ H4 y z' u w' _ I4 r2 r4 q4) fun d5 s5 ⟨z5, H5, I5, r5, k5, e5, q5⟩ => ?_))
    subst e5
    cases r5
    refine wpAny_truthy_bool ?_
    cases k5 with
    | false => exact ite_ff ⟨.bl false, H5, I5, rfl, q5⟩
    | true => exact ite_tt (chain_last (thn (hd.run pins s5 σ H5 _ I5 q5) fun w6 s6 ⟨z6, H6, I6, r6, q6⟩ => ho2 pins s6 σ H6 z' z6 w' w6 Q I6 r4 r6 q6))
end

section
variable {X : Cx} {K : PySem.W.Frag} {name : Str} {T id : String} {r : V → List V → Hp → VK → Prop} {o e : Expr} {es : List Expr} {to : TE} {t : TA} {apos cpos : Pos}
theorem pe_bmK (hK : X.K = K) (pa : PlainAttrs T) (slot : Slot T name id) (hty : typeOf (.builtin id) = pure (.type "method_descriptor")) (hm : MtR X id r) (ho : PE X o to) (ha : PA X (e :: es) t)
    (hbase : attributeBase o name X.env (eval o X.env) = eval o X.env := by rfl)
    (hfew : ((backTo cpos (starEach (e :: es) X.env)).all (fun x => !x.1) && (backToKw cpos (keywordEach [] X.env)).all (fun x => x.1.isSome)
      && decide ((e :: es).length + ([] : List Keyword).length + (if ([] : List Keyword).isEmpty then 0 else 1) < 30)) = true := by rfl)
    (hline : (apos.endLine == cpos.line) = true := by rfl) (hs : starEach (e :: es) X.env = (false, eval e X.env) :: starEach es X.env := by rfl) (hplain : (backTo cpos (starEach es X.env)).any (·.1) = false := by rfl) : PE X (.Call (.Attribute o name apos) (e :: es) [] cpos) (tBM K T r to t) := by
  subst hK; exact pe_bm pa slot hty hm ho ha hbase hfew hline hs hplain
theorem pe_bm0K (hK : X.K = K) (pa : PlainAttrs T) (slot : Slot T name id) (hty : typeOf (.builtin id) = pure (.type "method_descriptor")) (hm : MtR X id r) (ho : PE X o to)
    (hbase : attributeBase o name X.env (eval o X.env) = eval o X.env := by rfl) (hline : (apos.endLine == cpos.line) = true := by rfl) : PE X (.Call (.Attribute o name apos) [] [] cpos) (tBM0 K T r to) := by
  subst hK; exact pe_bm0 pa slot hty hm ho hbase hline
end

/-- a def of the module that may let an exception out -/
structure CalX (P : Program) (w : World) (K : PySem.W.Frag) (mg : Str → Option Value) (base : Heap) (k : Nat) (x : Str) (sp : Sp) : Prop where
  ex : ∃ (f : Addr) (fd : FuncData) (ps : List Str), FnOk P w K mg base (L2.CX P w) k f fd ps sp ∧ mg x = some (.ref f) ∧ PySem.W.keepIn K (.ref f) = true ∧ Binds K fd ps []
section
variable {X : Cx} {k j : Nat} {x : Str} {sp : Sp} {p pos : Pos} {e : Expr} {es : List Expr} {t : TA} {E : L2.St → XK}
theorem pe_cX (c : CalX X.prog X.w X.K X.mg X.base k x sp) (hr : Room j X.A) (hk : k ≤ j) (hg : Gl X x) (hx : ∀ σ, PassesAt (L2.CX X.prog X.w) X σ (E σ)) (ha : PA X (e :: es) t)
    (hdb : (x == ("__debug__" : Str)) = false := by decide) (he : starEach (e :: es) X.env = (false, eval e X.env) :: starEach es X.env := by rfl) (hpl : (backTo pos (starEach es X.env)).any (·.1) = false := by rfl) :
    PE X (.Call (.Name x p) (e :: es) [] pos) (tCallS sp E t) := by
  obtain ⟨f, fd, ps, F, hm, kp, b⟩ := c.ex
  exact pe_callS F (hr.mono hk) hg hm kp b hx ha hdb he hpl
end
section
variable {P : Program} {w : World} {K : PySem.W.Frag} {mg : Str → Option Value} {base : Heap}
/-- a def by its body, which may let an exception out -/
theorem calX {x : Str} {st : Stmt} {f : Addr} {fd : FuncData} {N ps : List Str} {k : Nat} {sp : Sp} (F : C8.Def K mg x st f fd) (b : Binds K fd ps []) (S : FnScope N ps (C8.fnScope st)) (len : ∀ vs H Q E, sp vs H Q E → vs.length = ps.length)
    (hbody : ∀ (cdv : Value) (A : Around) (outer : List Env) (s : Shared) (H : Hp) (vs : List V) (Q : VK) (E : XK), Room k (A.deeper (envOfC x (C8.fnScope st) s.heap.objs.size f cdv)) → sp vs H Q E →
      ∃ t, PSs (cxOf (L2.CX P w) P w K mg base N x (C8.fnScope st) f cdv A outer s H E) (C8.fnBody st) t ∧ t { nx := fun _ H' => Q .non H', rt := Q } (L2.start N vs) H) : CalX P w K mg base (k + 1) x sp := by
  refine ⟨f, fd, ps, ?_, F.mgf, F.kp, b⟩
  obtain ⟨oc, od, dV, kV, doc, pm, an, cdv, ct, osl, rfl, lk, hcd⟩ := F.fn.ex
  exact fn_of lk hcd S len fun A outer s H vs Q E hr hsp => hbody cdv A outer s H vs Q E hr hsp
end

/-! ### list.count of flat items -/
section
variable {X : Cx}
theorem count_eqU {x : V} : ∀ {xs : List V} {us : List Value}, Vals xs us → xs.all flatV = true → us.countP (eqU x) = xs.countP fun y => eqV y x
  | _, _, .nil, _ => rfl
  | y :: xs, u :: us, .cons r t, f => by
    rw [List.all_cons, Bool.and_eq_true] at f
    rw [List.countP_cons, List.countP_cons, eqU_of r f.1, count_eqU t f.2]
def rCntV (K : PySem.W.Frag) : V → List V → Hp → VK → Prop := fun x xs H Q => ∃ (p : Addr) (ys : List V) (y : V), x = .ref p ∧ xs = [y] ∧ SqL K H p ys ∧ flatV y = true ∧ ys.all flatV = true ∧ Q (.int ((ys.countP fun z => eqV z y : Nat) : Int)) H
theorem mt_lcountV : MtR X "list.count" (rCntV X.K) := by
  intro pins s σ H x xs v us Q I rx rxs h
  obtain ⟨p, ys, y, rfl, rfl, hs, fy, fys, q⟩ := h
  cases rx
  obtain ⟨u, rfl, ru⟩ := rxs.one
  obtain ⟨its, rv, ⟨⟨cls, dd, data, sl⟩, n, ho, hc, hdn, hd⟩, hlen⟩ := I.list hs
  simp only at hc hd
  subst hc hd
  refine call_meets PySem.F.slot_list_count ⟨_, ho, rfl⟩ PySem.F.entry_list_count (PySem.F.args_list_count_2 _ _)
    (SeqAt.list_countAt p its.toArray n dd sl u (eqU y)) ⟨ho, fun u' hu' => mem_eqAt ru fy rv fys u' (by simpa using hu'), ?_⟩
  have ec : its.toArray.toList.countP (eqU y) = ys.countP fun z => eqV z y := count_eqU rv fys
  refine ⟨.int (ys.countP fun z => eqV z y : Nat), H, I.tok _, ⟨s.toks, ?_⟩, q⟩
  show Value.int ((its.toArray.toList.countP (eqU y) : Nat) : Int) s.toks = Value.int ((ys.countP fun z => eqV z y : Nat) : Int) s.toks
  rw [ec]
end

/-! ### isinstance of a caught error, its class told by the reading -/
def rIsE2 (K : PySem.W.Frag) (cls : Value) (d : Option Addr) (a : Addr) : List V → Hp → VK → Prop := fun xs H Q => ∃ (D : Addr) (c : V) (cv : Value) (b : Bool), cls = .ref D ∧ d = none ∧ ExcC K D ∧ xs = [.ref a, c] ∧ (∀ u, RelV c u → u = cv) ∧ PySem.W.kitOne K (.ref D) cv = some b ∧ Q (.bl b) H
theorem call_isE2 {X : Cx} {a : Addr} {cls : Value} {d : Option Addr} {oe : Obj} {pn : List (Addr × Obj)} (hz : Zc cls d oe) (hf : ∃ vs, oe.data = .fields vs) : CallR (X.suite a ((a, oe) :: pn)) (.builtin "isinstance") (rIsE2 X.K cls d a) := by
  intro pins s σ H xs us Q I r h
  obtain ⟨D, c, cv, b, rfl, rfl, C, e, hcv, hk, q⟩ := h
  exact call_isE C hz hf pins s σ H xs us Q I r ⟨c, cv, b, e, hcv, hk, q⟩

/-- where an exception is, the slots are as many as the names -/
theorem takes_len {X : Cx} {W : WX} (t : Takes X W) : Takes X (fun c d σ H => σ.length = X.N.length → W c d σ H) := fun u s' x => by
  obtain ⟨a, B, sI, pins, σ, H, cls, d, e, I, x1, x2, x3, x4, x5, x6, q⟩ := x
  exact t u s' ⟨a, B, sI, pins, σ, H, cls, d, e, I, x1, x2, x3, x4, x5, x6, q I.len⟩

/-! ### built-ins by name -/
def rLen (K : PySem.W.Frag) : List V → Hp → VK → Prop := fun xs H Q => ∃ p ys, xs = [.ref p] ∧ (SqL K H p ys ∨ SqT K H p ys) ∧ Q (.int ys.length) H
theorem call_len1 {X : Cx} : CallR X (.builtin "len") (rLen X.K) := call_len_seq
def rListOf (K : PySem.W.Frag) : List V → Hp → VK → Prop := fun xs H Q => ∃ p ys, xs = [.ref p] ∧ (SqL K H p ys ∨ SqT K H p ys) ∧ ∀ l, H l = none → Q (.ref l) (upd H l (.lst ys))
theorem call_list1 {X : Cx} : CallR X (.type "list") (rListOf X.K) := call_list_of
def rMax2 : List V → Hp → VK → Prop := fun xs H Q => ∃ i j, xs = [.int i, .int j] ∧ Q (.int (if j > i then j else i)) H
theorem call_max1 {X : Cx} (hc : X.calm = true) : CallR X (.builtin "max") rMax2 := call_max2 hc
def rMin2 : List V → Hp → VK → Prop := fun xs H Q => ∃ i j, xs = [.int i, .int j] ∧ Q (.int (if j < i then j else i)) H
theorem call_min1 {X : Cx} (hc : X.calm = true) : CallR X (.builtin "min") rMin2 := call_min2 hc
def rInt1 : List V → Hp → VK → Prop := fun xs H Q => (∃ i, xs = [.int i] ∧ Q (.int i) H) ∨ ∃ k, xs = [.bl k] ∧ Q (.int (if k then 1 else 0)) H
theorem call_intB {X : Cx} : CallR X (.type "int") rInt1 := call_int1

def rIsN : R2 := fun x y H Q => y = .non ∧ Q (.bl (decide (x = .non))) H
theorem op_isN1 {X : Cx} : OpR X (compareOp .Is) rIsN := op_isN
def rNotN : R2 := fun x y H Q => y = .non ∧ Q (.bl (!decide (x = .non))) H
theorem op_notN1 {X : Cx} : OpR X (compareOp .IsNot) rNotN := op_notN

/-! ### steps -/
section
variable {σ : L2.St} {H : Hp} {Q : VK} {QB : Bool → Hp → Prop} {QA : List V → Hp → Prop} {i : Nat} {v x y : V} {ta tb tc te : TE} {t u : TT} {ts us : TS} {D : Ends} {n m : Int} {K : PySem.W.Frag} {r r' r2 : R2}
theorem g_var (h : σ[i]? = some (some v)) (q : Q v H) : tVar i σ H Q := ⟨v, h, q⟩
theorem g_c (q : Q v H) : tC v σ H Q := q
theorem g_op (h : ta σ H fun x H1 => tb σ H1 fun y H2 => r x y H2 Q) : tOp r ta tb σ H Q := h
theorem g_un {r : V → Hp → VK → Prop} (h : ta σ H fun x H1 => r x H1 Q) : tUn r ta σ H Q := h
theorem g_I0 {g : Int → Int → V} (q : Q (g n m) H) : rI0 g (.int n) (.int m) H Q := ⟨n, m, rfl, rfl, q⟩
theorem g_I {C : Int → Int → Prop} {g : Int → Int → V} (c : C n m) (q : Q (g n m) H) : rI C g (.int n) (.int m) H Q := ⟨n, m, rfl, rfl, c, q⟩
theorem g_U {g : Int → V} (q : Q (g n) H) : rU g (.int n) H Q := ⟨n, rfl, q⟩
theorem g_eqI (q : Q (.bl (decide (n = m))) H) : rEq (.int n) (.int m) H Q := ⟨rfl, by
  have e : decide (V.int n = V.int m) = decide (n = m) := by by_cases h : n = m <;> simp [h]
  rw [e]; exact q⟩
theorem g_neI (q : Q (.bl (!decide (n = m))) H) : rNe (.int n) (.int m) H Q := ⟨rfl, by
  have e : decide (V.int n = V.int m) = decide (n = m) := by by_cases h : n = m <;> simp [h]
  rw [e]; exact q⟩
theorem g_eqS {a b : Str} (q : Q (.bl (decide (a = b))) H) : rEq (.str a) (.str b) H Q := ⟨rfl, by
  have e : decide (V.str a = V.str b) = decide (a = b) := by by_cases h : a = b <;> simp [h]
  rw [e]; exact q⟩
theorem g_neS {a b : Str} (q : Q (.bl (!decide (a = b))) H) : rNe (.str a) (.str b) H Q := ⟨rfl, by
  have e : decide (V.str a = V.str b) = decide (a = b) := by by_cases h : a = b <;> simp [h]
  rw [e]; exact q⟩
theorem g_eqB {a b : Bool} (q : Q (.bl (a == b)) H) : rEq (.bl a) (.bl b) H Q := ⟨rfl, by
  have e : decide (V.bl a = V.bl b) = (a == b) := by cases a <;> cases b <;> rfl
  rw [e]; exact q⟩
theorem g_neB {a b : Bool} (q : Q (.bl (a != b)) H) : rNe (.bl a) (.bl b) H Q := ⟨rfl, by
  have e : (!decide (V.bl a = V.bl b)) = (a != b) := by cases a <;> cases b <;> rfl
  rw [e]; exact q⟩
theorem g_isN (q : Q (.bl (decide (x = .non))) H) : rIsN x .non H Q := ⟨rfl, q⟩
theorem g_notN (q : Q (.bl (!decide (x = .non))) H) : rNotN x .non H Q := ⟨rfl, q⟩
theorem g_test (h : te σ H fun x H' => ∃ k, x = .bl k ∧ QB k H') : tTest te σ H QB := h
theorem g_tB (h : te σ H fun x H' => ∃ k, x = .bl k ∧ QB k H') : tB te σ H QB := h
theorem g_bl {b : Bool} (q : QB b H) : ∃ k, V.bl b = .bl k ∧ QB k H := ⟨b, rfl, q⟩
theorem g_and (h : t σ H fun c H1 => if c = true then u σ H1 QB else QB false H1) : tAnd t u σ H QB := h
theorem g_or (h : t σ H fun c H1 => if c = true then QB true H1 else u σ H1 QB) : tOr t u σ H QB := h
theorem g_not (h : t σ H fun c H1 => QB (!c) H1) : tNot t σ H QB := h
theorem g_andV (h : ta σ H fun x H1 => ∃ c, x = .bl c ∧ if c = true then tb σ H1 Q else Q (.bl false) H1) : tAndV ta tb σ H Q := h
theorem g_orV (h : ta σ H fun x H1 => ∃ c, x = .bl c ∧ if c = true then Q (.bl true) H1 else tb σ H1 Q) : tOrV ta tb σ H Q := h
theorem g_notV (h : ta σ H fun x H1 => ∃ c, x = .bl c ∧ Q (.bl (!c)) H1) : tNotV ta σ H Q := h
theorem g_blI {b : Bool} {p : Bool → Prop} (q : p b) : ∃ k, V.bl b = .bl k ∧ p k := ⟨b, rfl, q⟩
theorem g_if (h : t σ H fun c H1 => if c = true then ta σ H1 Q else tb σ H1 Q) : tIf t ta tb σ H Q := h
theorem g_chain (h : ta σ H fun x H1 => tb σ H1 fun y H2 => r x y H2 fun z H3 => ∃ k, z = .bl k ∧ (if k = true then tc σ H3 fun w' H4 => r' y w' H4 Q else Q (.bl false) H3)) : tChain r r' ta tb tc σ H Q := h
theorem g_chain3 {td : TE} (h : ta σ H fun x H1 => tb σ H1 fun y H2 => r x y H2 fun z H3 => ∃ k, z = .bl k ∧
  (if k = true then tc σ H3 fun w' H4 => r' y w' H4 fun z2 H5 => ∃ k2, z2 = .bl k2 ∧ (if k2 = true then td σ H5 fun w2 H6 => r2 w' w2 H6 Q else Q (.bl false) H5) else Q (.bl false) H3)) : tChain3 r r' r2 ta tb tc td σ H Q := h
theorem g_nil (q : QA [] H) : tNil σ H QA := q
theorem g_cons {tr : TA} (h : ta σ H fun x H1 => tr σ H1 fun xs H2 => QA (x :: xs) H2) : tCons ta tr σ H QA := h
theorem g_tup {tr : TA} (h : tr σ H fun xs H1 => xs.length ≤ sizeLine ∧ ∀ p, H1 p = none → Q (.ref p) (upd H1 p (.tup xs))) : tTup tr σ H Q := h
theorem g_lst {tr : TA} (h : tr σ H fun xs H1 => xs.length ≤ sizeLine ∧ ∀ p, H1 p = none → Q (.ref p) (upd H1 p (.lst xs))) : tLst tr σ H Q := h
theorem g_CB {r : List V → Hp → VK → Prop} {tr : TA} (h : tr σ H fun vs H1 => r vs H1 Q) : tCB r tr σ H Q := h
theorem g_call {sp : Sp} {dvs : List V} {E : XK} {tr : TA} (h : tr σ H fun vs H1 => sp (vs ++ dvs) H1 Q E) : tCall sp dvs E tr σ H Q := h
theorem g_callS {sp : Sp} {E : L2.St → XK} {tr : TA} (h : tr σ H fun vs H1 => sp vs H1 Q (E σ)) : tCallS sp E tr σ H Q := h
theorem g_bm {T : String} {r : V → List V → Hp → VK → Prop} {tr : TA} (h : ta σ H fun x H1 => tyV K T x H1 ∧ tr σ H1 fun xs H2 => r x xs H2 Q) : tBM K T r ta tr σ H Q := h
theorem g_bm0 {T : String} {r : V → List V → Hp → VK → Prop} (h : ta σ H fun x H1 => tyV K T x H1 ∧ r x [] H1 Q) : tBM0 K T r ta σ H Q := h
theorem g_sl {r : V → Option Int → Option Int → Hp → VK → Prop} {tl th : TO} (h : te σ H fun x H1 => tl σ H1 fun l H2 => th σ H2 fun u H3 => r x l u H3 Q) : tSl r te tl th σ H Q := h
theorem g_part {QO : Option Int → Hp → Prop} (h : te σ H fun x H1 => ∃ i, x = .int i ∧ QO (some i) H1) : tPart te σ H QO := h
theorem g_part1 {p : Int → Prop} (h : p n) : ∃ i, V.int n = .int i ∧ p i := ⟨n, rfl, h⟩
theorem g_noPart {QO : Option Int → Hp → Prop} (h : QO none H) : tNoPart σ H QO := h
-- statements
theorem g_seq {a : L2.St → Hp → Prop} {b : VK} {c d : L2.St → Hp → Prop} (h : ts ⟨us ⟨a, b, c, d⟩, b, c, d⟩ σ H) : tSeq ts us ⟨a, b, c, d⟩ σ H := h
theorem g_fit {xs : List V} {R : Addr → Prop} (hl : Nat.ble xs.length 1000 = true) (q : ∀ p, H p = none → R p) : xs.length ≤ sizeLine ∧ ∀ p, H p = none → R p := ⟨Nat.le_trans (Nat.le_of_ble_eq_true hl) (by decide), q⟩
theorem g_next (h : D.nx σ H) : tNext D σ H := h
theorem g_asg {g : TG} (h : te σ H fun x H1 => g x σ H1 D.nx) : tAsg te g D σ H := h
theorem g_name {Qg : L2.St → Hp → Prop} (h : Qg (σ.set i (some v)) H) : gName i v σ H Qg := h
theorem g_sub {to ti : TE} {t : TSet} {Qg : L2.St → Hp → Prop} (h : to σ H fun o H1 => ti σ H1 fun i H2 => t o i v H2 fun H3 => Qg σ H3) : gSub to ti t v σ H Qg := h
theorem g_gnil {Qg : L2.St → Hp → Prop} (h : Qg σ H) : gNil [] σ H Qg := ⟨rfl, h⟩
theorem g_gcons {tg : TG} {ug : TGs} {vs : List V} {Qg : L2.St → Hp → Prop} (h : tg v σ H fun σ' H' => ug vs σ' H' Qg) : gCons tg ug (v :: vs) σ H Qg := ⟨v, vs, rfl, h⟩
theorem g_drop (h : te σ H fun _ H1 => D.nx σ H1) : tDrop te D σ H := h
theorem g_ret (h : te σ H D.rt) : tRet te D σ H := h
theorem g_retN (h : D.rt .non H) : tRetN D σ H := h
theorem g_brk (h : D.bk σ H) : tBreak D σ H := h
theorem g_cont (h : D.ct σ H) : tCont D σ H := h
theorem g_ifS (h : t σ H fun b H1 => if b = true then ts D σ H1 else us D σ H1) : tIfS t ts us D σ H := h
theorem g_nx {a : L2.St → Hp → Prop} {b : VK} {c d : L2.St → Hp → Prop} (h : a σ H) : Ends.nx ⟨a, b, c, d⟩ σ H := h
theorem g_bk {a : L2.St → Hp → Prop} {b : VK} {c d : L2.St → Hp → Prop} (h : c σ H) : Ends.bk ⟨a, b, c, d⟩ σ H := h
theorem g_ct {a : L2.St → Hp → Prop} {b : VK} {c d : L2.St → Hp → Prop} (h : d σ H) : Ends.ct ⟨a, b, c, d⟩ σ H := h
theorem g_rt {a : L2.St → Hp → Prop} {b : VK} {c d : L2.St → Hp → Prop} (h : b v H) : Ends.rt ⟨a, b, c, d⟩ v H := h
theorem g_rng1 {tr : TA} {R : It → Hp → Prop} (h : tr σ H fun vs H1 => ∃ j : Int, vs = [.int j] ∧ -(2 ^ 62) ≤ j ∧ j < 2 ^ 62 ∧ R (Itr 0 j.toNat) H1) : iRng1 tr σ H R := h
theorem g_rng2 {tr : TA} {R : It → Hp → Prop} (h : tr σ H fun vs H1 => ∃ i j : Int, vs = [.int i, .int j] ∧ (-(2 ^ 62) ≤ i ∧ i < 2 ^ 62 ∧ -(2 ^ 62) ≤ j ∧ j < 2 ^ 62) ∧ R (Itr i (j - i).toNat) H1) : iRng2 tr σ H R := h
theorem g_iList {R : It → Hp → Prop} (h : te σ H fun x H1 => ∃ a, x = .ref a ∧ (∃ xs, SqL K H1 a xs) ∧ R (Itl K a) H1) : iList K te σ H R := h
theorem g_iTup {R : It → Hp → Prop} (h : te σ H fun x H1 => ∃ a, x = .ref a ∧ (∃ xs, SqT K H1 a xs) ∧ R (Itt K a) H1) : iTup K te σ H R := h
def ForEnd (g : TG) (tb : TS) (a : L2.St → Hp → Prop) (b : VK) (σ : L2.St) (J : It) (H1 : Hp) : Prop := ∃ W : Nat → Nat → L2.St → Hp → Prop, (∃ m, W 0 m σ H1) ∧ ∀ i m σ H, W i m σ H →
  (J.stop i H ∧ a σ H) ∨ (J.go i H ∧ ∃ N : L2.St → Hp → Prop, (∀ σ' H', N σ' H' → ∃ m', m' < m ∧ W (i + 1) m' σ' H') ∧ ∀ x H', J.yld i H x H' → g x σ H' fun σ2 H2 => tb ⟨N, b, a, N⟩ σ2 H2)
theorem g_for {a : L2.St → Hp → Prop} {b : VK} {c d : L2.St → Hp → Prop} {wi : TI} {g : TG} {tb : TS} (h : wi σ H (ForEnd g tb a b σ)) : tFor wi g tb ⟨a, b, c, d⟩ σ H := h
theorem w_list {a : L2.St → Hp → Prop} {b : VK} {g : TG} {tb : TS} {p : Addr} {xs : List V} (Pv : Nat → L2.St → Hp → Prop) (h0 : Pv 0 σ H) (hl : ∀ i σ H, i ≤ xs.length → Pv i σ H → SqL K H p xs)
    (hs : ∀ i x σ H, xs[i]? = some x → Pv i σ H → g x σ H fun σ2 H2 => tb ⟨Pv (i + 1), b, a, Pv (i + 1)⟩ σ2 H2) (hd : ∀ σ H, Pv xs.length σ H → a σ H) : ∃ q, V.ref p = .ref q ∧ (∃ xs, SqL K H q xs) ∧ ForEnd g tb a b σ (Itl K q) H :=
  ⟨p, rfl, ⟨xs, hl 0 σ H (Nat.zero_le _) h0⟩, for_list (D := ⟨a, b, fun _ _ => False, fun _ _ => False⟩) Pv h0 hl hs hd⟩
theorem w_tup {a : L2.St → Hp → Prop} {b : VK} {g : TG} {tb : TS} {p : Addr} {xs : List V} (Pv : Nat → L2.St → Hp → Prop) (h0 : Pv 0 σ H) (hl : ∀ i σ H, i ≤ xs.length → Pv i σ H → SqT K H p xs)
    (hs : ∀ i x σ H, xs[i]? = some x → Pv i σ H → g x σ H fun σ2 H2 => tb ⟨Pv (i + 1), b, a, Pv (i + 1)⟩ σ2 H2) (hd : ∀ σ H, Pv xs.length σ H → a σ H) : ∃ q, V.ref p = .ref q ∧ (∃ xs, SqT K H q xs) ∧ ForEnd g tb a b σ (Itt K q) H :=
  ⟨p, rfl, ⟨xs, hl 0 σ H (Nat.zero_le _) h0⟩, for_tup (D := ⟨a, b, fun _ _ => False, fun _ _ => False⟩) Pv h0 hl hs hd⟩
/-- range(n) -/
theorem w_range {a : L2.St → Hp → Prop} {b : VK} {g : TG} {tb : TS} {n : Int} (h1 : -(2 ^ 62) ≤ n) (h2 : n < 2 ^ 62) (Pv : Nat → L2.St → Hp → Prop) (h0 : Pv 0 σ H)
    (hs : ∀ i σ H, i < n.toNat → Pv i σ H → g (.int i) σ H fun σ2 H2 => tb ⟨Pv (i + 1), b, a, Pv (i + 1)⟩ σ2 H2) (hd : ∀ σ H, Pv n.toNat σ H → a σ H) :
    ∃ j : Int, [V.int n] = [.int j] ∧ -(2 ^ 62) ≤ j ∧ j < 2 ^ 62 ∧ ForEnd g tb a b σ (Itr 0 j.toNat) H :=
  ⟨n, rfl, h1, h2, for_range (D := ⟨a, b, fun _ _ => False, fun _ _ => False⟩) Pv h0 (fun i σ H hi p => by have q := hs i σ H hi p; rw [Int.zero_add]; exact q) hd⟩
theorem w_while {a : L2.St → Hp → Prop} {b : VK} {c d : L2.St → Hp → Prop} {tc : TT} {tb : TS} (Pv : L2.St → Hp → Prop) (μ : L2.St → Hp → Nat) (h0 : Pv σ H)
    (hs : ∀ σ H, Pv σ H → tc σ H fun b' H1 => if b' = true then tb ⟨fun σ' H' => Pv σ' H' ∧ μ σ' H' < μ σ H, b, a, fun σ' H' => Pv σ' H' ∧ μ σ' H' < μ σ H⟩ σ H1 else a σ H1)
    (mono : ∀ σ H Q Q', (∀ b H1, Q b H1 → Q' b H1) → tc σ H Q → tc σ H Q') : tWhile tc tb ⟨a, b, c, d⟩ σ H := while_by Pv μ h0 hs mono
theorem g_itT {b : Bool} {A B : Prop} (h : b = true) (q : A) : if b = true then A else B := by rw [h]; exact iteT q
theorem g_itF {b : Bool} {A B : Prop} (h : b = false) (q : B) : if b = true then A else B := by rw [h]; exact iteF q
theorem g_ite {c : Prop} [Decidable c] {A B : Prop} (h1 : c → A) (h2 : ¬ c → B) : if decide c = true then A else B := by
  by_cases h : c
  · rw [decide_eq_true h]; exact iteT (h1 h)
  · rw [decide_eq_false h]; exact iteF (h2 h)
theorem g_iteN {c : Prop} [Decidable c] {A B : Prop} (h1 : ¬ c → A) (h2 : c → B) : if (!decide c) = true then A else B := by
  by_cases h : c
  · rw [decide_eq_true h]; exact iteF (h2 h)
  · rw [decide_eq_false h]; exact iteT (h1 h)
theorem g_len {p : Addr} {xs : List V} (h : SqL K H p xs ∨ SqT K H p xs) (q : Q (.int xs.length) H) : rLen K [.ref p] H Q := ⟨p, xs, rfl, h, q⟩
theorem g_ixL {p : Addr} {xs : List V} (h : SqL K H p xs) (ha : atI xs n = some v) (q : Q v H) : rIxL K (.ref p) (.int n) H Q := ⟨p, xs, n, v, rfl, rfl, h, ha, q⟩
theorem g_ixT {p : Addr} {xs : List V} (h : SqT K H p xs) (ha : atI xs n = some v) (q : Q v H) : rIxT K (.ref p) (.int n) H Q := ⟨p, xs, n, v, rfl, rfl, h, ha, q⟩
theorem g_setL {p : Addr} {xs : List V} {j : Nat} {q : Hp → Prop} (h : H p = some (.lst xs)) (hj : ixN xs.length n = some j) (k : q (upd H p (.lst (xs.set j v)))) : rSetL (.ref p) (.int n) v H q := ⟨p, xs, n, j, rfl, rfl, h, hj, k⟩
theorem mulW_small {i j : Int} (h1 : 0 ≤ i) (h2 : i < 2147483648) (h3 : 0 ≤ j) (h4 : j < 2147483648) : CMulW i j := wide_mul (a := 31) (b := 31) (by show _ < 2147483648; omega) (by show _ < 2147483648; omega) (by decide) (by decide) (by decide)
theorem divW_small {i j : Int} (h1 : 0 < j) (h2 : j < 10 ^ 38) : CDivW i j := wide_div (b := 127) h1 (by show _ < (2 : Nat) ^ 127; omega) (by decide) (by decide)
theorem g_append {p : Addr} {xs : List V} (h : H p = some (.lst xs)) (hl : xs.length < 100000) (q : Q .non (upd H p (.lst (xs ++ [v])))) : rAppend (.ref p) [v] H Q := ⟨p, xs, v, rfl, rfl, h, Nat.lt_of_lt_of_le hl (by decide), q⟩
theorem g_tyL {p : Addr} {xs : List V} {R : Prop} (h : H p = some (.lst xs)) (q : R) : tyV K "list" (.ref p) H ∧ R := ⟨.inl ⟨rfl, _, SqL.of h⟩, q⟩
theorem g_listOf {p : Addr} {xs : List V} (h : SqL K H p xs) (q : ∀ l, H l = none → Q (.ref l) (upd H l (.lst xs))) : rListOf K [.ref p] H Q := ⟨p, xs, rfl, .inl h, q⟩
theorem g_listOfT {p : Addr} {xs : List V} (h : SqT K H p xs) (q : ∀ l, H l = none → Q (.ref l) (upd H l (.lst xs))) : rListOf K [.ref p] H Q := ⟨p, xs, rfl, .inr h, q⟩
theorem g_int1B {b : Bool} (q : Q (.int (if b then 1 else 0)) H) : rInt1 [.bl b] H Q := .inr ⟨b, rfl, q⟩
theorem g_gtup {p : Addr} {xs : List V} {k : Nat} {tg : TGs} {Qg : L2.St → Hp → Prop} (h : SqT K H p xs) (hl : xs.length = k) (q : tg xs σ H Qg) : gTup K k tg (.ref p) σ H Qg := ⟨p, xs, rfl, h, hl, q⟩
theorem g_isi {c : V} {tv uv : Value} {b : Bool} (h1 : ClsV c uv) (h2 : TyX K H x tv) (h3 : PySem.W.kitOne K tv uv = some b) (q : Q (.bl b) H) : rIsi K [x, c] H Q := ⟨x, c, tv, uv, b, rfl, h1, h2, h3, q⟩
theorem g_max2 (q : Q (.int (if m > n then m else n)) H) : rMax2 [.int n, .int m] H Q := ⟨n, m, rfl, q⟩
theorem g_min2 (q : Q (.int (if m < n then m else n)) H) : rMin2 [.int n, .int m] H Q := ⟨n, m, rfl, q⟩
end

/-! ### heaps in which the list at S changes -/
def Frm (S : Addr) (H H' : Hp) : Prop := ∀ b o, b ≠ S → H b = some o → H' b = some o
theorem Frm.refl (S : Addr) (H : Hp) : Frm S H H := fun _ _ _ h => h
theorem Frm.trans {S : Addr} {H H1 H2 : Hp} (a : Frm S H H1) (b : Frm S H1 H2) : Frm S H H2 := fun c o n h => b c o n (a c o n h)
theorem Frm.of {S : Addr} {H H' : Hp} (e : Same H H') : Frm S H H' := fun b o _ h => e b o h
theorem Frm.set {S : Addr} {H : Hp} {o : HO} : Frm S H (upd H S o) := fun b u n h => by rw [upd_ne n]; exact h
theorem same_new {H : Hp} {p : Addr} {o : HO} (h : H p = none) : Same H (upd H p o) := fun b u e => by rw [upd_ne (ne_of_none e h)]; exact e
/-- what may be read at a, whatever becomes of S -/
def ScL (K : PySem.W.Frag) (S : Addr) (H : Hp) (a : Addr) (xs : List V) : Prop := (a ≠ S ∧ Rd H a (.lst xs)) ∨ ∀ H', SqL K H' a xs
theorem ScL.sq {K : PySem.W.Frag} {S : Addr} {H : Hp} {a : Addr} {xs : List V} (h : ScL K S H a xs) : SqL K H a xs := by
  rcases h with ⟨_, h⟩ | h
  · exact .inl h
  · exact h H
theorem ScL.frm {K : PySem.W.Frag} {S : Addr} {H H' : Hp} {a : Addr} {xs : List V} (h : ScL K S H a xs) (f : Frm S H H') : ScL K S H' a xs := by
  rcases h with ⟨n, h⟩ | h
  · refine .inl ⟨n, ?_⟩
    rcases h with h | ⟨o, h⟩
    · exact .inl (f _ _ n h)
    · exact .inr ⟨o, f _ _ n h⟩
  · exact .inr h
theorem ScL.of {K : PySem.W.Frag} {S : Addr} {H H' : Hp} {a : Addr} {xs : List V} (h : SqL K H a xs) (e : Same H H') (n : H S = none) : ScL K S H' a xs := by
  rcases h with h | h
  · rcases h with h | ⟨o, h⟩
    · exact .inl ⟨ne_of_none h n, .inl (e _ _ h)⟩
    · exact .inl ⟨ne_of_none h n, .inr ⟨o, e _ _ h⟩⟩
  · exact .inr fun H' => .inr h
/-- the drawing's state at S; what B tracks stands as it stood -/
def Dst (K : PySem.W.Frag) (B H : Hp) (S : Addr) : Prop := ∃ (sc : Addr) (ns : List Int) (c m r : Int), H S = some (.lst [.ref sc, .int c, .int m, .int r]) ∧ ScL K S B sc (ns.map V.int) ∧ Frm S B H ∧ ns.length ≤ 63 ∧ 0 ≤ c ∧ 0 ≤ m ∧ m < 2147483647
theorem Dst.same {K : PySem.W.Frag} {B H H' : Hp} {S : Addr} (d : Dst K B H S) (e : Same H H') : Dst K B H' S := by
  obtain ⟨sc, ns, c, m, r, h1, h2, h3, h4⟩ := d
  exact ⟨sc, ns, c, m, r, e _ _ h1, h2, h3.trans (.of e), h4⟩
theorem Dst.has {K : PySem.W.Frag} {B H : Hp} {S : Addr} (d : Dst K B H S) : H S ≠ none := by
  obtain ⟨sc, ns, c, m, r, h1, _⟩ := d
  rw [h1]; exact fun z => nomatch z
theorem Dst.ne {K : PySem.W.Frag} {B H : Hp} {S p : Addr} (d : Dst K B H S) (h : H p = none) : p ≠ S := fun e => d.has (e ▸ h)
theorem Dst.fresh {K : PySem.W.Frag} {B H : Hp} {S p : Addr} (d : Dst K B H S) (h : H p = none) : B p = none := by
  have n := d.ne h
  obtain ⟨sc, ns, c, m, r, h1, h2, h3, h4⟩ := d
  cases e : B p with
  | none => rfl
  | some o => rw [h3 p o n e] at h; cases h
/-- a thing that B does not know changes -/
theorem Dst.mut {K : PySem.W.Frag} {B H : Hp} {S p : Addr} {o : HO} (d : Dst K B H S) (n : p ≠ S) (h : B p = none) : Dst K B (upd H p o) S := by
  obtain ⟨sc, ns, c, m, r, h1, h2, h3, h4⟩ := d
  refine ⟨sc, ns, c, m, r, ?_, h2, fun b u hb e => ?_, h4⟩
  · rw [upd_ne n.symm]; exact h1
  · rw [upd_ne (ne_of_none e h)]; exact h3 b u hb e
theorem Frm.mut {S p : Addr} {H H' : Hp} {o : HO} (f : Frm S H H') (h : H p = none) : Frm S H (upd H' p o) := fun b u n e => by
  rw [upd_ne (ne_of_none e h)]; exact f b u n e
theorem Frm.new {S p : Addr} {H : Hp} {o : HO} (h : H p = none) : Frm S H (upd H p o) := .of (same_new h)
theorem Frm.back {S p : Addr} {H H' : Hp} (f : Frm S H H') (n : p ≠ S) (h : H' p = none) : H p = none := by
  cases e : H p with
  | none => rfl
  | some o => rw [f p o n e] at h; cases h
theorem Same.back {H H' : Hp} {p : Addr} (f : Same H H') (h : H' p = none) : H p = none := by
  cases e : H p with
  | none => rfl
  | some o => rw [f p o e] at h; cases h
theorem Same.mut {H H' : Hp} {p : Addr} {o : HO} (f : Same H H') (h : H p = none) : Same H (upd H' p o) := fun b u e => by
  rw [upd_ne (ne_of_none e h)]; exact f b u e
theorem pow_small {i j : Int} (h0 : 0 ≤ j) (h1 : j ≤ 1000) (h2 : i.natAbs < 2 ^ 32) : CPow i j := ⟨h0, by omega, Nat.lt_trans h2 (by decide)⟩
theorem atI_mem {xs : List V} {z : Int} (h0 : 0 ≤ z) (h1 : z < xs.length) : ∃ x, x ∈ xs ∧ atI xs z = some x := by
  have hl : z.toNat < xs.length := by omega
  exact ⟨xs[z.toNat], List.getElem_mem hl, at_of (j := z.toNat) (by omega) (List.getElem?_eq_getElem hl)⟩
theorem map_at {ns : List Int} {i : Nat} {x : V} (h : (ns.map V.int)[i]? = some x) : ∃ n, ns[i]? = some n ∧ x = V.int n := by
  rw [List.getElem?_map] at h
  cases hq : ns[i]? with
  | none => rw [hq] at h; cases h
  | some z => rw [hq] at h; exact ⟨z, rfl, (Option.some.inj h).symm⟩
/-- what stands beside S -/
def Live (S : Addr) (H : Hp) (L : List (Addr × HO)) : Prop := ∀ p ∈ L, p.1 ≠ S ∧ H p.1 = some p.2
theorem Live.nil {S : Addr} {H : Hp} : Live S H [] := fun _ h => (List.not_mem_nil h).elim
theorem Live.frm {S : Addr} {H H' : Hp} {L : List (Addr × HO)} (l : Live S H L) (f : Frm S H H') : Live S H' L := fun p h => ⟨(l p h).1, f _ _ (l p h).1 (l p h).2⟩
theorem Live.cons {S : Addr} {H : Hp} {L : List (Addr × HO)} {a : Addr} {o : HO} (l : Live S H L) (n : a ≠ S) (h : H a = some o) : Live S H ((a, o) :: L) := fun p hp => by
  rcases List.mem_cons.mp hp with e | e
  · subst e; exact ⟨n, h⟩
  · exact l p e
theorem Live.get {S : Addr} {H : Hp} {L : List (Addr × HO)} (l : Live S H L) (i : Nat) {a : Addr} {o : HO} (h : L[i]? = some (a, o)) : H a = some o := (l _ (List.mem_of_getElem? h)).2
theorem Live.ne {S : Addr} {H : Hp} {L : List (Addr × HO)} (l : Live S H L) (i : Nat) {a : Addr} {o : HO} (h : L[i]? = some (a, o)) : a ≠ S := (l _ (List.mem_of_getElem? h)).1
/-- a new object is laid -/
theorem Live.new {S : Addr} {H : Hp} {L : List (Addr × HO)} {p : Addr} {o : HO} (l : Live S H L) (hp : H p = none) (hS : H S ≠ none) : Live S (upd H p o) ((p, o) :: L) :=
  (l.frm (.of (same_new hp))).cons (fun e => hS (e ▸ hp)) upd_same

/-! ### == of data -/
section
variable {K : PySem.W.Frag} {H : Hp} {Q : VK}
theorem dpAll_ints : ∀ ns : List Int, DpAll K H (ns.map V.int) (ns.map PyData.int)
  | [] => .nil
  | n :: ns => .cons (.int n) (dpAll_ints ns)
theorem dp_ints {a : Addr} {ns : List Int} (h : SqL K H a (ns.map V.int)) : Dp K H (.ref a) (.list (ns.map PyData.int)) := .lst h (dpAll_ints ns)
theorem eqvAll_ints : ∀ ns ms : List Int, PyData.eqvAll (ns.map PyData.int) (ms.map PyData.int) = decide (ns = ms)
  | [], [] => by simp [PyData.eqvAll]
  | [], _ :: _ => by simp [PyData.eqvAll]
  | _ :: _, [] => by simp [PyData.eqvAll]
  | n :: ns, m :: ms => by
    have ih := eqvAll_ints ns ms
    simp only [List.map_cons, PyData.eqvAll, ih, PyData.eqv]
    by_cases h1 : n = m <;> by_cases h2 : ns = ms <;> simp [h1, h2]
theorem eqv_ints (ns ms : List Int) : PyData.eqv (.list (ns.map PyData.int)) (.list (ms.map PyData.int)) = decide (ns = ms) := by
  rw [PyData.eqv]; exact eqvAll_ints ns ms
theorem g_eqLI {a b : Addr} {ns ms : List Int} (h1 : SqL K H a (ns.map V.int)) (h2 : SqL K H b (ms.map V.int)) (q : Q (.bl (decide (ns = ms))) H) : rEqD K (.ref a) (.ref b) H Q :=
  ⟨_, _, dp_ints h1, dp_ints h2, PySem.W.ke_shaped_ints ns, PySem.W.ke_shaped_ints ms, by rw [eqv_ints]; exact q⟩
theorem g_neLI {a b : Addr} {ns ms : List Int} (h1 : SqL K H a (ns.map V.int)) (h2 : SqL K H b (ms.map V.int)) (q : Q (.bl (!decide (ns = ms))) H) : rNeD K (.ref a) (.ref b) H Q :=
  ⟨_, _, dp_ints h1, dp_ints h2, PySem.W.ke_shaped_ints ns, PySem.W.ke_shaped_ints ms, by rw [eqv_ints]; exact q⟩
end
section
variable {σ : L2.St} {H : Hp}
/-- a while, by an invariant that bears its measure -/
theorem w_loop {a : L2.St → Hp → Prop} {b : VK} {c d : L2.St → Hp → Prop} {tc : TT} {tb : TS} (Pv : Nat → L2.St → Hp → Prop) (m0 : Nat) (h0 : Pv m0 σ H)
    (hs : ∀ m σ H, Pv m σ H → tc σ H fun b' H1 => if b' = true then ∃ N : L2.St → Hp → Prop, (∀ σ' H', N σ' H' → ∃ m', m' < m ∧ Pv m' σ' H') ∧ tb ⟨N, b, a, N⟩ σ H1 else a σ H1) : tWhile tc tb ⟨a, b, c, d⟩ σ H := ⟨Pv, ⟨m0, h0⟩, hs⟩
end
section
variable {K : PySem.W.Frag} {H : Hp} {Q : VK}
theorem g_slL {a : Addr} {xs : List V} {lo hi : Option Int} (h : SqL K H a xs) (q : ∀ p, H p = none → Q (.ref p) (upd H p (.lst (cutV xs lo hi)))) : rSlL K (.ref a) lo hi H Q := ⟨a, xs, rfl, h, q⟩
theorem cut1 (xs : List V) : cutV xs (some 1) none = xs.drop 1 := by
  unfold cutV
  rw [show (some (1 : Int)) = some ((1 : Nat) : Int) from rfl, HT.sIx_nat, HT.sIx_none]
  cases xs with
  | nil => rfl
  | cons x xs =>
    have e : min 1 (x :: xs).length = 1 := by simp
    rw [e]
    show List.take ((x :: xs).length - 1) xs = xs
    simp
end
theorem tup_same {K : PySem.W.Frag} {H H' : Hp} {a : Addr} {xs : List V} (e : Same H H') (h : SqT K H a xs) : SqT K H' a xs := by
  rcases h with (h | ⟨o, h⟩) | h
  · exact .inl (.inl (e _ _ h))
  · exact .inl (.inr ⟨o, e _ _ h⟩)
  · exact .inr h

/-! ### data: kinds, and as they stand later -/
section
variable {K : PySem.W.Frag} {H H' : Hp} {Q : VK} {σ : L2.St}
theorem ty_list {a : Addr} {xs : List V} (h : SqL K H a xs) : TyX K H (.ref a) (.type "list") := by
  rcases h with (h | ⟨o, h⟩) | h
  · exact .base (.lst h)
  · exact .base (.frz h)
  · obtain ⟨o, items, n, h1, h2, _⟩ := h
    exact .kList h1 h2
theorem ty_tup {a : Addr} {xs : List V} (h : SqT K H a xs) : TyX K H (.ref a) (.type "tuple") := by
  rcases h with (h | ⟨o, h⟩) | h
  · exact .base (.tup h)
  · exact .fTuple h
  · obtain ⟨o, items, n, h1, h2, _⟩ := h
    exact .kTuple h1 h2
theorem list_same {a : Addr} {xs : List V} (e : Same H H') (h : SqL K H a xs) : SqL K H' a xs := e.seq h
mutual
theorem Dp_same (e : Same H H') : ∀ (d : PyData) (v : V), Dp K H v d → Dp K H' v d
  | .none, _, h => by cases h; exact .non
  | .bool b, _, h => by cases h; exact .bl b
  | .int i, _, h => by cases h; exact .int i
  | .str x, _, h => by cases h; exact .str x
  | .list ds, _, h => by
    cases h with
    | lst hs ha => exact .lst (list_same e hs) (DpAll_same e ds _ ha)
  | .tuple ds, _, h => by
    cases h with
    | tup hs ha => exact .tup (tup_same e hs) (DpAll_same e ds _ ha)
  | .dict _, _, h => by cases h
theorem DpAll_same (e : Same H H') : ∀ (ds : List PyData) (vs : List V), DpAll K H vs ds → DpAll K H' vs ds
  | [], _, h => by cases h; exact .nil
  | d :: ds, _, h => by
    cases h with
    | cons h1 h2 => exact .cons (Dp_same e d _ h1) (DpAll_same e ds _ h2)
end
theorem DpAll.len : ∀ {vs : List V} {ds : List PyData}, DpAll K H vs ds → vs.length = ds.length
  | [], [], _ => rfl
  | _ :: _, _ :: _, .cons _ h => by rw [List.length_cons, List.length_cons, DpAll.len h]
theorem DpAll.at : ∀ {vs : List V} {ds : List PyData} {i : Nat} {d : PyData}, DpAll K H vs ds → ds[i]? = some d → ∃ v, vs[i]? = some v ∧ Dp K H v d
  | _, _, 0, d, .cons h _, e => by cases e; exact ⟨_, rfl, h⟩
  | _, _, i + 1, d, .cons _ h, e => DpAll.at (i := i) h e
/-- small data of the four flat kinds, lists and tuples, at most so deep -/
inductive OkD : Nat → PyData → Prop
  | non {n : Nat} : OkD n .none
  | bl {n : Nat} (b : Bool) : OkD n (.bool b)
  | int {n : Nat} (i : Int) : OkD n (.int i)
  | str {n : Nat} (x : Str) : OkD n (.str x)
  | lst {n : Nat} {ds : List PyData} : ds.length ≤ 100000 → (∀ d ∈ ds, OkD n d) → OkD (n + 1) (.list ds)
  | tup {n : Nat} {ds : List PyData} : ds.length ≤ 100000 → (∀ d ∈ ds, OkD n d) → OkD (n + 1) (.tuple ds)
theorem g_isiT {x : V} {tp : Addr} {cs : List V} {t : Value} {us : List Value} {b : Bool} (hT : H tp = some (.tup cs)) (hc : Paired ClsV cs us) (ty : TyX K H x t) (hk : PySem.W.kitAny K t us = some b) (q : Q (.bl b) H) : rIsiT K [x, .ref tp] H Q :=
  ⟨x, tp, cs, t, us, b, rfl, hT, hc, ty, hk, q⟩
/-- t is one of two built-in types, or none of them -/
theorem kit2 {t a b : String} {r1 r2 : Bool} (h1 : kitB t a = some r1) (h2 : kitB t b = some r2) : PySem.W.kitAny K (.type t) [.type a, .type b] = some (r1 || r2) := by
  refine kitAny_cons (kit_ty h1) (fun e => ?_) (fun e => by rw [e]; rfl)
  rw [e]
  exact kitAny_cons (kit_ty h2) (fun e2 => by rw [e2]; rfl) (fun e2 => by rw [e2]; rfl)
theorem g_isiB {x c : V} {tn cn : String} {b : Bool} (h1 : ClsV c (.type cn)) (h2 : TyX K H x (.type tn)) (h3 : kitB tn cn = some b) (q : Q (.bl b) H) : rIsi K [x, c] H Q := ⟨x, c, .type tn, .type cn, b, rfl, h1, h2, kit_ty h3, q⟩
def LcEnd (g : TG) (tt : TT) (te : TE) (vs : List Nat) (σ : L2.St) (Q : VK) (J : It) (H1 : Hp) : Prop := ∀ D, H1 D = none → ∃ W : Nat → Nat → Hp → Prop, (∃ m, W 0 m (upd H1 D (.lst []))) ∧ ∀ i m H, W i m H →
  (J.stop i H ∧ Q (.ref D) H) ∨ (J.go i H ∧ ∃ Nx : Hp → Prop, (∀ H', Nx H' → ∃ m', m' < m ∧ W (i + 1) m' H') ∧ ∀ x H', J.yld i H x H' → g x (wipe σ vs) H' fun σ2 H2 => wipe σ2 vs = wipe σ vs ∧ tt σ2 H2 fun b H3 =>
    if b = true then te σ2 H3 fun y H4 => ∃ acc, H4 D = some (.lst acc) ∧ acc.length < sizeLine ∧ Nx (upd H4 D (.lst (acc ++ [y]))) else Nx H3)
theorem g_lc {wi : TI} {g : TG} {tt : TT} {te : TE} {vs : List Nat} (h : wi σ H (LcEnd g tt te vs σ Q)) : tLc wi g tt te vs σ H Q := h
theorem g_yes {QB : Bool → Hp → Prop} (q : QB true H) : tYes σ H QB := q
theorem w_lcRange {g : TG} {tt : TT} {te : TE} {vs : List Nat} {n : Int} (h1 : -(2 ^ 62) ≤ n) (h2 : n < 2 ^ 62) (Pv : Addr → Nat → Hp → Prop) (h0 : ∀ D, H D = none → Pv D 0 (upd H D (.lst [])))
    (hs : ∀ D i H', H D = none → i < n.toNat → Pv D i H' → g (.int i) (wipe σ vs) H' fun σ2 H2 => wipe σ2 vs = wipe σ vs ∧ tt σ2 H2 fun b H3 =>
      if b = true then te σ2 H3 fun y H4 => ∃ acc, H4 D = some (.lst acc) ∧ acc.length < sizeLine ∧ Pv D (i + 1) (upd H4 D (.lst (acc ++ [y]))) else Pv D (i + 1) H3) (hd : ∀ D H', H D = none → Pv D n.toNat H' → Q (.ref D) H') :
    ∃ j : Int, [V.int n] = [.int j] ∧ -(2 ^ 62) ≤ j ∧ j < 2 ^ 62 ∧ LcEnd g tt te vs σ Q (Itr 0 j.toNat) H :=
  ⟨n, rfl, h1, h2, fun D hD => lc_range (Pv D) (h0 D hD) (fun i H' hi p => by have q := hs D i H' hD hi p; rw [Int.zero_add]; exact q) (fun H' p => hd D H' hD p)⟩
end

/-! ### tables of code objects beside the drawing -/
/-- H without its tables -/
def noT (H : Hp) : Hp := fun b => match H b with
  | some (.tbl _) => none
  | o => o
theorem noT_some {H : Hp} {b : Addr} {o : HO} (h : noT H b = some o) : H b = some o ∧ ∀ ps, o ≠ .tbl ps := by
  unfold noT at h
  split at h
  · cases h
  · rename_i n
    exact ⟨h, fun ps e => n ps (by rw [h, e])⟩
theorem noT_of {H : Hp} {b : Addr} {o : HO} (h : H b = some o) (n : ∀ ps, o ≠ .tbl ps) : noT H b = some o := by
  unfold noT
  split
  · rename_i ps e
    rw [h] at e
    exact absurd (Option.some.inj e) (n ps)
  · exact h
theorem noT_same (H : Hp) : Same (noT H) H := fun _ _ h => (noT_some h).1
theorem noT_list {K : PySem.W.Frag} {H : Hp} {a : Addr} {xs : List V} (h : SqL K H a xs) : SqL K (noT H) a xs := by
  rcases h with (h | ⟨o, h⟩) | h
  · exact .inl (.inl (noT_of h (fun _ z => nomatch z)))
  · exact .inl (.inr ⟨o, noT_of h (fun _ z => nomatch z)⟩)
  · exact .inr h
/-- all but S and the tables stays -/
theorem Dst.ext {K : PySem.W.Frag} {H0 H H' : Hp} {S : Addr} (d : Dst K (noT H0) H S) (e : LamX.ExtN H H') : Dst K (noT H0) H' S := by
  obtain ⟨sc, ns, c, m, r, h1, h2, h3, h4⟩ := d
  exact ⟨sc, ns, c, m, r, e _ _ h1 (fun _ z => nomatch z), h2, fun b o n h => e _ _ (h3 b o n h) (noT_some h).2, h4⟩
theorem tabs_frm {K : PySem.W.Frag} {B H H' : Hp} {S : Addr} {T : List (Addr × Str)} (t : LamX.Tabs T H) (d : Dst K B H S) (f : Frm S H H') : LamX.Tabs T H' := fun p hp => by
  obtain ⟨sc, ns, c, m, r, hS, _⟩ := d
  obtain ⟨ps, h1, h2, h3⟩ := t p hp
  refine ⟨ps, f _ _ (ne_of h1 hS (fun z => nomatch z)) h1, h2, fun pos cv hc => ?_⟩
  obtain ⟨c', e1, e2⟩ := h3 pos cv hc
  exact ⟨c', e1, f _ _ (ne_of e2 hS (fun z => nomatch z)) e2⟩
theorem tabs_same {H H' : Hp} {T : List (Addr × Str)} (t : LamX.Tabs T H) (e : Same H H') : LamX.Tabs T H' := t.ext e
section
variable {P : Program} {w : World} {K : PySem.W.Frag} {mg : Str → Option Value} {base : Heap}
/-- a def whose code object is told -/
theorem fn_code {k : Nat} {f : Addr} {name qual : Str} {params : Arguments} {body : List Stmt} {scope : Scope} {dV kV doc pm cdv ct oc : Value} {an od : Option Addr} {osl : Array (Option Value)} {N ps : List Str} {sp : Sp}
    (lk : K.lookup f = some ⟨oc, od, .func (PySem.W.fnOf name qual params body scope dV kV doc pm an cdv ct), osl⟩) (hcd : PySem.W.codeIn K cdv qual = true) (S : FnScope N ps scope) (len : ∀ vs H Q E, sp vs H Q E → vs.length = ps.length)
    (hbody : ∀ (A : Around) (outer : List Env) (s : Shared) (H : Hp) (vs : List V) (Q : VK) (E : XK), Room k (A.deeper (envOfC qual scope s.heap.objs.size f cdv)) → sp vs H Q E →
      ∃ t, PSs (cxOf C8.CX0 P w K mg base N qual scope f cdv A outer s H E).nox body t ∧ t { nx := fun _ H' => Q .non H', rt := Q } (L2.start N vs) H) :
    FnOk P w K mg base C8.CX0 (k + 1) f (PySem.W.fnOf name qual params body scope dV kV doc pm an cdv ct) ps sp :=
  fn_of lk hcd S len fun A outer s H vs Q E hr hsp => (hbody A outer s H vs Q E hr hsp).elim fun t h => ⟨t, h.1.nox, h.2⟩
end
theorem g_lam {T : List (Addr × Str)} {TT : (XK → Hp → VK → Prop) → Hp → VK → Prop} {t : XK → TE} {σ : L2.St} {H : Hp} {Q : VK} (h : LamX.Tabs T H) (q : ∀ H1, LamX.ExtN H H1 → LamX.Tabs T H1 → TT (fun E H' Q' => t E σ H' Q') H1 Q) : LamX.tLam T TT t σ H Q := ⟨h, q⟩
end Wd
local macro_rules | `(tactic| walk_at "go") => `(tactic| repeat (first
  | with_reducible refine Wd.g_seq ?_
  | ((with_reducible show Ends.nx _ _ _); (with_reducible refine Wd.g_nx ?_))
  | with_reducible refine Wd.g_asg ?_
  | ((with_reducible refine' Wd.g_var ?h1 ?_); (case h1 => exact rfl))
  | with_reducible refine Wd.g_c ?_
  | with_reducible refine Wd.g_op ?_
  | with_reducible refine Wd.g_un ?_
  | with_reducible refine Wd.g_I0 ?_
  | with_reducible refine Wd.g_U ?_
  | with_reducible refine Wd.g_eqI ?_
  | with_reducible refine Wd.g_neI ?_
  | with_reducible refine Wd.g_eqS ?_
  | with_reducible refine Wd.g_neS ?_
  | with_reducible refine Wd.g_eqB ?_
  | with_reducible refine Wd.g_neB ?_
  | with_reducible refine Wd.g_isN ?_
  | with_reducible refine Wd.g_notN ?_
  | with_reducible refine Wd.g_lc ?_
  | with_reducible refine Wd.g_yes ?_
  | with_reducible refine Wd.g_test ?_
  | with_reducible refine Wd.g_tB ?_
  | with_reducible refine Wd.g_bl ?_
  | with_reducible refine Wd.g_blI ?_
  | with_reducible refine Wd.g_and ?_
  | with_reducible refine Wd.g_or ?_
  | with_reducible refine Wd.g_not ?_
  | with_reducible refine Wd.g_andV ?_
  | with_reducible refine Wd.g_orV ?_
  | with_reducible refine Wd.g_notV ?_
  | with_reducible refine Wd.g_if ?_
  | with_reducible refine Wd.g_chain ?_
  | with_reducible refine Wd.g_chain3 ?_
  | with_reducible refine Wd.g_nil ?_
  | with_reducible refine Wd.g_cons ?_
  | with_reducible refine Wd.g_tup ?_
  | with_reducible refine Wd.g_lst ?_
  | with_reducible refine Wd.g_CB ?_
  | with_reducible refine Wd.g_call ?_
  | with_reducible refine Wd.g_callS ?_
  | with_reducible refine Wd.g_bm ?_
  | with_reducible refine Wd.g_bm0 ?_
  | with_reducible refine Wd.g_sl ?_
  | with_reducible refine Wd.g_part ?_
  | with_reducible refine Wd.g_part1 ?_
  | with_reducible refine Wd.g_noPart ?_
  | with_reducible refine Wd.g_next ?_
  | with_reducible refine Wd.g_name ?_
  | with_reducible refine Wd.g_sub ?_
  | with_reducible refine Wd.g_gnil ?_
  | with_reducible refine Wd.g_gcons ?_
  | with_reducible refine Wd.g_drop ?_
  | with_reducible refine Wd.g_ret ?_
  | with_reducible refine Wd.g_retN ?_
  | with_reducible refine Wd.g_brk ?_
  | with_reducible refine Wd.g_cont ?_
  | with_reducible refine Wd.g_ifS ?_
  | ((with_reducible show Ends.bk _ _ _); (with_reducible refine Wd.g_bk ?_))
  | ((with_reducible show Ends.ct _ _ _); (with_reducible refine Wd.g_ct ?_))
  | ((with_reducible show Ends.rt _ _ _); (with_reducible refine Wd.g_rt ?_))
  | with_reducible refine Wd.g_for ?_
  | with_reducible refine Wd.g_rng1 ?_
  | with_reducible refine Wd.g_rng2 ?_
  | with_reducible refine Wd.g_iList ?_
  | with_reducible refine Wd.g_iTup ?_
  | ((with_reducible refine Wd.g_fit ?h1 ?_); (case h1 => exact rfl))
  | with_reducible refine Wd.g_max2 ?_
  | with_reducible refine Wd.g_min2 ?_
  | with_reducible refine Wd.g_int1B ?_
  | with_reducible refine L2.iteT ?_
  | with_reducible refine L2.iteF ?_
  | ((with_reducible refine Wd.g_itT ?h1 ?_); (case h1 => exact rfl))
  | ((with_reducible refine Wd.g_itF ?h1 ?_); (case h1 => exact rfl))))
/-! Plans as data; tuples that are repeated, made of lists; lists within comprehensions. -/
namespace Wd
open PySem PySem.Spec PyProof.Rows L2

/-! ### t * k, k from 0 on -/
theorem mul_once (l : Addr) (items : Array Value) (n : Nat) (dd : Option Addr) (sl : Array (Option Value)) (u : Tok) :
    Meets (Builtin.«tuple.__mul__» ⟨[.ref l, .int 1 u], []⟩) (fun _ R s => s.heap.get? l = some { cls := .type "tuple", dict := dd, data := .seq items n, slots := sl } ∧ R (.ok (.ret (Value.ref l))) s) :=
  .of_wp fun prog w A R s h => by
    obtain ⟨hp, g, d, tk, os⟩ := s
    obtain ⟨hl, q⟩ := h
    have one := AutoSeq1.idx_int
    wp_walk using AutoSeq1.wpAny_loadPart' hl
    exact ⟨_, rfl, q⟩
theorem mul_none (l : Addr) (items : Array Value) (n : Nat) (dd : Option Addr) (sl : Array (Option Value)) (u : Tok) (h2 : items.isEmpty = false) :
    Meets (Builtin.«tuple.__mul__» ⟨[.ref l, .int 0 u], []⟩) (fun _ R s => s.heap.get? l = some { cls := .type "tuple", dict := dd, data := .seq items n, slots := sl } ∧
      R (.ok (.ret (Value.ref s.heap.objs.size))) { s with heap := s.heap.push { cls := Value.type "tuple", data := Data.seq #[] }, toks := s.toks }) :=
  .of_wp fun prog w A R s h => by
    obtain ⟨hp, g, d, tk, os⟩ := s
    obtain ⟨hl, q⟩ := h
    have one := AutoSeq1.idx_int
    wp_walk using AutoSeq1.wpAny_loadPart' hl
    exact ⟨_, rfl, q⟩
def rRepU (K : PySem.W.Frag) : R2 := fun x y H Q => ∃ (l : Addr) (k : Int) (xs : List V), x = .ref l ∧ y = .int k ∧ SqT K H l xs ∧ xs ≠ [] ∧ 0 ≤ k ∧ k ≤ 1000 ∧ xs.length ≤ 1000 ∧ (k = 1 → Q (.ref l) H) ∧
  (k ≠ 1 → ∀ p, H p = none → Q (.ref p) (upd H p (.tup (List.replicate k.toNat xs).flatten)))
section
variable {X : Cx}
theorem op_repU : OpR X (binaryOp .Mult) (rRepU X.K) := by
  intro pins s σ H x y v u Q I rx ry h
  obtain ⟨l, k, xs, rfl, rfl, hT, hne, h0, h1, hz, q1, q2⟩ := h
  by_cases c2 : 2 ≤ k
  · exact op_repT pins s σ H _ _ _ _ Q I rx ry ⟨l, k, xs, rfl, rfl, hT, hne, c2, h1, hz, q2 (by omega)⟩
  · cases rx
    obtain ⟨t, rfl⟩ := ry
    obtain ⟨its, r, ⟨⟨cls, dd, data, sl⟩, ho, hc, n, hd⟩, hs⟩ := I.tuple hT
    simp only at hc hd
    subst hc hd
    have c01 : k = 0 ∨ k = 1 := by omega
    rcases c01 with rfl | rfl
    · have hem : its.toArray.isEmpty = false := by
        cases r with
        | nil => exact absurd rfl hne
        | cons _ _ => rfl
      refine wpAny_binaryOp_repeat_ref (T := "tuple") (U := "int") (by decide) ⟨_, ho, rfl⟩ (fun s' => typeIs_int s' 0 t) noFill_tuple_mul F.fills_int_mul F.slot_int_rmul repeat_tuple F.slot_int_index.lookup (call_meets F.slot_int_rmul (typeIs_int s 0 t) F.entry_int_rmul (F.args_int_rmul_2 _ _)
        (int_rmul_tuple 0 t l its.toArray n dd sl) ⟨ho, rfl, ⟨_, ho, rfl⟩, call_meets F.slot_tuple_mul ⟨_, ho, rfl⟩ F.entry_tuple_mul (F.args_tuple_mul_2 _ _) (mul_none l its.toArray n dd sl t hem) ⟨ho, ?_⟩⟩)
      refine ⟨.ref s.heap.objs.size, _, I.laid (t' := s.toks) (o := .tup []) (fun b ob z => Heap.get?_push_of_some _ z) (Nat.le_refl _) ?_, rfl, q2 (by decide) _ (I.hok.fresh (Nat.le_refl _))⟩
      exact ⟨Nat.zero_le _, [], .nil, IsTup.new _ _⟩
    · refine wpAny_binaryOp_repeat_ref (T := "tuple") (U := "int") (by decide) ⟨_, ho, rfl⟩ (fun s' => typeIs_int s' 1 t) noFill_tuple_mul F.fills_int_mul F.slot_int_rmul repeat_tuple F.slot_int_index.lookup (call_meets F.slot_int_rmul (typeIs_int s 1 t) F.entry_int_rmul (F.args_int_rmul_2 _ _)
        (int_rmul_tuple 1 t l its.toArray n dd sl) ⟨ho, rfl, ⟨_, ho, rfl⟩, call_meets F.slot_tuple_mul ⟨_, ho, rfl⟩ F.entry_tuple_mul (F.args_tuple_mul_2 _ _) (mul_once l its.toArray n dd sl t) ⟨ho, ?_⟩⟩)
      exact ⟨.ref l, H, I, rfl, q1 rfl⟩
end

/-! ### more steps -/
def rTupOf (K : PySem.W.Frag) : List V → Hp → VK → Prop := fun xs H Q => ∃ p ys, xs = [.ref p] ∧ ((SqL K H p ys ∧ ∀ l, H l = none → Q (.ref l) (upd H l (.tup ys))) ∨ (SqT K H p ys ∧ Q (.ref p) H))
theorem call_tuple1 {X : Cx} : CallR X (.type "tuple") (rTupOf X.K) := call_tuple_of
section
variable {K : PySem.W.Frag} {H H' : Hp} {Q : VK} {σ : L2.St} {x : V}
theorem g_tupOf {p : Addr} {ys : List V} (h : SqL K H p ys) (q : ∀ l, H l = none → Q (.ref l) (upd H l (.tup ys))) : rTupOf K [.ref p] H Q := ⟨p, ys, rfl, .inl ⟨h, q⟩⟩
theorem g_inT {p : Addr} {xs : List V} (h : SqT K H p xs) (fx : flatV x = true) (fs : xs.all flatV = true) (q : Q (.bl (inV x xs)) H) : rIn K false x (.ref p) H Q := ⟨p, xs, rfl, .inr h, fx, fs, q⟩
theorem g_notInT {p : Addr} {xs : List V} (h : SqT K H p xs) (fx : flatV x = true) (fs : xs.all flatV = true) (q : Q (.bl (!inV x xs)) H) : rIn K true x (.ref p) H Q := ⟨p, xs, rfl, .inr h, fx, fs, q⟩
theorem g_sum {a : Addr} {ns : List Int} (h : SqL K H a (ns.map V.int)) (q : Q (.int ns.sum) H) : rSum K [.ref a] H Q := ⟨a, ns, rfl, h, q⟩
theorem g_pop {l : Addr} {xs : List V} {y : V} (h : H l = some (.lst xs)) (hy : xs[xs.length - 1]? = some y) (q : Q y (upd H l (.lst xs.dropLast))) : rPop (.ref l) [] H Q := ⟨l, xs, y, rfl, rfl, h, hy, q⟩
theorem w_lcTup {g : TG} {tt : TT} {te : TE} {vs : List Nat} {p : Addr} {xs : List V} (hp : SqT K H p xs) (Pv : Addr → Nat → Hp → Prop) (h0 : ∀ D, H D = none → Pv D 0 (upd H D (.lst []))) (hl : ∀ D i H', H D = none → i ≤ xs.length → Pv D i H' → SqT K H' p xs)
    (hs : ∀ D i y H', H D = none → xs[i]? = some y → Pv D i H' → g y (wipe σ vs) H' fun σ2 H2 => wipe σ2 vs = wipe σ vs ∧ tt σ2 H2 fun b H3 =>
      if b = true then te σ2 H3 fun y H4 => ∃ acc, H4 D = some (.lst acc) ∧ acc.length < sizeLine ∧ Pv D (i + 1) (upd H4 D (.lst (acc ++ [y]))) else Pv D (i + 1) H3) (hd : ∀ D H', H D = none → Pv D xs.length H' → Q (.ref D) H') :
    ∃ q, V.ref p = .ref q ∧ (∃ xs, SqT K H q xs) ∧ LcEnd g tt te vs σ Q (Itt K q) H :=
  ⟨p, rfl, ⟨xs, hp⟩, fun D hD => lc_tup (Pv D) (h0 D hD) (fun i H' hi q => hl D i H' hD hi q) (fun i y H' hy q => hs D i y H' hD hy q) (fun H' q => hd D H' hD q)⟩
/-- the end of a comprehension's turn -/
theorem g_lcput {D : Addr} {acc : List V} {y : V} {N : Hp → Prop} (h : H D = some (.lst acc)) (hl : acc.length < 100000) (q : N (upd H D (.lst (acc ++ [y])))) : ∃ acc, H D = some (.lst acc) ∧ acc.length < sizeLine ∧ N (upd H D (.lst (acc ++ [y]))) := ⟨acc, h, Nat.lt_of_lt_of_le hl (by decide), q⟩
end

/-! ### plans -/
inductive Pl where
  | pat
  | work (a b : Int)
  | row (ps : List Pl)
  | either (ps : List Pl)
  | loop (a b : Int) (p : Pl)
/-- tuples stay -/
def KeepT (H H' : Hp) : Prop := ∀ b xs, H b = some (.tup xs) → H' b = some (.tup xs)
theorem KeepT.refl (H : Hp) : KeepT H H := fun _ _ h => h
theorem KeepT.trans {H H1 H2 : Hp} (a : KeepT H H1) (b : KeepT H1 H2) : KeepT H H2 := fun c xs h => b c xs (a c xs h)
theorem keepT_same {H H' : Hp} (e : Same H H') : KeepT H H' := fun b xs h => e b _ h
theorem keepT_new {H : Hp} {p : Addr} {o : HO} (h : H p = none) : KeepT H (upd H p o) := keepT_same (same_new h)
theorem keepT_lst {H : Hp} {p : Addr} {o : HO} {xs : List V} (h : H p = some (.lst xs)) : KeepT H (upd H p o) := fun b ys e => by rw [upd_ne (ne_of e h (fun z => nomatch z))]; exact e
theorem keepT_frm {K : PySem.W.Frag} {B H H' : Hp} {S : Addr} (d : Dst K B H S) (f : Frm S H H') : KeepT H H' := fun b xs h => by
  obtain ⟨sc, ns, c, m, r, hS, _⟩ := d
  exact f b _ (ne_of h hS (fun z => nomatch z)) h
mutual
inductive PlA (H : Hp) : V → Pl → Prop
  | pat {a : Addr} : H a = some (.tup [.str "pat"]) → PlA H (.ref a) .pat
  | work {a : Addr} {x y : Int} : H a = some (.tup [.str "work", .int x, .int y]) → PlA H (.ref a) (.work x y)
  | row {a b : Addr} {vs : List V} {ps : List Pl} : H a = some (.tup [.str "row", .ref b]) → H b = some (.tup vs) → PlAs H vs ps → PlA H (.ref a) (.row ps)
  | either {a b : Addr} {vs : List V} {ps : List Pl} : H a = some (.tup [.str "either", .ref b]) → H b = some (.tup vs) → PlAs H vs ps → PlA H (.ref a) (.either ps)
  | loop {a : Addr} {x y : Int} {u : V} {p : Pl} : H a = some (.tup [.str "loop", .int x, .int y, u]) → PlA H u p → PlA H (.ref a) (.loop x y p)
inductive PlAs (H : Hp) : List V → List Pl → Prop
  | nil : PlAs H [] []
  | cons {v : V} {vs : List V} {p : Pl} {ps : List Pl} : PlA H v p → PlAs H vs ps → PlAs H (v :: vs) (p :: ps)
end
mutual
theorem PlA_keep {H H' : Hp} (e : KeepT H H') : ∀ (p : Pl) (v : V), PlA H v p → PlA H' v p
  | .pat, _, h => by cases h with | pat h => exact .pat (e _ _ h)
  | .work _ _, _, h => by cases h with | work h => exact .work (e _ _ h)
  | .row ps, _, h => by cases h with | row h1 h2 h3 => exact .row (e _ _ h1) (e _ _ h2) (PlAs_keep e ps _ h3)
  | .either ps, _, h => by cases h with | either h1 h2 h3 => exact .either (e _ _ h1) (e _ _ h2) (PlAs_keep e ps _ h3)
  | .loop _ _ p, _, h => by cases h with | loop h1 h2 => exact .loop (e _ _ h1) (PlA_keep e p _ h2)
theorem PlAs_keep {H H' : Hp} (e : KeepT H H') : ∀ (ps : List Pl) (vs : List V), PlAs H vs ps → PlAs H' vs ps
  | [], _, h => by cases h; exact .nil
  | p :: ps, _, h => by cases h with | cons h1 h2 => exact .cons (PlA_keep e p _ h1) (PlAs_keep e ps _ h2)
end
theorem PlAs.len {H : Hp} : ∀ {vs : List V} {ps : List Pl}, PlAs H vs ps → vs.length = ps.length
  | [], [], _ => rfl
  | _ :: _, _ :: _, .cons _ h => by rw [List.length_cons, List.length_cons, PlAs.len h]
theorem PlAs.at {H : Hp} : ∀ {vs : List V} {ps : List Pl} {i : Nat} {v : V}, PlAs H vs ps → vs[i]? = some v → ∃ p, ps[i]? = some p ∧ PlA H v p
  | _, _, 0, _, .cons h _, e => by cases e; exact ⟨_, rfl, h⟩
  | _, _, i + 1, _, .cons _ h, e => PlAs.at (i := i) h e
theorem PlAs.snoc {H : Hp} : ∀ {vs : List V} {ps : List Pl} {v : V} {p : Pl}, PlAs H vs ps → PlA H v p → PlAs H (vs ++ [v]) (ps ++ [p])
  | _, _, _, _, .nil, h => .cons h .nil
  | _, _, _, _, .cons a b, h => .cons a (PlAs.snoc b h)
theorem PlAs.rep {H : Hp} {v : V} {p : Pl} (h : PlA H v p) : ∀ n : Nat, PlAs H (List.replicate n [v]).flatten (List.replicate n p)
  | 0 => .nil
  | n + 1 => .cons h (PlAs.rep h n)
mutual
/-- how many tuples are plans; how deep; how many loops within one another; its bounds as they should be -/
def cnt : Pl → Nat
  | .pat => 1
  | .work _ _ => 1
  | .row ps => 1 + cnts ps
  | .either ps => 1 + cnts ps
  | .loop _ _ p => 1 + cnt p
def cnts : List Pl → Nat
  | [] => 0
  | p :: ps => cnt p + cnts ps
end
mutual
def okP : Nat → Nat → Pl → Prop
  | _, _, .pat => True
  | _, _, .work a b => 0 ≤ a ∧ a ≤ b ∧ b ≤ 1000
  | 0, _, .row _ => False
  | d + 1, l, .row ps => 0 < ps.length ∧ ps.length ≤ 20 ∧ okPs d l ps
  | 0, _, .either _ => False
  | d + 1, l, .either ps => 0 < ps.length ∧ ps.length ≤ 20 ∧ okPs d l ps
  | 0, _, .loop _ _ _ => False
  | _ + 1, 0, .loop _ _ _ => False
  | d + 1, l + 1, .loop a b p => 0 ≤ a ∧ a ≤ b ∧ b ≤ 9 ∧ okP d l p
def okPs : Nat → Nat → List Pl → Prop
  | _, _, [] => True
  | d, l, p :: ps => okP d l p ∧ okPs d l ps
end
theorem okPs_at {d l : Nat} : ∀ {ps : List Pl} {i : Nat} {p : Pl}, okPs d l ps → ps[i]? = some p → okP d l p
  | _ :: _, 0, _, h, e => by cases e; exact h.1
  | _ :: ps, i + 1, _, h, e => okPs_at (ps := ps) (i := i) h.2 e
theorem okPs_snoc {d l : Nat} : ∀ {ps : List Pl} {p : Pl}, okPs d l ps → okP d l p → okPs d l (ps ++ [p])
  | [], _, _, h => ⟨h, trivial⟩
  | _ :: ps, _, h1, h => ⟨h1.1, okPs_snoc h1.2 h⟩
theorem okPs_rep {d l : Nat} {p : Pl} (h : okP d l p) : ∀ n : Nat, okPs d l (List.replicate n p)
  | 0 => trivial
  | n + 1 => ⟨h, okPs_rep h n⟩
theorem cnt_pos : ∀ p : Pl, 1 ≤ cnt p
  | .pat => Nat.le_refl 1
  | .work _ _ => Nat.le_refl 1
  | .row _ => Nat.le_add_right 1 _
  | .either _ => Nat.le_add_right 1 _
  | .loop _ _ _ => Nat.le_add_right 1 _
theorem small_lt {n : Nat} (h : n < 100000) : n < sizeLine := Nat.lt_of_lt_of_le h (by decide)
end Wd
/-! zip; comprehensions over lists. -/
namespace Wd
open PySem PySem.Spec PyProof.Rows L2
section
variable {σ : L2.St} {H : Hp} {Q : VK} {K : PySem.W.Frag}
theorem w_zip {a : L2.St → Hp → Prop} {b : VK} {g : TG} {tb : TS} {p r : Addr} {xs ys : List V} (hl : xs.length = ys.length) (Pv : Nat → L2.St → Hp → Prop) (h0 : Pv 0 σ H) (hq : ∀ i σ H, Pv i σ H → SqL K H p xs ∧ SqL K H r ys)
    (hs : ∀ i x y T σ H, xs[i]? = some x → ys[i]? = some y → Pv i σ H → H T = none → g (.ref T) σ (upd H T (.tup [x, y])) fun σ2 H2 => tb ⟨Pv (i + 1), b, a, Pv (i + 1)⟩ σ2 H2) (hd : ∀ σ H, Pv xs.length σ H → a σ H) :
    ∃ a' b' xs ys, [V.ref p, .ref r] = [V.ref a', .ref b'] ∧ SqL K H a' xs ∧ SqL K H b' ys ∧ ForEnd g tb a b σ (Itz K a' b') H :=
  ⟨p, r, xs, ys, rfl, (hq 0 σ H h0).1, (hq 0 σ H h0).2, RZ.for_zipL (D := ⟨a, b, fun _ _ => False, fun _ _ => False⟩) hl Pv h0 hq hs hd⟩
theorem w_lcZip {g : TG} {tt : TT} {te : TE} {vs : List Nat} {p r : Addr} {xs ys : List V} (hl : xs.length = ys.length) (hp : SqL K H p xs) (hr : SqL K H r ys) (Pv : Addr → Nat → Hp → Prop) (h0 : ∀ D, H D = none → Pv D 0 (upd H D (.lst [])))
    (hq : ∀ D i H', H D = none → Pv D i H' → SqL K H' p xs ∧ SqL K H' r ys)
    (hs : ∀ D i x y T H', H D = none → xs[i]? = some x → ys[i]? = some y → Pv D i H' → H' T = none → g (.ref T) (wipe σ vs) (upd H' T (.tup [x, y])) fun σ2 H2 => wipe σ2 vs = wipe σ vs ∧ tt σ2 H2 fun b H3 =>
      if b = true then te σ2 H3 fun y H4 => ∃ acc, H4 D = some (.lst acc) ∧ acc.length < sizeLine ∧ Pv D (i + 1) (upd H4 D (.lst (acc ++ [y]))) else Pv D (i + 1) H3) (hd : ∀ D H', H D = none → Pv D xs.length H' → Q (.ref D) H') :
    ∃ a' b' xs ys, [V.ref p, .ref r] = [V.ref a', .ref b'] ∧ SqL K H a' xs ∧ SqL K H b' ys ∧ LcEnd g tt te vs σ Q (Itz K a' b') H := by
  refine ⟨p, r, xs, ys, rfl, hp, hr, fun D hD => ?_⟩
  refine ⟨fun i m H' => m = xs.length - i ∧ i ≤ xs.length ∧ Pv D i H', ⟨xs.length, by simp, Nat.zero_le _, h0 D hD⟩, ?_⟩
  rintro i m H' ⟨rfl, hi, pv⟩
  obtain ⟨qx, qy⟩ := hq D i H' hD pv
  by_cases hlt : i < xs.length
  · have hx : xs[i]? = some xs[i] := List.getElem?_eq_getElem hlt
    have hlt2 : i < ys.length := by omega
    have hy : ys[i]? = some ys[i] := List.getElem?_eq_getElem hlt2
    refine .inr ⟨⟨xs, ys, _, _, qx, qy, hx, hy⟩, Pv D (i + 1), fun H' p' => ⟨xs.length - (i + 1), by omega, rfl, hlt, p'⟩, fun v H'' y => ?_⟩
    obtain ⟨T, x', y', rfl, hT, rfl, f1, f2⟩ := y
    exact hs D i x' y' T H' hD (f1 xs qx) (f2 ys qy) pv hT
  · have e : i = xs.length := by omega
    subst e
    exact .inl ⟨⟨xs, ys, qx, qy, Or.inl (Nat.le_refl _)⟩, hd D H' hD pv⟩
theorem w_lcList {g : TG} {tt : TT} {te : TE} {vs : List Nat} {p : Addr} {xs : List V} (hp : SqL K H p xs) (Pv : Addr → Nat → Hp → Prop) (h0 : ∀ D, H D = none → Pv D 0 (upd H D (.lst []))) (hl : ∀ D i H', H D = none → i ≤ xs.length → Pv D i H' → SqL K H' p xs)
    (hs : ∀ D i y H', H D = none → xs[i]? = some y → Pv D i H' → g y (wipe σ vs) H' fun σ2 H2 => wipe σ2 vs = wipe σ vs ∧ tt σ2 H2 fun b H3 =>
      if b = true then te σ2 H3 fun y H4 => ∃ acc, H4 D = some (.lst acc) ∧ acc.length < sizeLine ∧ Pv D (i + 1) (upd H4 D (.lst (acc ++ [y]))) else Pv D (i + 1) H3) (hd : ∀ D H', H D = none → Pv D xs.length H' → Q (.ref D) H') :
    ∃ q, V.ref p = .ref q ∧ (∃ xs, SqL K H q xs) ∧ LcEnd g tt te vs σ Q (Itl K q) H :=
  ⟨p, rfl, ⟨xs, hp⟩, fun D hD => lc_list (Pv D) (h0 D hD) (fun i H' hi q => hl D i H' hD hi q) (fun i y H' hy q => hs D i y H' hD hy q) (fun H' q => hd D H' hD q)⟩
theorem g_zip {ta : TA} {R : It → Hp → Prop} (h : ta σ H fun vs H1 => ∃ a b xs ys, vs = [.ref a, .ref b] ∧ SqL K H1 a xs ∧ SqL K H1 b ys ∧ R (Itz K a b) H1) : iZip K ta σ H R := h
end
end Wd
/-! sorted of data; self.a, self.b = .. -/
namespace Wd
open PySem PySem.Spec PyProof.Rows L2
def rSortD (K : PySem.W.Frag) : List V → Hp → VK → Prop := fun vs H Q => ∃ (a : Addr) (ps : List (V × PyData)), vs = [.ref a] ∧ SqL K H a (ps.map (·.1)) ∧ (∀ p ∈ ps, Dp K H p.1 p.2) ∧ PySem.W.AllAlike (ps.map (·.2)) ∧ PySem.W.Sortable (ps.map (·.2)) ∧ (∀ p ∈ ps, p.2.depth ≤ 10) ∧
  ∀ p, H p = none → Q (.ref p) (upd H p (.lst ((ps.mergeSort (PySem.W.dataLe false (·.2))).map (·.1))))
theorem each_vals : ∀ {ps : List (V × PyData)} {us : List Value}, Vals (ps.map (·.1)) us → PySem.W.EachIs (fun v (b : V × PyData) => RelV b.1 v) us ps
  | [], _, .nil => .nil
  | p :: ps, _, .cons r t => .cons r (each_vals t)
theorem vals_each : ∀ {ps : List (V × PyData)} {us : List Value}, PySem.W.EachIs (fun v (b : V × PyData) => RelV b.1 v) us ps → Vals (ps.map (·.1)) us
  | [], _, .nil => .nil
  | p :: ps, _, .cons r t => .cons r (vals_each t)
theorem each_reads {X : Cx} {pins : List (Addr × Obj)} {σ : L2.St} {H : Hp} {s : Shared} (I : Inv X pins σ H s) : ∀ {ps : List (V × PyData)} {us : List Value}, (∀ p ∈ ps, Dp X.K H p.1 p.2) → Vals (ps.map (·.1)) us → PySem.W.EachIs (fun v (b : V × PyData) => ∃ as, Reads s.heap v b.2 as) us ps
  | [], _, _, .nil => .nil
  | p :: ps, _, h, .cons r t => .cons (Dp.reads I p.2 p.1 _ (h p List.mem_cons_self) r) (each_reads I (fun y hy => h y (List.mem_cons_of_mem _ hy)) t)
section
variable {X : Cx}
theorem cr_sortedD (hu : X.A.units + 64 < cLine) : CallR X (.builtin "sorted") (rSortD X.K) := by
  intro pins s σ H vs us Q I r h
  obtain ⟨a, ps, rfl, hs, hd, hal, hk, hdep, q⟩ := h
  obtain ⟨its, rv, hl, hz⟩ := I.list hs
  obtain ⟨u, rfl, ru⟩ := vals1 r
  obtain rfl : u = Value.ref a := ru
  have hlen : ps.length ≤ sizeLine := by rw [List.length_map] at hz; exact hz
  refine PySem.W.sorted_data (vs := its) (bs := ps) (enc := (·.2)) (R := fun v b => RelV b.1 v) hl.isList (each_vals rv) (each_reads I hd rv) hal hk hlen (fun b hb => by have := hdep b hb; omega) fun out ho hout => ?_
  obtain ⟨n, hn⟩ := sortedAll_at s.heap its out.toArray
  have hv := vals_each hout
  refine ⟨.ref (s.heap.objs.size + 1), _, I.laid (t' := s.toks) (fun b o z => sortedAll_old z) (Nat.le_succ _) (o := .lst ((ps.mergeSort (PySem.W.dataLe false (·.2))).map (·.1))) ⟨?_, out, n, hv, hn⟩, rfl, q _ (I.hok.fresh (Nat.le_succ _))⟩
  rw [List.length_map, List.length_mergeSort]
  exact hlen
theorem pe_fldK {K : PySem.W.Frag} {e : Expr} {f : Str} {pos : Pos} {ta : TE} (hK : X.K = K) (he : PE X e ta) (hb : attributeBase e f X.env (eval e X.env) = eval e X.env) : PE X (.Attribute e f pos) (tFld K ta f) := by
  subst hK; exact pe_fld he hb
/-- an attribute as a target -/
def gAtt (K : PySem.W.Frag) (to : TE) (f : Str) : TG := fun y σ H Q => to σ H fun x H2 => ∃ a C dx fs, x = .ref a ∧ H2 a = some (.ins C dx fs) ∧ Cls K C ∧ NoAttr K C f ∧ fs.length < 1000 ∧ Q σ (upd H2 a (.ins C dx (putF f y fs)))
theorem pg_att {o : Expr} {f : Str} {pos : Pos} {to : TE} (ho : PE X o to)
    (ha : ∀ v, assign (.Attribute o f pos) X.env v = (do
      let ov ← holding [v] (eval o X.env)
      standAt pos.atName
      holding [v, ov] (setAttr ov f v)
      release [v, ov] []) := by intro _; rfl) : PG X (.Attribute o f pos) (gAtt X.K to f) := by
  refine ⟨fun pins s σ H v u Q I r h => ?_⟩
  rw [ha]
  refine wpAny_bind (wpAny_holding (thn (ho.run pins s σ H _ I h) fun ov s1 ⟨x, H1, I1, rx, a, C, dx, fs, ex, ea, c, n, l, q⟩ => ?_))
  subst ex
  obtain rfl : ov = Value.ref a := rx
  refine wpAny_bind (wpAny_standAt (wpAny_bind (wpAny_holding (setattr_ok I1 ea c n l r fun s2 I2 => ?_))))
  exact wpAny_release ⟨σ, _, I2, q⟩
end
end Wd
/-! A set comprehension of two fors, its members whole numbers. -/
namespace Wd
open PySem PySem.Spec PyProof.Rows L2
/-- the comprehension that is meant -/
abbrev sc2 (elt t0 i0 t1 i1 : Expr) (f0 f1 : List Expr) (sco : Scope) (pos : Pos) : Expr := .SetComp elt [⟨t0, i0, f0, 0⟩, ⟨t1, i1, f1, 0⟩] sco pos
section
variable {prg : Program} {w : World} {A : Around} {R : Result → Shared → Prop} {elt t0 i0 t1 i1 : Expr} {f0 f1 : List Expr} {sco : Scope} {pos : Pos} {it acc : Value} {env : Env}
theorem sc2_turn0 : compTurn (sc2 elt t0 i0 t1 i1 f0 f1 sco pos) 0 it acc env = (do
    standAt i0.pos
    match ← pyNext it with
    | none => pure (.done .next)
    | some v =>
      letOwnedTupleGo t0 it v
      assign t0 env v
      let mut go := true
      for c in f0 do
        if go then go ← isTrue c env (eval c env)
      if go then
        let y ← eval i1 env
        standAt i1.pos
        let y ← foldedSetIterable i1 env y
        let _ ← runOwn (.compStart (sc2 elt t0 i0 t1 i1 f0 f1 sco pos) 1 (← holding [y] (pyIter y)) acc env) env
      again (.compLoop (sc2 elt t0 i0 t1 i1 f0 f1 sco pos) 0 it acc env)) := by rfl
theorem sc2_turn1 : compTurn (sc2 elt t0 i0 t1 i1 f0 f1 sco pos) 1 it acc env = (do
    standAt i1.pos
    match ← pyNext it with
    | none => pure (.done .next)
    | some v =>
      letOwnedTupleGo t1 it v
      assign t1 env v
      let mut go := true
      for c in f1 do
        if go then go ← isTrue c env (eval c env)
      if go then
        (do let v ← eval elt env; standAt elt.pos; let _ ← call (.builtin "set.add") [acc, v])
      again (.compLoop (sc2 elt t0 i0 t1 i1 f0 f1 sco pos) 1 it acc env)) := by rfl
/-- where an exception of the turn goes -/
abbrev offs (prg : Program) (w : World) (A : Around) (env : Env) (R : Result → Shared → Prop) : Value → Shared → Prop := notedBy (model prg w) A env fun e s' => R (.error e) s'
abbrev tests2 (fs : List Expr) (env : Env) : Sem Bool := forIn fs true fun c r => if r = true then do let ok ← isTrue c env (eval c env); pure (ForInStep.yield ok) else pure (ForInStep.yield r)
theorem sc2_loop0 (hs : ∀ x, foldedSetIterable i1 env x = pure x) (J : Nat → Shared → Prop)
    (turn : ∀ n s, J n s → wpAny (model prg w) A (pyNext it) (fun r sa => match r with
      | none => R (.ok .next) sa
      | some v => wpAny (model prg w) A (letOwnedTupleGo t0 it v) (fun _ sb => wpAny (model prg w) A (assign t0 env v) (fun _ sc => wpAny (model prg w) A (tests2 f0 env) (fun go sd =>
            if go = true then wpAny (model prg w) A (eval i1 env) (fun x se => wpAny (model prg w) A (pyIter x) (fun jt sf => codeAny (model prg w) A (.compStart (sc2 elt t0 i0 t1 i1 f0 f1 sco pos) 1 jt acc env) (fun r sg => match r with
                | .ok _ => ∃ m, m < n ∧ J m sg
                | .error _ => False) sf) (offs prg w A env R) se) (offs prg w A env R) sd
            else ∃ m, m < n ∧ J m sd) (offs prg w A env R) sc) (offs prg w A env R) sb) (offs prg w A env R) sa) (offs prg w A env R) s)
    (n : Nat) {s : Shared} (h : J n s) : codeAny (model prg w) A (.compLoop (sc2 elt t0 i0 t1 i1 f0 f1 sco pos) 0 it acc env) R s := by
  refine codeAny_loop rfl J (fun n s hJ => ?_) n h
  show wpAny _ A ((compTurn (sc2 elt t0 i0 t1 i1 f0 f1 sco pos) 0 it acc env).onRaise (fun x => do noteFrame x env; theTreesLotGoes x)) _ _ s
  refine wpAny_noted ?_
  rw [sc2_turn0]
  refine wpAny_bind (wpAny_standAt (wpAny_bind (wpAny_mono (turn n s hJ) (fun r sa ha => ?_) fun _ _ z => z)))
  match r, ha with
  | none, ha => exact wpAny_pure ha
  | some v, ha =>
    refine wpAny_bind (wpAny_mono ha (fun _ sb hb => ?_) fun _ _ z => z)
    refine wpAny_bind (wpAny_mono hb (fun _ sc hc => ?_) fun _ _ z => z)
    refine wpAny_bind (wpAny_mono hc (fun go sd hd => ?_) fun _ _ z => z)
    cases go with
    | false => exact wpAny_pure ⟨rfl, hd⟩
    | true =>
      refine wpAny_bind (wpAny_mono hd (fun x se he => ?_) fun _ _ z => z)
      refine wpAny_bind (wpAny_standAt (wpAny_bind (wpAny_of_eq (hs x) ?_)))
      refine wpAny_bind (wpAny_holding (wpAny_mono he (fun jt sf hf => ?_) fun _ _ z => z))
      refine wpAny_bind (wpAny_runOwn ?_)
      rw [Around.mark_none]
      refine codeAny_mono hf fun r sg hg => ?_
      match r, hg with
      | .ok _, hg =>
        first
          | exact wpAny_pure ⟨rfl, hg⟩
          | exact wpAny_bind (wpAny_pure (wpAny_pure ⟨rfl, hg⟩))
      | .error _, hg => exact hg.elim
theorem sc2_loop1 (J : Nat → Shared → Prop)
    (turn : ∀ n s, J n s → wpAny (model prg w) A (pyNext it) (fun r sa => match r with
      | none => R (.ok .next) sa
      | some v => wpAny (model prg w) A (letOwnedTupleGo t1 it v) (fun _ sb => wpAny (model prg w) A (assign t1 env v) (fun _ sc => wpAny (model prg w) A (tests2 f1 env) (fun go sd =>
            if go = true then wpAny (model prg w) A (eval elt env) (fun x se => wpAny (model prg w) A (call (.builtin "set.add") [acc, x]) (fun _ sf => ∃ m, m < n ∧ J m sf) (offs prg w A env R) se) (offs prg w A env R) sd
            else ∃ m, m < n ∧ J m sd) (offs prg w A env R) sc) (offs prg w A env R) sb) (offs prg w A env R) sa) (offs prg w A env R) s)
    (n : Nat) {s : Shared} (h : J n s) : codeAny (model prg w) A (.compLoop (sc2 elt t0 i0 t1 i1 f0 f1 sco pos) 1 it acc env) R s := by
  refine codeAny_loop rfl J (fun n s hJ => ?_) n h
  show wpAny _ A ((compTurn (sc2 elt t0 i0 t1 i1 f0 f1 sco pos) 1 it acc env).onRaise (fun x => do noteFrame x env; theTreesLotGoes x)) _ _ s
  refine wpAny_noted ?_
  rw [sc2_turn1]
  refine wpAny_bind (wpAny_standAt (wpAny_bind (wpAny_mono (turn n s hJ) (fun r sa ha => ?_) fun _ _ z => z)))
  match r, ha with
  | none, ha => exact wpAny_pure ha
  | some v, ha =>
    refine wpAny_bind (wpAny_mono ha (fun _ sb hb => ?_) fun _ _ z => z)
    refine wpAny_bind (wpAny_mono hb (fun _ sc hc => ?_) fun _ _ z => z)
    refine wpAny_bind (wpAny_mono hc (fun go sd hd => ?_) fun _ _ z => z)
    cases go with
    | false => exact wpAny_pure ⟨rfl, hd⟩
    | true =>
      refine wpAny_bind (wpAny_bind (wpAny_mono hd (fun x se he => ?_) fun _ _ z => z))
      refine wpAny_bind (wpAny_standAt (wpAny_bind (wpAny_mono he (fun _ sf hf => ?_) fun _ _ z => z)))
      exact wpAny_pure (wpAny_pure ⟨rfl, hf⟩)
theorem sc2_start1 {s : Shared} (h0 : codeAny (model prg w) A (.compLoop (sc2 elt t0 i0 t1 i1 f0 f1 sco pos) 1 it acc env) R s)
    (h : wpAny (model prg w) A (pyIter it) (fun jt s' => codeAny (model prg w) A (.compLoop (sc2 elt t0 i0 t1 i1 f0 f1 sco pos) 1 jt acc env) R s') (offs prg w A env R) s) :
    codeAny (model prg w) A (.compStart (sc2 elt t0 i0 t1 i1 f0 f1 sco pos) 1 it acc env) R s := by
  refine codeAny_of_tree ?_
  show wpAny _ _ ((compStart (sc2 elt t0 i0 t1 i1 f0 f1 sco pos) 1 it acc env).onRaise (fun x => do noteFrame x env; standAt theWindowsPlace)) _ _ s
  refine wpAny_notedAt ?_
  unfold compStart
  show wpAny _ _ (ask >>= _) _ _ s
  refine wpAny_bind (wpAny_askSetting (wpAny_ite ?_))
  have hb : wpAny (model prg w) A (pyIter it) (fun jt s' => wpAny (model prg w) A (pure jt) (fun jt s' => codeAny (model prg w) A (.compLoop (sc2 elt t0 i0 t1 i1 f0 f1 sco pos) 1 jt acc env) R s') (offs prg w A env R) s') (offs prg w A env R) s := wpAny_mono h (fun _ _ z => wpAny_pure z) fun _ _ z => z
  split
  · first
      | exact wpAny_bind (wpAny_pure (wpAny_pure ⟨rfl, h0⟩))
      | exact wpAny_pure ⟨rfl, h0⟩
  · refine wpAny_bind (wpAny_rule ?_)
    first
      | exact wpAny_bind (wpAny_standAt (wpAny_bind (wpAny_mono h (fun _ _ z => wpAny_pure ⟨rfl, z⟩) fun _ _ z => z)))
      | (show wpAny _ _ (standAt i1.pos >>= _) _ _ s; exact wpAny_bind (wpAny_standAt (wpAny_bind (wpAny_mono h (fun _ _ z => wpAny_pure ⟨rfl, z⟩) fun _ _ z => z))))
end
/-- the second for, to the end of its list; D the set that is filled -/
def InS (w : World) (g1 : TG) (tt1 : TT) (te : TE) (vs1 : List Nat) (σ2 : L2.St) (D : Addr) (N : Hp → Prop) (J1 : It) (H4 : Hp) : Prop := ∃ W1 : Nat → Nat → Hp → Prop, (∃ m, W1 0 m H4) ∧ ∀ j k H, W1 j k H → (J1.stop j H ∧ N H) ∨
  (J1.go j H ∧ ∃ M : Hp → Prop, (∀ H', M H' → ∃ k', k' < k ∧ W1 (j + 1) k' H') ∧ ∀ x H', J1.yld j H x H' → g1 x (wipe σ2 vs1) H' fun σ3 H5 => wipe σ3 vs1 = wipe σ2 vs1 ∧ tt1 σ3 H5 fun b H6 =>
    if b = true then te σ3 H6 fun y H7 => ∃ (c : Int) (S : Int → Bool) (n : Nat), y = .int c ∧ H7 D = some (SetO w D S n) ∧ n + 1 < scanBound ∧ M (upd H7 D (SetO w D (fun j => S j || decide (j = c)) (if S c = true then n else n + 1))) else M H6)
def Sc2End (w : World) (g : TG) (tt : TT) (wi1 : TI) (g1 : TG) (tt1 : TT) (te : TE) (vs vs1 : List Nat) (σ : L2.St) (Q : VK) (J : It) (H1 : Hp) : Prop := ∀ D, H1 D = none → ∃ W : Nat → Nat → Hp → Prop, (∃ m, W 0 m (upd H1 D (SetO w D (fun _ => false) 0))) ∧ ∀ i m H, W i m H → (J.stop i H ∧ Q (.ref D) H) ∨
  (J.go i H ∧ ∃ M : Hp → Prop, (∀ H', M H' → ∃ m', m' < m ∧ W (i + 1) m' H') ∧ ∀ x H', J.yld i H x H' → g x (wipe σ vs) H' fun σ2 H2 => wipe σ2 vs = wipe σ vs ∧ tt σ2 H2 fun b H3 => if b = true then wi1 σ2 H3 (InS w g1 tt1 te vs1 σ2 D M) else M H3)
def tSc2 (w : World) (wi : TI) (g : TG) (tt : TT) (wi1 : TI) (g1 : TG) (tt1 : TT) (te : TE) (vs vs1 : List Nat) : TE := fun σ H Q => wi σ H (Sc2End w g tt wi1 g1 tt1 te vs vs1 σ Q)
section
variable {X : Cx} {elt t0 i0 t1 i1 : Expr} {f0 f1 : List Expr} {sco : Scope} {own : List (Str × Nat)} {vs1 : List Nat} {pos : Pos} {wi wi1 : TI} {g g1 : TG} {tt tt1 : TT} {te : TE}
theorem pe_sc2 (hc : X.calm = true) (hN : X.N.Nodup) (hi : PI X t0 i0 wi) (ok : BlkOk X.N X.env.scope sco own) (hv : ∀ i ∈ vs1, i ∈ own.map (·.2))
    (hg : ∀ (s : Shared) (H : Hp) (C : Addr) (cl : List (Str × Addr)) (fp : List Addr), PG (X.blk s H sco (compEnvC sco cl C X.env) fp) t0 g)
    (ht : ∀ (s : Shared) (H : Hp) (C : Addr) (cl : List (Str × Addr)) (fp : List Addr), PTs (X.blk s H sco (compEnvC sco cl C X.env) fp) f0 tt)
    (hi1 : ∀ (s : Shared) (H : Hp) (C : Addr) (cl : List (Str × Addr)) (fp : List Addr), PI (X.blk s H sco (compEnvC sco cl C X.env) fp) t1 i1 wi1)
    (hg1 : ∀ (s : Shared) (H : Hp) (C : Addr) (cl : List (Str × Addr)) (fp : List Addr), PG (X.blk s H sco (compEnvC sco cl C X.env) fp) t1 g1)
    (ht1 : ∀ (s : Shared) (H : Hp) (C : Addr) (cl : List (Str × Addr)) (fp : List Addr), PTs (X.blk s H sco (compEnvC sco cl C X.env) fp) f1 tt1)
    (he : ∀ (s : Shared) (H : Hp) (C : Addr) (cl : List (Str × Addr)) (fp : List Addr), PE (X.blk s H sco (compEnvC sco cl C X.env) fp) elt te)
    (hs : ∀ x, foldedSetIterable i0 X.env x = pure x := by intro _; rfl) (hs1 : ∀ env x, foldedSetIterable i1 env x = pure x := by intro _ _; rfl) :
    PE X (sc2 elt t0 i0 t1 i1 f0 f1 sco pos) (tSc2 X.w wi g tt wi1 g1 tt1 te (own.map (·.2)) vs1) := by
  refine ⟨fun pins s σ H Q I h => ?_⟩
  rw [PpSet.eval_SetComp]
  have hfree : ∀ y ∈ sco.names, y.2 = .free → ∃ c, X.env.cells.lookup y.1 = some c := fun y hy e => (ok.free y hy e).elim (fun k => I.ok.has _ (.inl k)) (fun k => I.ok.has _ (.inr k))
  refine wpAny_comprehension_free (use := none) rfl hs (closure_ok hfree) ok.kind (fun y hy e => by rw [ok.uniq y hy, e]) ?_
  refine thn (hi.run pins s σ H _ I h) fun xv sa hx => thn hx fun itv sb hb => ?_
  obtain ⟨it, fp, tn, J, Hb, e, Ib, T, stb, fb, q⟩ := hb
  subst e
  refine PpSet.newSet_ok (newEnv_comp ?_)
  generalize hD : sb.heap.objs.size = D
  obtain ⟨W, ⟨m0, w0⟩, turn⟩ := q D (Ib.hok.fresh (Nat.le_of_eq hD))
  generalize hE : SetO X.w D (fun _ => false) 0 = eo at w0
  have hDb : Hb D = none := Ib.hok.fresh (Nat.le_of_eq hD)
  generalize hsc : ({ sb with heap := sb.heap.push { cls := .type "set", dict := none, data := .set #[] 0 (.fresh 0 0 (!X.w.params.followText "set-order")) } } : Shared) = sc
  have hpush : sc.heap = sb.heap.push { cls := .type "set", dict := none, data := .set #[] 0 (.fresh 0 0 (!X.w.params.followText "set-order")) } := by rw [← hsc]
  have old : ∀ b o, sb.heap.get? b = some o → sc.heap.get? b = some o := fun b o e => by rw [hpush]; exact Heap.get?_push_of_some _ e
  have Ic : Inv X pins σ (upd Hb D eo) sc := by
    rw [← hsc, ← hE]
    refine Ib.laid (t' := sb.toks) (fun b o e => Heap.get?_push_of_some _ e) (Nat.le_of_eq hD) ?_
    rw [← hD]
    exact setO_new (setR_fresh X.w)
  have below : ∀ b ∈ fp, b < sb.heap.objs.size := fun b hb => by
    obtain ⟨o, e, _⟩ := T.obj _ _ stb b hb
    exact Heap.lt_size e
  have fc : ∀ b ∈ fp, FpOk X pins (upd Hb D eo) b ∧ b < sc.heap.objs.size := fun b hb => by
    have lt := below b hb
    have ne : b ≠ D := by rw [← hD]; exact Nat.ne_of_lt lt
    exact ⟨⟨by rw [upd_ne ne]; exact (fb b hb).1, (fb b hb).2⟩, by rw [hpush, Heap.size_push]; exact Nat.lt_succ_of_lt lt⟩
  have stc : tn 0 sc.heap := T.keep _ _ _ stb fun b _ o e => old b o e
  have Id := block_start Ic ok hN fc
  generalize hHc : upd Hb D eo = Hc at w0 Ic Id fc
  generalize hcl : cellsFrom (sc.heap.objs.size + 1) sco.names (cloFrom X.env.cells sco.names []) = cl at Id
  have pg := hg sc Hc sc.heap.objs.size cl fp
  have pt := ht sc Hc sc.heap.objs.size cl fp
  have pe := he sc Hc sc.heap.objs.size cl fp
  have pi1 := hi1 sc Hc sc.heap.objs.size cl fp
  have pg1 := hg1 sc Hc sc.heap.objs.size cl fp
  have pt1 := ht1 sc Hc sc.heap.objs.size cl fp
  show codeAny _ _ (.compStart (sc2 elt t0 i0 t1 i1 f0 f1 sco pos) 0 (.ref it) (.ref D) (compEnvC sco cl sc.heap.objs.size X.env)) (compPost (model X.prog X.w) X.A X.xe none (EP X pins σ Q) (.ref D) sc.heap.objs.size) { sc with heap := pushCells (sc.heap.push { cls := .type "dict", data := .dict #[] }) sco.names }
  generalize hen : compEnvC sco cl sc.heap.objs.size X.env = en at Id pg pt pe pi1 pg1 pt1 ⊢
  have enL : en.locals = sc.heap.objs.size := by subst hen; rfl
  generalize hsd : ({ sc with heap := pushCells (sc.heap.push { cls := .type "dict", data := .dict #[] }) sco.names } : Shared) = sd at Id ⊢
  have std : tn 0 sd.heap := T.keep _ _ _ stc fun b _ o e => by rw [← hsd]; exact pushCells_keeps _ _ _ _ (Heap.get?_push_of_some _ e)
  have at0 : ∀ {σ' : L2.St} {H' : Hp} {s' : Shared}, Inv (X.blk sc Hc sco en fp) [] σ' H' s' → (∀ b ∈ fp, H' b = none) → ∀ b ∈ fp, FpOk (X.blk sc Hc sco en fp) [] H' b := by
    intro σ' H' s' I' hn b hb
    have x1 := I'.ok.exf b hb
    refine ⟨hn b hb, x1.1, I'.ok.exfs b hb, .inl hb, fun x c e => x1.2 x c e, fun p hp => ?_⟩
    exact absurd hp (by simp)
  generalize hw : wipe σ (own.map (·.2)) = σw at Id turn
  have lw : σw.length = σ.length := by rw [← hw, wipe_length]
  have main : codeAny (model X.prog X.w) X.A (.compLoop (sc2 elt t0 i0 t1 i1 f0 f1 sco pos) 0 (.ref it) (.ref D) en) (compPost (model X.prog X.w) X.A X.xe none (EP X pins σ Q) (.ref D) sc.heap.objs.size) sd := by
    refine sc2_loop0 (hs1 en) (fun n s' => ∃ i H', Inv (X.blk sc Hc sco en fp) [] σw H' s' ∧ tn i s'.heap ∧ (∀ b ∈ fp, H' b = none) ∧ W i n H') ?_ m0 ⟨0, Hc, Id, std, fun b hb => (fc b hb).1.1, w0⟩
    rintro n s5 ⟨i, H5, I5, st5, n5, w5⟩
    rcases turn i n H5 w5 with ⟨stop, qq⟩ | ⟨go, M, hM, step⟩
    · refine thnF (T.done (X.blk sc Hc sco en fp) rfl rfl rfl hc i [] s5 _ H5 (fun _ _ => False) I5 (at0 I5 n5) st5 stop) fun r s6 ⟨hr, I6⟩ => ?_
      subst hr
      have I7 : Inv X pins σ H5 s6 := by
        refine Ic.call' (ch := fp) I6.os I6.base I6.hok I6.bare fun b hb => ?_
        obtain ⟨_, y1, y2, y3, y4, y5⟩ := (fc b hb).1
        exact ⟨y3, y1, y4, y5⟩
      have nC : H5 sc.heap.objs.size = none := by
        have z : H5 en.locals = none := I6.free
        rw [enL] at z
        exact z
      obtain ⟨m, hn, _⟩ := I6.loc
      have hn2 : s6.heap.Ns en.locals m := hn
      rw [enL] at hn2
      refine ⟨m, hn2, fun h'' eb => ?_⟩
      obtain ⟨y0, y1, y2, y3, y4, y5⟩ := Ic.fpOk (Nat.le_refl _) nC
      exact ⟨.ref D, H5, I7.turned (t' := s6.toks) (fun b o hb e => (eb.2 b hb).trans e) y0 y1 y3 y4 y5, rfl, qq⟩
    · refine thnF (T.item (X.blk sc Hc sco en fp) rfl rfl rfl hc i [] s5 _ H5 (fun _ _ => False) I5 (at0 I5 n5) st5 go) fun r s6 ⟨u, hr, h6⟩ => ?_
      subst hr
      refine thnF h6 fun _ s7 ⟨x, H7, I7, r7, y7, st7, n7⟩ => ?_
      refine thnF (pg.run _ s7 _ H7 x u _ (I7.pinned (at0 I7 n7) (T.obj _ _ st7)) r7 (step x H7 y7)) fun _ s8 ⟨σ8, H8, I8, hw8, q8⟩ => ?_
      refine thnF (pt.run _ s8 σ8 H8 _ I8 q8) fun b s9 ⟨H9, I9, q9⟩ => ?_
      have l8 : σw.length = σ8.length := by rw [lw, ← wipe_length σ (own.map (·.2)), hw, ← hw8, wipe_length]
      have k8 : ∀ (j : Nat) v, σw[j]? = some (some v) → σ8[j]? = some (some v) := fun j v e => by
        rw [← hw8] at e
        exact (wipe_some e).1
      -- behind a turn: what the outer loop knows
      have back : ∀ {σ9 : L2.St} {s' : Shared} {H' : Hp}, Inv (X.blk sc Hc sco en fp) ([] ++ pinsAt fp s7.heap) σ9 H' s' → σw.length = σ9.length → (∀ (j : Nat) v, σw[j]? = some (some v) → σ9[j]? = some (some v)) → M H' →
          ∃ m, m < n ∧ ∃ i H', Inv (X.blk sc Hc sco en fp) [] σw H' s' ∧ tn i s'.heap ∧ (∀ b ∈ fp, H' b = none) ∧ W i m H' := by
        intro σ9 s' H' I' hl hk nx
        obtain ⟨m', hm, w'⟩ := hM H' nx
        have stay : ∀ b ∈ fp, ∀ o, s7.heap.get? b = some o → s'.heap.get? b = some o ∧ H' b = none := by
          intro b hb o e
          have z := I'.pin (b, o) (List.mem_append_right _ (List.mem_append_right _ (mem_pinsAt hb e)))
          exact ⟨z.1, z.2.1⟩
        refine ⟨m', hm, i + 1, H', (I'.unpinned (pins := [])).weak hl hk, ?_, fun b hb => ?_, w'⟩
        · exact T.keep _ _ _ st7 fun b hb o e => (stay b hb o e).1
        · obtain ⟨o, e, _⟩ := T.obj _ _ st7 b hb
          exact (stay b hb o e).2
      match b, q9 with
      | false, q9 => exact back I9 l8 k8 q9
      | true, q9 =>
        refine thnF (pi1.run _ s9 σ8 H9 _ I9 q9) fun xv s10 hx => thnF hx fun jv s11 h11 => ?_
        obtain ⟨jt, fq, tq, J1, H11, e1, I11, T1, st11, f11, W1, ⟨m1, w1⟩, turn1⟩ := h11
        subst e1
        have k9 : ∀ (j : Nat) v, σw[j]? = some (some v) → (wipe σ8 vs1)[j]? = some (some v) := fun j v e => by
          rw [← hw8] at e
          obtain ⟨e1, e2⟩ := wipe_some e
          rw [wipe_out fun z => e2 (hv j z)]
          exact e1
        have at1 : ∀ {H' : Hp}, (∀ b ∈ fq, H' b = none) → ∀ b ∈ fq, FpOk (X.blk sc Hc sco en fp) ([] ++ pinsAt fp s7.heap) H' b := fun hn b hb => ⟨hn b hb, (f11 b hb).2⟩
        have inner : codeAny (model X.prog X.w) X.A (.compLoop (sc2 elt t0 i0 t1 i1 f0 f1 sco pos) 1 (.ref jt) (.ref D) en) (fun r s' => match r with
              | .ok _ => ∃ m, m < n ∧ ∃ i H', Inv (X.blk sc Hc sco en fp) [] σw H' s' ∧ tn i s'.heap ∧ (∀ b ∈ fp, H' b = none) ∧ W i m H'
              | .error _ => False) s11 := by
          refine sc2_loop1 (fun k s' => ∃ j H', Inv (X.blk sc Hc sco en fp) ([] ++ pinsAt fp s7.heap) (wipe σ8 vs1) H' s' ∧ tq j s'.heap ∧ (∀ b ∈ fq, H' b = none) ∧ W1 j k H') ?_ m1 ⟨0, H11, I11.weak (wipe_length _ _) (fun j v e => (wipe_some e).1), st11, fun b hb => (f11 b hb).1, w1⟩
          rintro k s12 ⟨j, H12, I12, st12, n12, w12⟩
          rcases turn1 j k H12 w12 with ⟨stop1, nx1⟩ | ⟨go1, M1, hM1, step1⟩
          · refine thnF (T1.done (X.blk sc Hc sco en fp) rfl rfl rfl hc j _ s12 (wipe σ8 vs1) H12 (fun _ _ => False) I12 (at1 n12) st12 stop1) fun r s13 ⟨hr, I13⟩ => ?_
            subst hr
            exact back I13 (l8.trans (wipe_length σ8 vs1).symm) k9 nx1
          · refine thnF (T1.item (X.blk sc Hc sco en fp) rfl rfl rfl hc j _ s12 (wipe σ8 vs1) H12 (fun _ _ => False) I12 (at1 n12) st12 go1) fun r s13 ⟨u1, hr, h13⟩ => ?_
            subst hr
            refine thnF h13 fun _ s14 ⟨x1, H14, I14, r14, y14, st14, n14⟩ => ?_
            refine thnF (pg1.run _ s14 (wipe σ8 vs1) H14 x1 u1 _ (I14.pinned (at1 n14) (T1.obj _ _ st14)) r14 (step1 x1 H14 y14)) fun _ s15 ⟨σ15, H15, I15, hw15, q15⟩ => ?_
            refine thnF (pt1.run _ s15 σ15 H15 _ I15 q15) fun b1 s16 ⟨H16, I16, q16⟩ => ?_
            have back1 : ∀ {s' : Shared} {H' : Hp}, Inv (X.blk sc Hc sco en fp) (([] ++ pinsAt fp s7.heap) ++ pinsAt fq s14.heap) σ15 H' s' → M1 H' → ∃ m, m < k ∧ ∃ j H', Inv (X.blk sc Hc sco en fp) ([] ++ pinsAt fp s7.heap) (wipe σ8 vs1) H' s' ∧ tq j s'.heap ∧ (∀ b ∈ fq, H' b = none) ∧ W1 j m H' := by
              intro s' H' I' nx
              obtain ⟨m', hm, w'⟩ := hM1 H' nx
              have stay : ∀ b ∈ fq, ∀ o, s14.heap.get? b = some o → s'.heap.get? b = some o ∧ H' b = none := by
                intro b hb o e
                have z := I'.pin (b, o) (List.mem_append_right _ (List.mem_append_right _ (mem_pinsAt hb e)))
                exact ⟨z.1, z.2.1⟩
              refine ⟨m', hm, j + 1, H', I'.unpinned.weak (by rw [← hw15, wipe_length]) (fun j v e => by rw [← hw15] at e; exact (wipe_some e).1), ?_, fun b hb => ?_, w'⟩
              · exact T1.keep _ _ _ st14 fun b hb o e => (stay b hb o e).1
              · obtain ⟨o, e, _⟩ := T1.obj _ _ st14 b hb
                exact (stay b hb o e).2
            match b1, q16 with
            | false, q16 => exact back1 I16 q16
            | true, q16 =>
              refine thnF (pe.run _ s16 σ15 H16 _ I16 q16) fun z s17 ⟨yv, H17, I17, r17, cv, S0, n0, ey, hD17, hz17, nx⟩ => ?_
              subst ey
              have add := mt_sadd (X := X.blk sc Hc sco en fp) _ s17 σ15 H17 (.ref D) [.int cv] (.ref D) [z] (fun v H' => v = .non ∧ M1 H') I17 rfl (.cons r17 .nil) ⟨D, cv, S0, n0, rfl, rfl, hD17, hz17, rfl, nx⟩
              exact thnF add fun v s18 ⟨v', H18, I18, _, _, nx18⟩ => back1 I18 nx18
        exact sc2_start1 inner (T1.self X.A 0 _ _ _ st11 inner)
  exact PpSet.codeAny_compStart_set main (T.self X.A 0 _ _ _ std main)
end
end Wd
/-! set(xs) of a list of whole numbers. -/
namespace Wd
open PySem PySem.Spec PyProof.Rows L2
/-- a set that has just been made -/
abbrev setFresh (w : World) : Obj := { cls := .type "set", dict := none, data := .set #[] 0 (.fresh 0 0 (!w.params.followText "set-order")) }
section
variable {P : Program} {w : World} {A : Around} {E : Value → Shared → Prop} {s : Shared}
/-- what set(xs) leaves: the set of the numbers, at a new place -/
def SetMade (w : World) (s : Shared) (ns : List Int) (Q : Value → Shared → Prop) : Prop := ∀ (h' : Heap) (tk c : Nat), SetR w h' s.heap.objs.size (fun j => decide (j ∈ ns)) c → c ≤ ns.length → (∀ b o, s.heap.get? b = some o → h'.get? b = some o) → Q (.ref s.heap.objs.size) { s with heap := h', toks := tk }
/-- the filling of the new set -/
def SetFilled (w : World) (s : Shared) (ns : List Int) (r : Value) (s₂ : Shared) : Prop := r = .none ∧ ∃ h' tk c, s₂ = { s with heap := h', toks := tk } ∧ SetR w h' s.heap.objs.size (fun j => decide (j ∈ ns)) c ∧ c ≤ ns.length ∧ (∀ b o, s.heap.get? b = some o → h'.get? b = some o)
set_option maxHeartbeats 3200000 in
theorem set_filled {l : Addr} {items : Array Value} (ns : List Int) (hh : A.handled = none) (hl : s.heap.IsList l items) (hit : IntsAre items.toList ns) (hb : ns.length + 1 < scanBound) :
    wpAny (model P w) A.in1.in1 (Builtin.«set.__init__» ⟨[.ref s.heap.objs.size, .ref l], []⟩) (fun f s₂ => match f with
      | .done f => wants (SetFilled w s ns) E (.ok f) s₂
      | .again c' => c'.quiet = true ∧ codeAny (model P w) A.in1 c' (wants (SetFilled w s ns) E) s₂) (fun e s₂ => wants (SetFilled w s ns) E (.error e) s₂) { s with heap := s.heap.push (setFresh w) } := by
  have cnt : items.size = ns.length := by
    have q := IntsAre.length hit
    rw [Array.length_toList] at q
    exact q
  obtain ⟨ob, hob, hcl, nl, hdl⟩ := hl
  obtain ⟨obc, obd, obx, obs⟩ := ob
  simp only at hcl hdl
  subst hcl hdl
  have lS : l < s.heap.objs.size := Heap.lt_size hob
  generalize hh1 : s.heap.push (setFresh w) = h1
  have atN : h1.get? s.heap.objs.size = some (setFresh w) := by rw [← hh1]; exact Heap.get?_push_size _ rfl
  have old1 : ∀ b o, s.heap.get? b = some o → h1.get? b = some o := fun b o e => by rw [← hh1]; exact Heap.get?_push_of_some _ e
  have sz1 : h1.objs.size = s.heap.objs.size + 1 := by rw [← hh1]; exact Heap.size_push ..
  have q1 := F.sub_list_set
  have q2 := F.sub_list_frozenset
  have q3 : (Value.type "list" == Value.type "dict") = false := by decide
  have hob1 := old1 _ _ hob
  have lst1 : h1.IsList l items := ⟨_, hob1, rfl, nl, rfl⟩
  unfold Builtin.«set.__init__» noKeywords Builtin.Frozenset.updateFrom
  generalize hPI : pyIter = PI
  wp_walk
  subst hPI
  refine wpAny_pyIter_list lst1 (wpAny_bind (wpAny_runValue ?_))
  have un : A.in1.in1.in1.handled = none := by simp [hh]
  have nI : l ≠ h1.objs.size := by rw [sz1]; exact Nat.ne_of_lt (Nat.lt_succ_of_lt lS)
  have notin : s.heap.objs.size ∉ [h1.objs.size, l] := by
    rw [sz1]
    simp only [List.mem_cons, List.not_mem_nil, or_false, not_or]
    exact ⟨Nat.ne_of_lt (Nat.lt_succ_self _), Nat.ne_of_gt lS⟩
  refine set_update_ints ((Walks.list un _ l nI items).toS) s.heap.objs.size notin ns cnt hb (fun i v hv => ?_) (items.size - 0) 0 _ (by omega) (Nat.zero_le _) ⟨⟨_, Heap.get?_push_size _ rfl, rfl, rfl⟩, lst1.push _⟩ ⟨0, Nat.le_refl 0, setR_new_at (Heap.get?_push_of_some _ atN)⟩ fun s' c mv cle R => ?_
  · have hi : i < ns.length := by rw [← cnt]; exact (Array.getElem?_eq_some_iff.mp hv).1
    obtain ⟨t, e⟩ := PyProof.Rows.IntsAre.int_at hit i v (by rw [Array.getElem?_toList]; exact hv)
    refine ⟨ns[i], t, List.getElem?_eq_getElem hi, ?_⟩
    rw [e, List.getD_eq_getElem?_getD, List.getElem?_eq_getElem hi] <;> rfl
  · obtain ⟨g1, g2, g3, g4, g5⟩ := s'
    obtain rfl : g2 = s.gens := mv.gens
    obtain rfl : g3 = s.drawn := mv.drawn
    obtain rfl : g5 = s.os := mv.os
    refine wpAny_pure ?_
    show wpAny _ _ (ret Value.none) _ _ _
    rw [cnt] at cle
    refine wpAny_pure ⟨rfl, g1, g4, c, rfl, R, cle, fun b o e => ?_⟩
    have lb := Heap.lt_size e
    refine mv.heap b o ?_ (Heap.get?_push_of_some _ (old1 b o e))
    rw [sz1]
    simp only [List.mem_cons, List.not_mem_nil, or_false, not_or]
    exact ⟨Nat.ne_of_lt lb, Nat.ne_of_lt (Nat.lt_succ_of_lt lb)⟩
set_option maxHeartbeats 3200000 in
theorem set_of_list {l : Addr} {items : Array Value} (ns : List Int) {Q : Value → Shared → Prop} (hh : A.handled = none) (hl : s.heap.IsList l items) (hit : IntsAre items.toList ns) (hb : ns.length + 1 < scanBound) (h : SetMade w s ns Q) :
    wpAny (model P w) A (call (.type "set") [.ref l]) Q E s := by
  have C := F.called_set
  obtain ⟨m0, ml, mro⟩ := C.mro
  have e1 := C.made
  have e2 := C.sub
  have e3 := C.notType
  have e4 := C.canCreate
  have e5 := F.typeCall_set_1 (.ref l)
  refine wpAny_call (codeAny_of_tree ?_)
  show wpAny _ _ (callAny (.type "set") _) _ _ _
  refine wpAny_pure ⟨Code.quiet_builtin _ (by decide +kernel), codeAny_builtin F.entry_type_call ?_⟩
  rw [Around.under_plain (weight_type_call_type "set" [.ref l] []) rfl]
  repeat (any_goals (first | assumption | wp_step))
  refine codeAny_mono (code_set_led1 (.ref l) (E := E) (Q₁ := fun ob s₁ => ob = .ref s.heap.objs.size ∧ s₁ = { s with heap := s.heap.push (setFresh w) }) ⟨rfl, rfl⟩) fun r s₁ hr => ?_
  match r, hr with
  | .error _, hr => exact hr
  | .ok (.ret ob), hr =>
    obtain ⟨rfl, rfl⟩ := hr
    have tyN : Shared.TypeIs { s with heap := s.heap.push (setFresh w) } (.ref s.heap.objs.size) "set" := ⟨_, Heap.get?_push_size _ rfl, rfl⟩
    have i1 := C.init.lookup
    have i2 := C.init.bind (.ref s.heap.objs.size)
    repeat (any_goals (first | assumption | wp_step))
    refine codeAny_mono (codeAny_call_builtin (R := wants (SetFilled w s ns) E) C.init.plain F.entry_set_init (check_set_init_1 tyN ?_)) fun r₂ s₂ hr₂ => ?_
    · exact set_filled ns hh hl hit hb
    · match r₂, hr₂ with
      | .error _, hr₂ => exact hr₂
      | .ok (.ret _), hr₂ =>
        obtain ⟨rfl, h', tk, c, rfl, R, cle, old⟩ := hr₂
        repeat (any_goals (first | assumption | wp_step))
        exact h _ _ _ R cle old
end
/-- set(xs), xs a list of whole numbers -/
def rSetOf (K : PySem.W.Frag) (w : World) : List V → Hp → VK → Prop := fun vs H Q => ∃ (a : Addr) (ns : List Int), vs = [.ref a] ∧ SqL K H a (ns.map V.int) ∧ ns.length ≤ 1000 ∧ ∀ p c (es : List Int), H p = none → es.Nodup → (∀ k, k ∈ es ↔ k ∈ ns) → es.length = c → Q (.ref p) (upd H p (SetO w p (fun j => decide (j ∈ ns)) c))
theorem cr_setOf {X : Cx} (hc : X.calm = true) : CallR X (.type "set") (rSetOf X.K X.w) := by
  intro pins s σ H vs us Q I r h
  obtain ⟨a, ns, rfl, hs, hl, q⟩ := h
  obtain ⟨its, rv, hi, _⟩ := I.list hs
  rw [Vals.ref1 r]
  refine set_of_list ns (I.ok.hd hc) hi.isList rv.ints (by unfold scanBound; omega) fun h' tk c R cle old => ?_
  refine ⟨.ref _, upd H s.heap.objs.size (SetO X.w s.heap.objs.size (fun j => decide (j ∈ ns)) c), I.laid (t' := tk) old (Nat.le_refl _) (setO_new R), rfl, ?_⟩
  obtain ⟨o, es, ep, t, _, _, _, _, nd, hm, _, _, hn, _⟩ := R
  refine q _ c (es.toList.map keyOf) (I.hok.fresh (Nat.le_refl _)) nd (fun k => ?_) (by rw [List.length_map, Array.length_toList]; exact hn)
  rw [← hm k, decide_eq_true_iff]
/-- a for over range(lo, n) -/
theorem w_range2 {σ : L2.St} {H : Hp} {a : L2.St → Hp → Prop} {b : VK} {g : TG} {tb : TS} {lo n : Int} (h1 : -(2 ^ 62) ≤ lo ∧ lo < 2 ^ 62 ∧ -(2 ^ 62) ≤ n ∧ n < 2 ^ 62) (Pv : Nat → L2.St → Hp → Prop) (h0 : Pv 0 σ H)
    (hs : ∀ i σ H, i < (n - lo).toNat → Pv i σ H → g (.int (lo + i)) σ H fun σ2 H2 => tb ⟨Pv (i + 1), b, a, Pv (i + 1)⟩ σ2 H2) (hd : ∀ σ H, Pv (n - lo).toNat σ H → a σ H) :
    ∃ i j : Int, [V.int lo, .int n] = [.int i, .int j] ∧ (-(2 ^ 62) ≤ i ∧ i < 2 ^ 62 ∧ -(2 ^ 62) ≤ j ∧ j < 2 ^ 62) ∧ ForEnd g tb a b σ (Itr i (j - i).toNat) H :=
  ⟨lo, n, rfl, h1, for_range (D := ⟨a, b, fun _ _ => False, fun _ _ => False⟩) Pv h0 hs hd⟩
end Wd
/-! Dicts whose keys are tuples of numbers, truths, texts and such tuples. -/
namespace Wd
open PySem PySem.Spec PyProof.Rows L2
mutual
/-- v is the key k -/
inductive NestV (H : Hp) : NestedKey → V → Prop
  | non : NestV H .none .non
  | int (i : Int) : NestV H (.num i) (.int i)
  | bl (b : Bool) : NestV H (.num (if b = true then 1 else 0)) (.bl b)
  | str (x : Str) : NestV H (.text x) (.str x)
  | tup {a : Addr} {vs : List V} {ks : List NestedKey} : H a = some (.tup vs) → NestVs H ks vs → NestV H (.tup ks) (.ref a)
inductive NestVs (H : Hp) : List NestedKey → List V → Prop
  | nil : NestVs H [] []
  | cons {k : NestedKey} {v : V} {ks : List NestedKey} {vs : List V} : NestV H k v → NestVs H ks vs → NestVs H (k :: ks) (v :: vs)
end
mutual
theorem NestV.keep {H H' : Hp} (e : ∀ b xs, H b = some (.tup xs) → H' b = some (.tup xs)) : ∀ (k : NestedKey) (v : V), NestV H k v → NestV H' k v
  | .none, _, h => by cases h; exact .non
  | .num i, _, h => by
    cases h with
    | int => exact .int i
    | bl b => exact .bl b
  | .text x, _, h => by cases h; exact .str x
  | .tup ks, _, h => by cases h with | tup h1 h2 => exact .tup (e _ _ h1) (NestVs.keep e ks _ h2)
theorem NestVs.keep {H H' : Hp} (e : ∀ b xs, H b = some (.tup xs) → H' b = some (.tup xs)) : ∀ (ks : List NestedKey) (vs : List V), NestVs H ks vs → NestVs H' ks vs
  | [], _, h => by cases h; exact .nil
  | k :: ks, _, h => by cases h with | cons h1 h2 => exact .cons (NestV.keep e k _ h1) (NestVs.keep e ks _ h2)
end
theorem NestV.same {H H' : Hp} (e : Same H H') {k : NestedKey} {v : V} (h : NestV H k v) : NestV H' k v := NestV.keep (fun b xs h => e _ _ h) k v h
section
variable {X : Cx} {pins : List (Addr × Obj)} {σ : L2.St} {H : Hp} {s : Shared}
mutual
theorem nest_is (I : Inv X pins σ H s) : ∀ (k : NestedKey) (v : V) (u : Value), NestV H k v → RelV v u → NestedIs s.heap k u
  | .none, _, u, h, r => by
    cases h
    obtain rfl : u = .none := r
    exact .none
  | .num i, _, u, h, r => by
    cases h with
    | int =>
      obtain ⟨t, rfl⟩ := r
      exact .int i t
    | bl b =>
      obtain rfl : u = .bool b := r
      exact .bool rfl
  | .text x, _, u, h, r => by
    cases h
    obtain ⟨t, rfl⟩ := r
    exact .text x t
  | .tup ks, _, u, h, r => by
    cases h with
    | @tup a vs _ h1 h2 =>
      obtain rfl : u = .ref a := r
      obtain ⟨its, rv, ⟨o, ho, hc, n, hd⟩, hz⟩ := I.tuple (SqT.of h1)
      exact .tup ho hc hd (nest_all I ks vs its h2 rv)
theorem nest_all (I : Inv X pins σ H s) : ∀ (ks : List NestedKey) (vs : List V) (us : List Value), NestVs H ks vs → Vals vs us → NestedAll s.heap ks us
  | [], _, us, h, r => by
    cases h
    cases r
    exact .nil
  | k :: ks, _, us, h, r => by
    cases h with
    | cons h1 h2 =>
      cases r with
      | cons r1 r2 => exact .cons (nest_is I k _ _ h1 r1) (nest_all I ks _ _ h2 r2)
end
end
/-- keys, where they stand, and values -/
abbrev NKV := NestedKey × Addr × V
abbrev NPair (xs : List NKV) (ws : List (NestedKey × Addr × Value)) : Prop := Paired (fun x y => x.1 = y.1 ∧ x.2.1 = y.2.1 ∧ RelV x.2.2 y.2.2) xs ws
def DNat (P : Program) (w : World) (h : Heap) (d : Addr) (xs : List NKV) : Prop := (d == sysModules) = false ∧ xs.length ≤ sizeLine ∧ (xs.map (·.1)).Nodup ∧
  ∃ ws, NPair xs ws ∧ ∃ o es ep, h.get? d = some o ∧ o.ExactDict ∧ o.data = .dict es ep ∧ es.toList = ws.map (entryOfKey (nestedKind P w))
/-- the dict at d -/
def DNO (P : Program) (w : World) (d : Addr) (xs : List NKV) : HO := .ext fun h => DNat P w h d xs
/-- the keys stand where they are said to -/
def NKeys (H : Hp) (xs : List NKV) : Prop := ∀ x ∈ xs, NestV H x.1 (.ref x.2.1) ∧ x.1.depth ≤ 8
theorem NKeys.keep {H H' : Hp} {xs : List NKV} (n : NKeys H xs) (e : ∀ b xs, H b = some (.tup xs) → H' b = some (.tup xs)) : NKeys H' xs := fun x hx => ⟨NestV.keep e _ _ (n x hx).1, (n x hx).2⟩
theorem NKeys.same {H H' : Hp} {xs : List NKV} (n : NKeys H xs) (e : Same H H') : NKeys H' xs := n.keep fun b xs h => e _ _ h
def hasN (xs : List NKV) (k : NestedKey) : Bool := xs.any fun x => decide (x.1 = k)
def valN (xs : List NKV) (k : NestedKey) : Option V := (xs.find? fun x => decide (x.1 = k)).map (·.2.2)
theorem npair_keys : ∀ {xs : List NKV} {ws : List (NestedKey × Addr × Value)}, NPair xs ws → ws.map (·.1) = xs.map (·.1)
  | [], _, .nil => rfl
  | _ :: _, _ :: _, .cons h t => by rw [List.map_cons, List.map_cons, npair_keys t, h.1]
theorem npair_at : ∀ {xs : List NKV} {ws : List (NestedKey × Addr × Value)} (k : NestedKey), NPair xs ws → (atKey ws k).isSome = hasN xs k ∧ ∀ v, valN xs k = some v → ∃ p, atKey ws k = some p ∧ RelV v p.2
  | [], _, k, .nil => ⟨rfl, fun v h => nomatch h⟩
  | x :: xs, y :: ws, k, .cons h t => by
    obtain ⟨i1, i2⟩ := npair_at k t
    by_cases e : x.1 = k
    · have e2 : y.1 = k := h.1 ▸ e
      refine ⟨?_, fun v hv => ?_⟩
      · simp [atKey, hasN, e, e2]
      · have : valN (x :: xs) k = some x.2.2 := by simp [valN, e]
        rw [this] at hv
        cases hv
        exact ⟨y.2, by simp [atKey, e2], h.2.2⟩
    · have e2 : ¬ y.1 = k := h.1 ▸ e
      have a1 : atKey (y :: ws) k = atKey ws k := by simp [atKey, e2]
      have a2 : hasN (x :: xs) k = hasN xs k := by simp [hasN, e]
      have a3 : valN (x :: xs) k = valN xs k := by simp [valN, e]
      rw [a1, a2, a3]
      exact ⟨i1, i2⟩
theorem npair_mem : ∀ {xs : List NKV} {ws : List (NestedKey × Addr × Value)} {y : NestedKey × Addr × Value}, NPair xs ws → y ∈ ws → ∃ x ∈ xs, x.1 = y.1 ∧ x.2.1 = y.2.1
  | [], _, _, .nil, h => nomatch h
  | x :: xs, z :: ws, y, .cons h t, hy => by
    rcases List.mem_cons.mp hy with rfl | hy
    · exact ⟨x, List.mem_cons_self, h.1, h.2.1⟩
    · obtain ⟨x', hx, e⟩ := npair_mem t hy
      exact ⟨x', List.mem_cons_of_mem _ hx, e⟩
theorem npair_snoc : ∀ {xs : List NKV} {ws : List (NestedKey × Addr × Value)} {x : NKV} {y : NestedKey × Addr × Value}, NPair xs ws → (x.1 = y.1 ∧ x.2.1 = y.2.1 ∧ RelV x.2.2 y.2.2) → NPair (xs ++ [x]) (ws ++ [y])
  | _, _, _, _, .nil, h => .cons h .nil
  | _, _, _, _, .cons a b, h => .cons a (npair_snoc b h)
section
variable {X : Cx} {pins : List (Addr × Obj)} {σ : L2.St} {H : Hp} {s : Shared} {d : Addr} {xs : List NKV}
theorem dn_of (I : Inv X pins σ H s) (h : H d = some (DNO X.prog X.w d xs)) (nk : NKeys H xs) : (d == sysModules) = false ∧ xs.length ≤ sizeLine ∧ ∃ ws, NPair xs ws ∧ s.heap.DictOfH (nestedKind X.prog X.w) d ws := by
  obtain ⟨⟨h1, h2, h3, ws, hp, o, es, ep, ho, hx, hd, he⟩, _⟩ := I.hok d _ h
  refine ⟨h1, h2, ws, hp, o, es, ep, ho, hx, hd, he, fun y hy => ?_, by rw [npair_keys hp]; exact h3⟩
  obtain ⟨x, hx, e1, e2⟩ := npair_mem hp hy
  rw [← e1, ← e2]
  exact ⟨nest_is I _ _ _ (nk x hx).1 rfl, (nk x hx).2⟩
theorem dn_new {P : Program} {w : World} {H : Hp} {h : Heap} (n : DNat P w h d xs) : ObjOk P w H h d (DNO P w d xs) := by
  have ⟨_, _, _, _, _, o, _, _, ho, _⟩ := n
  refine ⟨n, ⟨o, ho⟩, fun h1 h2 ⟨a1, a2, a3, ws, a4, o, es, ep, b1, b2⟩ k => ⟨a1, a2, a3, ws, a4, o, es, ep, k _ b1, b2⟩⟩
theorem dn_empty {P : Program} {w : World} {h : Heap} (hb : sysModules < h.objs.size) : DNat P w (h.push { cls := .type "dict", data := .dict #[] }) h.objs.size [] :=
  ⟨beq_eq_false_iff_ne.mpr (Nat.ne_of_gt hb), Nat.zero_le _, List.nodup_nil, [], .nil, _, #[], _, Heap.get?_push_size _ rfl, ⟨rfl, rfl, rfl⟩, rfl, rfl⟩
end
/-- k in d, k not in d -/
def rNIn (P : Program) (w : World) (nin : Bool) : R2 := fun x y H Q => ∃ (k : NestedKey) (a d : Addr) (xs : List NKV), x = .ref a ∧ y = .ref d ∧ H d = some (DNO P w d xs) ∧ NKeys H xs ∧ NestV H k (.ref a) ∧ k.depth ≤ 8 ∧ Q (.bl (nin != hasN xs k)) H
def tNGet (P : Program) (w : World) (td ty : TE) : TE := fun σ H Q => td σ H fun x H1 => ty σ H1 fun y H2 => ∃ (k : NestedKey) (a d : Addr) (xs : List NKV) (v : V), y = .ref a ∧ x = .ref d ∧ H2 d = some (DNO P w d xs) ∧ NKeys H2 xs ∧ NestV H2 k (.ref a) ∧ k.depth ≤ 8 ∧ valN xs k = some v ∧ Q v H2
/-- d[k] = v, k new -/
def sNPut (P : Program) (w : World) (td ty tv : TE) : TS := fun D σ H => tv σ H fun v H1 => td σ H1 fun x H2 => ty σ H2 fun y H3 => ∃ (k : NestedKey) (a d : Addr) (xs : List NKV), y = .ref a ∧ x = .ref d ∧ H3 d = some (DNO P w d xs) ∧ NKeys H3 xs ∧ NestV H3 k (.ref a) ∧ k.depth ≤ 8 ∧ hasN xs k = false ∧ xs.length < sizeLine ∧
  D.nx σ (upd H3 d (DNO P w d (xs ++ [(k, a, v)])))
def tNNew (P : Program) (w : World) : TE := fun _ H Q => ∀ d, H d = none → Q (.ref d) (upd H d (DNO P w d []))
/-- {k: v} -/
def tNDisp (P : Program) (w : World) (tk tv : TE) : TE := fun σ H Q => ∀ d, H d = none → tk σ (upd H d (DNO P w d [])) fun x H1 => tv σ H1 fun v H2 => ∃ (k : NestedKey) (a : Addr), x = .ref a ∧ H2 d = some (DNO P w d []) ∧ NestV H2 k (.ref a) ∧ k.depth ≤ 8 ∧ Q (.ref d) (upd H2 d (DNO P w d [(k, a, v)]))
section
variable {X : Cx} {o i e value kx vx : Expr} {pos pos' : Pos} {td ty tv tk : TE}
theorem op_nin (hu : X.A.units + 64 < cLine) : OpR X (compareOp .In) (rNIn X.prog X.w false) := by
  intro pins s σ H x y v u Q I rx ry h
  obtain ⟨k, a, d, xs, rfl, rfl, hd, nk, nv, dk, q⟩ := h
  obtain rfl : v = Value.ref a := rx
  obtain rfl : u = Value.ref d := ry
  obtain ⟨h1, h2, ws, hp, hD⟩ := dn_of I hd nk
  refine wpAny_in_heap (knd := nestedKind X.prog X.w) (show X.A.in1.units + 8 < cLine by show X.A.units + 1 + 8 < cLine; omega) ⟨nest_is I _ _ _ nv rfl, dk⟩ h1 hD ?_
  rw [(npair_at k hp).1]
  exact ⟨.bl (hasN xs k), H, I.tok _, rfl, by rw [Bool.false_bne] at q; exact q⟩
theorem op_nnotin (hu : X.A.units + 64 < cLine) : OpR X (compareOp .NotIn) (rNIn X.prog X.w true) := by
  intro pins s σ H x y v u Q I rx ry h
  obtain ⟨k, a, d, xs, rfl, rfl, hd, nk, nv, dk, q⟩ := h
  obtain rfl : v = Value.ref a := rx
  obtain rfl : u = Value.ref d := ry
  obtain ⟨h1, h2, ws, hp, hD⟩ := dn_of I hd nk
  show wpAny _ _ (do return Value.bool (!(← contains (.ref d) (.ref a)))) _ _ s
  refine wpAny_bind (wpAny_contains_heap (knd := nestedKind X.prog X.w) (show X.A.in1.units + 8 < cLine by show X.A.units + 1 + 8 < cLine; omega) ⟨nest_is I _ _ _ nv rfl, dk⟩ h1 hD (wpAny_pure ?_))
  rw [(npair_at k hp).1]
  exact ⟨.bl (!hasN xs k), H, I.tok _, rfl, by rw [Bool.true_bne] at q; exact q⟩
theorem pe_nget (hu : X.A.units + 64 < cLine) (ho : PE X o td) (hi : PE X i ty) (hs : NoSl i) : PE X (.Subscript o i pos) (tNGet X.prog X.w td ty) := by
  refine ⟨fun pins s σ H Q I h => ?_⟩
  refine subD_of PySem.F.slot_dict_getitem.lookup hs (thn (ho.run pins s σ H _ I h) fun u s1 ⟨x, H1, I1, rx, q1⟩ => thn (hi.run pins s1 σ H1 _ I1 q1) fun iv s2 ⟨y, H2, I2, ry, k, a, d, xs, v, ea, ed, hd, nk, nv, dk, hv, q2⟩ => ?_)
  subst ea ed
  obtain rfl : u = Value.ref d := rx
  obtain rfl : iv = Value.ref a := ry
  obtain ⟨h1, h2, ws, hp, hD⟩ := dn_of I2 hd nk
  obtain ⟨p, hpa, rv⟩ := (npair_at k hp).2 v hv
  exact ⟨hD.typeIs, wpAny_getItem_heap (knd := nestedKind X.prog X.w) (show X.A.in1.units + 8 < cLine by show X.A.units + 1 + 8 < cLine; omega) ⟨nest_is I2 _ _ _ nv rfl, dk⟩ hD hpa ⟨v, H2, I2.tok _, rv, q2⟩⟩
theorem nodup_put {xs : List NKV} {k : NestedKey} {a : Addr} {v : V} (h : (xs.map (·.1)).Nodup) (n : hasN xs k = false) : ((xs ++ [(k, a, v)]).map (·.1)).Nodup := by
  rw [List.map_append]
  refine List.nodup_append.mpr ⟨h, by simp, fun x hx y hy => ?_⟩
  simp only [List.map_cons, List.map_nil, List.mem_singleton] at hy
  subst hy
  intro e
  obtain ⟨z, hz, rfl⟩ := List.mem_map.mp hx
  have := List.any_eq_false.mp n z hz
  simp [e] at this
theorem ps_nput (hu : X.A.units + 64 < cLine) (ho : PE X o td) (hi : PE X i ty) (hv : PE X value tv) (hs : swapsWith value (some (.Subscript o i pos')) pos.line X.env = pure false) :
    PS X (.Assign [.Subscript o i pos'] value pos) (sNPut X.prog X.w td ty tv) := by
  refine ⟨fun pins s σ H D I h => ?_⟩
  refine wpAny_Assign_Subscript (thn (hv.run pins s σ H _ I h) fun r s1 ⟨v, H1, I1, rv, q1⟩ => thn (ho.run pins s1 σ H1 _ I1 q1) fun u s2 ⟨x, H2, I2, rx, q2⟩ => thn (hi.run pins s2 σ H2 _ I2 q2) fun iv s3 ⟨y, H3, I3, ry, k, a, d, xs, ea, ed, hd, nk, nv, dk, hn, hl, q3⟩ => ?_) hs
  subst ea ed
  obtain rfl : u = Value.ref d := rx
  obtain rfl : iv = Value.ref a := ry
  obtain ⟨h1, h2, ws, hp, hD⟩ := dn_of I3 hd nk
  have hnd : (xs.map (·.1)).Nodup := (I3.hok d _ hd).1.2.2.1
  have hk0 : atKey ws k = none := by
    have := (npair_at k hp).1
    rw [hn] at this
    exact Option.not_isSome_iff_eq_none.mp (by rw [this]; decide)
  refine wpAny_setItem_heap (hsz := by rw [← Paired.length hp]; exact h2) (knd := nestedKind X.prog X.w) (show X.A.in1.units + 8 < cLine by show X.A.units + 1 + 8 < cLine; omega) ⟨nest_is I3 _ _ _ nv rfl, dk⟩ hD fun h' dd' hs' => ?_
  rw [storedH_new hk0] at dd'
  obtain ⟨ob, es, ep, b1, b2, b3, b4, _, _⟩ := dd'
  refine ⟨σ, _, I3.write (e := d) (by rw [hd]; trivial) (.inl rfl) (fun b u hb z => (hs'.2 b hb).trans z) ⟨ob, b1⟩ (dn_new ⟨h1, ?_, nodup_put hnd hn, ws ++ [(k, a, r)], npair_snoc hp ⟨rfl, rfl, rv⟩, ob, es, ep, b1, b2, b3, b4⟩), q3⟩
  rw [List.length_append, List.length_singleton]
  exact hl
theorem pe_nnew : PE X (.Dict [] [] pos) (tNNew X.prog X.w) := ⟨fun pins s σ H Q I h =>
  wpAny_Dict_empty ⟨.ref s.heap.objs.size, _, I.laid (a := s.heap.objs.size) (o := DNO X.prog X.w s.heap.objs.size []) (t' := s.toks) (fun _ _ q => Heap.get?_push_of_some _ q) (Nat.le_refl _) (dn_new (dn_empty I.big)), rfl, h _ (I.hok.fresh (Nat.le_refl _))⟩⟩
theorem pe_ndisp (hu : X.A.units + 64 < cLine) (hk : PE X kx tk) (hv : PE X vx tv) : PE X (.Dict [some kx] [vx] pos) (tNDisp X.prog X.w tk tv) := by
  refine ⟨fun pins s σ H Q I h => ?_⟩
  have hn := I.hok.fresh (Nat.le_refl s.heap.objs.size)
  have I1 := I.laid (a := s.heap.objs.size) (o := DNO X.prog X.w s.heap.objs.size []) (h' := s.heap.push { cls := .type "dict", data := .dict #[] }) (t' := s.toks) (fun _ _ q => Heap.get?_push_of_some _ q) (Nat.le_refl _) (dn_new (dn_empty I.big))
  refine wpAny_Dict_any rfl rfl (fun z => nomatch z) (by show 1 ≤ 15; decide) ?_
  refine pairTrees_cons_walk (thn (hk.run pins _ σ _ _ I1 (h _ hn)) fun u s1 ⟨x, H1, J1, rx, q1⟩ => thn (hv.run pins s1 σ H1 _ J1 q1) fun r s2 ⟨v, H2, J2, rv, k, a, ea, hd, nv, dk, q2⟩ => ?_)
  subst ea
  obtain rfl : u = Value.ref a := rx
  refine pairTrees_nil_walk ?_
  have nk : NKeys H2 [] := fun _ h => nomatch h
  obtain ⟨h1, h2, ws, hp, hD⟩ := dn_of J2 hd nk
  cases hp
  show wpAny _ _ (storeAll s.heap.objs.size [(Value.ref a, r)]) _ _ s2
  unfold storeAll
  refine wpAny_storeAllH (knd := nestedKind X.prog X.w) (show X.A.units + 8 < cLine by omega) [(Value.ref a, r)] [(k, a, r)] [] s2 _ ⟨rfl, rfl, ⟨nest_is J2 _ _ _ nv rfl, dk⟩, trivial⟩ hD (by rw [sizeLine_eq]; show 1 ≤ 16777216; decide) fun h' tk dd' hs' => ?_
  obtain ⟨ob, es, ep, b1, b2, b3, b4, _, _⟩ := dd'
  refine ⟨.ref s.heap.objs.size, _, J2.write (e := s.heap.objs.size) (by rw [hd]; trivial) (.inl rfl) (fun b u hb z => (hs'.2 b hb).trans z) ⟨ob, b1⟩ (dn_new ⟨h1, by rw [sizeLine_eq]; show 1 ≤ _; decide, by simp, [(k, a, r)], .cons ⟨rfl, rfl, rv⟩ .nil, ob, es, ep, b1, b2, b3, b4⟩), rfl, q2⟩
end
end Wd
/-! max of a tuple of whole numbers; zip of a list and a tuple. -/
namespace Wd
open PySem PySem.Spec PyProof.Rows L2
section
variable {P : Program} {w : World} {A : Around} {E : Value → Shared → Prop} {s : Shared}
theorem max_tupI {l : Addr} {its : List Value} {ns : List Int} {Q : Value → Shared → Prop} (hh : A.handled = none) (hl : s.heap.IsTuple l its.toArray) (hi : IntsAre its ns) (hne : 0 < ns.length)
    (h : ∀ h' tk M t', (∀ b o, s.heap.get? b = some o → h'.get? b = some o) → M ∈ ns → (∀ a, a ∈ ns → a ≤ M) → Q (.int M t') { s with heap := h', toks := tk }) : wpAny (model P w) A (call (.builtin "max") [.ref l]) Q E s := by
  obtain ⟨xs, e⟩ := hi.allInts.items
  have hn : numsOf (intItems xs).toList = ns := by rw [← e]; exact hi.numsOf
  rw [nums_intItems] at hn
  subst hn
  rw [e] at hl
  have pos : 0 < xs.size := by simpa using hne
  have ll : l < s.heap.objs.size := by obtain ⟨_, q, _⟩ := hl; exact Heap.lt_size q
  refine call_max_walk (wpAny_pyIter_tuple hl ?_)
  refine ⟨_, [_, l], [_], _, _, _, _, rfl, Walks.tuple (A := A.in1) hh _ l (Nat.ne_of_lt ll) (intItems xs), ⟨⟨_, Heap.get?_push_size _ rfl, rfl, rfl⟩, hl.push _⟩, fun c hc => ?_, by simpa [intItems] using pos, CmpOf.ints_gt (numAt xs) (fun _ _ => intItems_at), fun v h' tk hP hk => ?_⟩
  · show c < (s.heap.push _).objs.size
    rw [Heap.size_push]
    simp only [List.mem_cons, List.not_mem_nil, or_false] at hc
    rcases hc with q | q
    · rw [q]; exact Nat.lt_succ_self _
    · rw [q]; exact Nat.lt_succ_of_lt ll
  · have old : ∀ b o, s.heap.get? b = some o → h'.get? b = some o := fun b o q => hk b o (fun hm => by
      rw [List.mem_singleton] at hm
      exact Nat.lt_irrefl _ (hm ▸ Heap.lt_size q)) (Heap.get?_push_of_some _ q)
    have hP' : (intItems xs)[argBest (fun i j => decide (numAt xs i > numAt xs j)) (xs.size - 1)]? = some v := by simpa [intItems] using hP
    obtain ⟨t, rfl⟩ := intItems_at hP'
    obtain ⟨g1, g2⟩ := argBest_gt (numAt xs) (xs.size - 1)
    refine h h' tk _ t old ?_ fun a ha => ?_
    · rw [numAt_eq]; exact PySem.getD_mem (by rw [List.length_map, Array.length_toList]; omega)
    · obtain ⟨j, hj, rfl⟩ := mem_getD ha
      rw [List.length_map, Array.length_toList] at hj
      rw [← numAt_eq]; exact g2 j (by omega)
end
/-- max(t), t a tuple of whole numbers -/
def rMaxT (K : PySem.W.Frag) : List V → Hp → VK → Prop := fun vs H Q => ∃ (a : Addr) (ns : List Int), vs = [V.ref a] ∧ SqT K H a (ns.map V.int) ∧ 0 < ns.length ∧ ∀ m, m ∈ ns → (∀ y, y ∈ ns → y ≤ m) → Q (.int m) H
theorem cr_maxT {X : Cx} (hc : X.calm = true) : CallR X (.builtin "max") (rMaxT X.K) := by
  intro pins s σ H vs us Q I r h
  obtain ⟨a, ns, rfl, hs, hne, q⟩ := h
  obtain ⟨its, rv, hl, _⟩ := I.tuple hs
  rw [Vals.ref1 r]
  exact max_tupI (I.ok.hd hc) hl rv.ints hne fun h' tk m t' hk h1 h2 => ⟨.int _, H, I.kept hk, ⟨_, rfl⟩, q m h1 h2⟩

/-! ### zip(list, tuple) -/
abbrev zm1 (h : Heap) (a : Addr) : Heap := h.push { cls := .type "list_iterator", data := .fields #[.ref a, .int 0 0] }
abbrev zm2 (h : Heap) (a b : Addr) : Heap := (zm1 h a).push { cls := .type "tuple_iterator", data := .fields #[.ref b, .int 0 0] }
abbrev zm3 (h : Heap) (a b : Addr) : Heap := (zm2 h a b).push { cls := .type "tuple", data := .seq #[.ref h.objs.size, .ref (zm1 h a).objs.size] }
abbrev zm4 (h : Heap) (a b : Addr) : Heap := (zm3 h a b).push { cls := .type "tuple", data := .seq #[.none, .none] }
abbrev zm5 (h : Heap) (a b : Addr) : Heap := (zm4 h a b).push { cls := .type "zip", data := .fields #[.none, .bool false, .bool false, .ref (zm2 h a b).objs.size, .ref (zm3 h a b).objs.size] }
theorem zm_new (a b : Addr) (xs ys : Array Value) :
    Meets (Builtin.«zip.__new__» ⟨[.type "zip", .ref a, .ref b], []⟩) (fun _ R s => s.heap.IsList a xs ∧ s.heap.IsTuple b ys ∧ R (.ok (.ret (.ref (zm4 s.heap a b).objs.size))) { s with heap := zm5 s.heap a b }) :=
  .of_wp fun prog w A R s h => by
    obtain ⟨hp, g, d, tk, os⟩ := s
    obtain ⟨q1, q2, h⟩ := h
    have e0 := sub_zip
    have i1 : Heap.IsList (Shared.heap ⟨hp, g, d, tk, os⟩) a xs := q1
    have i2 : Heap.IsTuple (Shared.heap ⟨zm1 hp a, g, d, tk, os⟩) b ys := Heap.IsTuple.push q2 _
    wp_walk using wpAny_pyIter_list i1, wpAny_pyIter_tuple i2
    exact ⟨_, rfl, h⟩
theorem zm_draws {prog : Program} {w : World} {A : Around} (hh : A.handled = none) (it l : Addr) (hne : l ≠ it) (items : Array Value) :
    Draws prog w A it [it, l] items.size (fun i v => items[i]? = some v) (fun i h => h.IsTupleIter it l i ∧ h.IsTuple l items) where
  live := fun _ _ st => by obtain ⟨⟨o, ho, _⟩, _⟩ := st; exact ⟨o, ho⟩
  frame := fun _ _ _ st hk => ⟨st.1.at fun o e => hk it (by simp) o e, st.2.at fun o e => hk l (by simp) o e⟩
  item := fun i s Q E hi st hQ => RZ.nextOf_tuple_item st.1 st.2 (x := items[i]) (by simp [hi]) fun h' q1 q2 => hQ _ h' s.toks (by simp [hi]) ⟨q1, st.2.extBut q2.extBut hne⟩ q2
  done := fun s Q E st hE => RZ.nextOf_tuple_end hh st.1 st.2 (by simp) hE
/-- the list at a and the tuple at b as they stand at each turn, the items in new pairs -/
def ItzM (K : PySem.W.Frag) (a b : Addr) : It :=
  ⟨fun i H => ∃ (xs ys : List V) (x y : V), SqL K H a xs ∧ SqT K H b ys ∧ xs[i]? = some x ∧ ys[i]? = some y,
    fun i H v H' => ∃ T x y, v = .ref T ∧ H T = none ∧ H' = upd H T (.tup [x, y]) ∧ (∀ xs, SqL K H a xs → xs[i]? = some x) ∧ ∀ ys, SqT K H b ys → ys[i]? = some y,
    fun i H => ∃ xs ys : List V, SqL K H a xs ∧ SqT K H b ys ∧ xs.length = ys.length ∧ xs.length = i⟩
/-- where the five cells of the zip lie, apart from what is walked -/
structure ZmSep (z TI TO i1 i2 a b : Addr) : Prop where
  d : ZipApart z TI TO i1 i2 a b
  ab1 : i1 ≠ b
  ab2 : i2 ≠ a
theorem ZmSep.two {z TI TO i1 i2 a b : Addr} (S : ZmSep z TI TO i1 i2 a b) : ZipSep2 z TI TO i1 i2 [i1, a] [i2, b] := by
  have D := S.d
  refine ⟨D.TIz, D.TOz, D.TITO, D.TIi1, by simp, ?_, ?_, D.TIi2, by simp, ?_, ?_, ?_, ?_⟩
  · simp only [List.mem_cons, List.not_mem_nil, or_false, not_or]; exact ⟨D.i1z.symm, D.l1z.symm⟩
  · simp only [List.mem_cons, List.not_mem_nil, or_false, not_or]; exact ⟨D.TOi1, D.l1TO.symm⟩
  · simp only [List.mem_cons, List.not_mem_nil, or_false, not_or]; exact ⟨D.i2z.symm, D.l2z.symm⟩
  · simp only [List.mem_cons, List.not_mem_nil, or_false, not_or]; exact ⟨D.TOi2, D.l2TO.symm⟩
  · simp only [List.mem_cons, List.not_mem_nil, or_false, not_or]; exact ⟨D.i12, S.ab1⟩
  · simp only [List.mem_cons, List.not_mem_nil, or_false, not_or]; exact ⟨D.i12.symm, S.ab2⟩
/-- the zip as it stands ahead of its turn i -/
def ZmAt (z TI TO i1 i2 a b : Addr) (i : Nat) (h : Heap) : Prop := IsZip h z TI TO .none ∧ IsTupOf2 h TI (.ref i1) (.ref i2) ∧ (∃ x y, IsTupOf2 h TO x y) ∧ h.IsListIter i1 a i ∧ h.IsTupleIter i2 b i
theorem five {c z TI TO i1 i2 : Addr} (h : c ∈ [z, TI, TO, i1, i2]) : c = z ∨ c = TI ∨ c = TO ∨ c = i1 ∨ c = i2 := by simpa using h
theorem ZmAt.some {z TI TO i1 i2 a b : Addr} {i : Nat} {h : Heap} (st : ZmAt z TI TO i1 i2 a b i h) {c : Addr} (hc : c ∈ [z, TI, TO, i1, i2]) : ∃ o, h.get? c = some o ∧ ∀ v, o.data ≠ .cell v := by
  obtain ⟨q1, q2, ⟨x, y, q3⟩, ⟨o4, q4, _, d4⟩, ⟨o5, q5, _, d5⟩⟩ := st
  rcases five hc with e | e | e | e | e
  · rw [e]; exact ⟨_, q1, fun v z => nomatch z⟩
  · rw [e]; exact ⟨_, q2, fun v z => nomatch z⟩
  · rw [e]; exact ⟨_, q3, fun v z => nomatch z⟩
  · rw [e]; exact ⟨o4, q4, fun v z => by rw [d4] at z; cases z⟩
  · rw [e]; exact ⟨o5, q5, fun v z => by rw [d5] at z; cases z⟩
theorem turn_zm {P : Program} {w : World} {K : PySem.W.Frag} {elts : List Expr} {kk : Nat} {tpos : Pos} {a b z TI TO i1 i2 : Addr} (S : ZmSep z TI TO i1 i2 a b) :
    Turn P w K (.Tuple elts kk tpos) (ItzM K a b) [z, TI, TO, i1, i2] z (ZmAt z TI TO i1 i2 a b) where
  mem := by simp
  obj := fun i h st c hc => st.some hc
  keep := fun i h h' st k => by
    obtain ⟨q1, q2, ⟨x, y, q3⟩, q4, q5⟩ := st
    exact ⟨k z (by simp) _ q1, k TI (by simp) _ q2, ⟨x, y, k TO (by simp) _ q3⟩, q4.at fun o q => k i1 (by simp) o q, q5.at fun o q => k i2 (by simp) o q⟩
  item := by
    intro X hP hw hK hc i pins s σ H E I hf st hg
    subst hP hw hK
    have allLt : ∀ c ∈ [z, TI, TO, i1, i2], c < s.heap.objs.size := fun c hcm => by
      obtain ⟨o, q, _⟩ := st.some hcm
      exact Heap.lt_size q
    obtain ⟨q1, q2, ⟨x0, y0, q3⟩, q4, q5⟩ := st
    obtain ⟨xs, ys, x, y, lx, ly, hx, hy⟩ := hg
    obtain ⟨its, rv, p1, _⟩ := I.list lx
    obtain ⟨jts, rw', p2, _⟩ := I.tuple ly
    obtain ⟨u1, hu1, ru1⟩ := rv.get hx
    obtain ⟨u2, hu2, ru2⟩ := rw'.get hy
    have hd1 : X.A.in1.handled = none := by simp [I.ok.hd hc]
    have D := S.d
    refine wpAny_pyNext_zipD2_item S.two (Draws.list hd1 i1 a D.l1i1 its.toArray) (zm_draws hd1 i2 b D.l2i2 jts.toArray) q1 q2 q3 ⟨q4, p1.isList⟩ ⟨q5, p2⟩ (by simpa using (List.getElem?_eq_some_iff.mp hu1).1) (by simpa using (List.getElem?_eq_some_iff.mp hu2).1)
      fun v1 v2 h' tk e1 e2 r1 r2 r3 r4 r5 r6 kept => ?_
    obtain rfl : v1 = u1 := by
      have e1' : its[i]? = some v1 := by simpa using e1
      exact Option.some.inj (e1'.symm.trans hu1)
    obtain rfl : v2 = u2 := by
      have e2' : jts[i]? = some v2 := by simpa using e2
      exact Option.some.inj (e2'.symm.trans hu2)
    refine ⟨_, rfl, wpAny_letOwnedTupleGo_zip (s := { s with heap := h', toks := tk }) r1 fun h'' z'' sb => ?_⟩
    have zl := allLt z (by simp)
    have laid : h''.get? s.heap.objs.size = some { cls := .type "tuple", data := .seq #[v1, v2] } := (sb.2 _ (Nat.ne_of_gt zl)).trans r5
    have I1 : Inv X pins σ (upd H s.heap.objs.size (.tup [x, y])) { s with heap := h'', toks := tk } :=
      I.turnedNew (t' := tk) (ch := [z, TI, TO, i1, i2]) (fun c o hb q => (sb.2 c (fun e => hb (by simp [e]))).trans (kept c o (fun e => hb (by simp [e])) (fun e => hb (by simp [e])) (fun e => hb (by simp [e])) (fun e => hb (by simp [e])) q)) hf (Nat.le_refl _)
        ⟨by rw [sizeLine_eq]; show 2 ≤ 16777216; decide, [v1, v2], .cons ru1 (.cons ru2 .nil), ⟨_, laid, rfl, _, rfl⟩⟩
    refine ⟨.ref s.heap.objs.size, _, I1, rfl, ⟨_, x, y, rfl, I.hok.fresh (Nat.le_refl _), rfl, fun l hl => by rw [I.list_inj hl lx]; exact hx, fun l hl => by rw [I.tuple_inj hl ly]; exact hy⟩, ⟨z'', ?_, ⟨v1, v2, ?_⟩, ?_, ?_⟩, fun c hcm => ?_⟩
    · exact (sb.2 _ D.TIz).trans (kept _ _ D.TIz D.TITO D.TIi1 D.TIi2 q2)
    · exact (sb.2 _ D.TOz).trans r2
    · exact r3.1.at fun o q => (sb.2 _ D.i1z).trans q
    · exact r4.1.at fun o q => (sb.2 _ D.i2z).trans q
    · rw [upd_ne (Nat.ne_of_lt (allLt c hcm))]
      exact (hf c hcm).1
  done := by
    intro X hP hw hK hc i pins s σ H E I hf st hg
    subst hP hw hK
    obtain ⟨q1, q2, ⟨x0, y0, q3⟩, q4, q5⟩ := st
    obtain ⟨xs, ys, lx, ly, el, ei⟩ := hg
    obtain ⟨its, rv, p1, _⟩ := I.list lx
    obtain ⟨jts, rw', p2, _⟩ := I.tuple ly
    have l1 := rv.length
    have l2 := rw'.length
    have hd1 : X.A.in1.handled = none := by simp [I.ok.hd hc]
    have D := S.d
    exact wpAny_pyNext_zipD2_end S.two (Draws.list hd1 i1 a D.l1i1 its.toArray) (zm_draws hd1 i2 b D.l2i2 jts.toArray) q1 q2 q3 ⟨q4, p1.isList⟩ ⟨q5, p2⟩ (by simp; omega) (by simp; omega) (.inl (by simp; omega))
      fun h' tk kept => ⟨rfl, I.turnedL (t' := tk) (ch := [z, TI, TO, i1, i2]) (fun c o hb q => kept c o (fun e => hb (by simp [e])) (fun e => hb (by simp [e])) (fun e => hb (by simp [e])) (fun e => hb (by simp [e])) q) hf⟩
  self := fun A i s Q E st h => wpAny_pyIter_zip st.1 h
theorem call_zm {P : Program} {w : World} {A : Around} {E : Value → Shared → Prop} {s : Shared} {a b : Addr} {xs ys : Array Value} {Q : Value → Shared → Prop} (h1 : s.heap.IsList a xs) (h2 : s.heap.IsTuple b ys)
    (h : ∀ h', ZmAt (s.heap.objs.size + 4) (s.heap.objs.size + 2) (s.heap.objs.size + 3) s.heap.objs.size (s.heap.objs.size + 1) a b 0 h' → (∀ c o, s.heap.get? c = some o → h'.get? c = some o) → Q (.ref (s.heap.objs.size + 4)) { s with heap := h' }) :
    wpAny (model P w) A (call (.type "zip") [.ref a, .ref b]) Q E s := by
  refine callType_new F.called_zip (by decide) (F.typeCall_zip_2 _ _) (F.newCall_zip_2 _ _) (fun obj => F.args_object_init_3 obj _ _) F.entry_zip_new (zm_new a b xs ys) ⟨h1, h2, ?_⟩
  have n1 : (zm1 s.heap a).objs.size = s.heap.objs.size + 1 := Heap.size_push ..
  have n2 : (zm2 s.heap a b).objs.size = s.heap.objs.size + 2 := by rw [Heap.size_push, n1]
  have n3 : (zm3 s.heap a b).objs.size = s.heap.objs.size + 3 := by rw [Heap.size_push, n2]
  have n4 : (zm4 s.heap a b).objs.size = s.heap.objs.size + 4 := by rw [Heap.size_push, n3]
  have up1 : ∀ c o, s.heap.get? c = some o → (zm1 s.heap a).get? c = some o := fun c o q => Heap.get?_push_of_some _ q
  have up2 : ∀ c o, (zm1 s.heap a).get? c = some o → (zm2 s.heap a b).get? c = some o := fun c o q => Heap.get?_push_of_some _ q
  have up3 : ∀ c o, (zm2 s.heap a b).get? c = some o → (zm3 s.heap a b).get? c = some o := fun c o q => Heap.get?_push_of_some _ q
  have up4 : ∀ c o, (zm3 s.heap a b).get? c = some o → (zm4 s.heap a b).get? c = some o := fun c o q => Heap.get?_push_of_some _ q
  have up5 : ∀ c o, (zm4 s.heap a b).get? c = some o → (zm5 s.heap a b).get? c = some o := fun c o q => Heap.get?_push_of_some _ q
  have g1 : (zm1 s.heap a).get? s.heap.objs.size = some _ := Heap.get?_push_size _ rfl
  have g2 : (zm2 s.heap a b).get? (zm1 s.heap a).objs.size = some _ := Heap.get?_push_size _ rfl
  have g3 : (zm3 s.heap a b).get? (zm2 s.heap a b).objs.size = some _ := Heap.get?_push_size _ rfl
  have g4 : (zm4 s.heap a b).get? (zm3 s.heap a b).objs.size = some _ := Heap.get?_push_size _ rfl
  have g5 : (zm5 s.heap a b).get? (zm4 s.heap a b).objs.size = some _ := Heap.get?_push_size _ rfl
  rw [n1] at g2 g3
  rw [n2] at g3 g5
  rw [n3] at g4 g5
  rw [n4] at g5
  show _ ∧ _
  rw [n4]
  exact ⟨⟨_, g5, rfl⟩, h _ ⟨g5, up5 _ _ (up4 _ _ g3), ⟨_, _, up5 _ _ g4⟩, ⟨_, up5 _ _ (up4 _ _ (up3 _ _ (up2 _ _ g1))), rfl, rfl⟩, ⟨_, up5 _ _ (up4 _ _ (up3 _ _ g2)), rfl, rfl⟩⟩ fun c o q => up5 _ _ (up4 _ _ (up3 _ _ (up2 _ _ (up1 _ _ q))))⟩
/-- for x, y in zip(xs, t) -/
def iZipM (K : PySem.W.Frag) (ta : TA) : TI := fun σ H R => ta σ H fun vs H1 => ∃ a b xs ys, vs = [.ref a, .ref b] ∧ SqL K H1 a xs ∧ SqT K H1 b ys ∧ R (ItzM K a b) H1
theorem pi_zipM {X : Cx} {e e2 : Expr} {ta : TA} {p pos tpos : Pos} {elts : List Expr} {kk : Nat} (hg : Gl X "zip") (hm : X.mg "zip" = none) (ha : PA X [e, e2] ta)
    (hs : starEach [e, e2] X.env = (false, eval e X.env) :: starEach [e2] X.env := by rfl) (hpl : (backTo pos (starEach [e2] X.env)).any (·.1) = false := by rfl) :
    PI X (.Tuple elts kk tpos) (.Call (.Name "zip" p) [e, e2] [] pos) (iZipM X.K ta) := by
  refine ⟨fun pins s σ H R I h => ?_⟩
  refine Call_ (ld_blt I hg hm PyProof.Rows.boot_zip (PyProof.Rows.callWith_type1 (thn (ha.run pos pins s σ H _ I h) fun us s1 ⟨vs, H1, I1, r1, a, b, xs, ys, ev, lx, ly, q⟩ => ?_) hs hpl))
  subst ev
  obtain ⟨w1, w2, rfl, ra, rb⟩ := vals2 r1
  obtain rfl : w1 = Value.ref a := ra
  obtain rfl : w2 = Value.ref b := rb
  obtain ⟨its, rv, p1, _⟩ := I1.list lx
  obtain ⟨jts, rw', p2, _⟩ := I1.tuple ly
  obtain ⟨o2, ho2, _⟩ := id p2
  have la := p1.lt
  have lb := Heap.lt_size ho2
  refine call_zm p1.isList (show s1.heap.IsTuple b jts.toArray from p2) fun h' at0 kept => wpAny_pyIter_zip at0.1 ?_
  refine ⟨_, [s1.heap.objs.size + 4, s1.heap.objs.size + 2, s1.heap.objs.size + 3, s1.heap.objs.size, s1.heap.objs.size + 1], _, _, H1, rfl, I1.kept (t' := s1.toks) kept, turn_zm ⟨PySem.W.ktu_apart s1.heap.objs.size a b la lb, Nat.ne_of_gt lb, Nat.ne_of_gt (Nat.lt_succ_of_lt la)⟩, at0, fun c hc => ?_, q⟩
  have le : s1.heap.objs.size ≤ c := by
    rcases five hc with e | e | e | e | e
    · rw [e]; exact Nat.le_add_right _ _
    · rw [e]; exact Nat.le_add_right _ _
    · rw [e]; exact Nat.le_add_right _ _
    · rw [e]; exact Nat.le_refl _
    · rw [e]; exact Nat.le_add_right _ _
  exact I1.fpOk le (I1.hok.fresh le)
section
variable {σ : L2.St} {H : Hp} {K : PySem.W.Frag}
theorem g_zipM {ta : TA} {R : It → Hp → Prop} (h : ta σ H fun vs H1 => ∃ a b xs ys, vs = [.ref a, .ref b] ∧ SqL K H1 a xs ∧ SqT K H1 b ys ∧ R (ItzM K a b) H1) : iZipM K ta σ H R := h
theorem w_zipM {a : L2.St → Hp → Prop} {b : VK} {g : TG} {tb : TS} {p r : Addr} {xs ys : List V} (hl : xs.length = ys.length) (Pv : Nat → L2.St → Hp → Prop) (h0 : Pv 0 σ H) (hq : ∀ i σ H, Pv i σ H → SqL K H p xs ∧ SqT K H r ys)
    (hs : ∀ i x y T σ H, xs[i]? = some x → ys[i]? = some y → Pv i σ H → H T = none → g (.ref T) σ (upd H T (.tup [x, y])) fun σ2 H2 => tb ⟨Pv (i + 1), b, a, Pv (i + 1)⟩ σ2 H2) (hd : ∀ σ H, Pv xs.length σ H → a σ H) :
    ∃ a' b' xs ys, [V.ref p, .ref r] = [V.ref a', .ref b'] ∧ SqL K H a' xs ∧ SqT K H b' ys ∧ ForEnd g tb a b σ (ItzM K a' b') H := by
  refine ⟨p, r, xs, ys, rfl, (hq 0 σ H h0).1, (hq 0 σ H h0).2, ?_⟩
  refine ⟨fun i m σ H => m = xs.length - i ∧ i ≤ xs.length ∧ Pv i σ H, ⟨xs.length, by simp, Nat.zero_le _, h0⟩, ?_⟩
  rintro i m σ H ⟨rfl, hi, pv⟩
  obtain ⟨qx, qy⟩ := hq i σ H pv
  by_cases hlt : i < xs.length
  · have hx : xs[i]? = some xs[i] := List.getElem?_eq_getElem hlt
    have hlt2 : i < ys.length := by omega
    have hy : ys[i]? = some ys[i] := List.getElem?_eq_getElem hlt2
    refine .inr ⟨⟨xs, ys, _, _, qx, qy, hx, hy⟩, Pv (i + 1), fun σ' H' p' => ⟨xs.length - (i + 1), by omega, rfl, hlt, p'⟩, fun v H' y => ?_⟩
    obtain ⟨T, x', y', rfl, hT, rfl, f1, f2⟩ := y
    exact hs i x' y' T σ H (f1 xs qx) (f2 ys qy) pv hT
  · have e : i = xs.length := by omega
    subst e
    exact .inl ⟨⟨xs, ys, qx, qy, hl, rfl⟩, hd σ H pv⟩
end
end Wd
/-! The search over the steps of tasks, in plain Lean. -/
namespace Wd
open PySem PySem.Spec PyProof.Rows L2
abbrev Tp := Int × Int
def wbh (t : Tp) (x : Int) : List Int := if x + 1 < t.1 then [x + 1] else if x + 1 = t.2 then [0] else [x + 1, 0]
def stepW (acc : List (List Int)) (t : Tp) (x : Int) : List (List Int) := acc.flatMap fun r => (wbh t x).map fun y => r ++ [y]
def allW : List (List Int) → List (Tp × Int) → List (List Int)
  | acc, [] => acc
  | acc, p :: ps => allW (stepW acc p.1 p.2) ps
theorem allW_snoc : ∀ (acc : List (List Int)) (ps : List (Tp × Int)) (p : Tp × Int), allW acc (ps ++ [p]) = stepW (allW acc ps) p.1 p.2
  | _, [], _ => rfl
  | acc, q :: ps, p => allW_snoc (stepW acc q.1 q.2) ps p
def awb (ts : List Tp) (xs : List Int) : List (List Int) := allW [[]] (ts.zip xs)
def Fol : List Tp → List Int → List Int → Prop
  | [], [], [] => True
  | t :: ts, x :: xs, y :: ys => y ∈ wbh t x ∧ Fol ts xs ys
  | _, _, _ => False
theorem stepW_mem {acc : List (List Int)} {t : Tp} {x : Int} {r : List Int} : r ∈ stepW acc t x ↔ ∃ a ∈ acc, ∃ y ∈ wbh t x, r = a ++ [y] := by
  unfold stepW
  rw [List.mem_flatMap]
  constructor
  · rintro ⟨a, ha, hr⟩
    obtain ⟨y, hy, rfl⟩ := List.mem_map.mp hr
    exact ⟨a, ha, y, hy, rfl⟩
  · rintro ⟨a, ha, y, hy, rfl⟩
    exact ⟨a, ha, List.mem_map.mpr ⟨y, hy, rfl⟩⟩
theorem allW_mem : ∀ (ts : List Tp) (xs : List Int) (acc : List (List Int)) (r : List Int), ts.length = xs.length → (r ∈ allW acc (ts.zip xs) ↔ ∃ a ∈ acc, ∃ ys, Fol ts xs ys ∧ r = a ++ ys)
  | [], [], acc, r, _ => by
    show r ∈ acc ↔ _
    constructor
    · intro h; exact ⟨r, h, [], trivial, (List.append_nil r).symm⟩
    · rintro ⟨a, ha, ys, hf, rfl⟩
      cases ys with
      | nil => rw [List.append_nil]; exact ha
      | cons y ys => exact hf.elim
  | t :: ts, x :: xs, acc, r, hl => by
    show r ∈ allW (stepW acc t x) (ts.zip xs) ↔ _
    rw [allW_mem ts xs _ r (by simpa using hl)]
    constructor
    · rintro ⟨a, ha, ys, hf, rfl⟩
      obtain ⟨a0, ha0, y, hy, rfl⟩ := stepW_mem.mp ha
      exact ⟨a0, ha0, y :: ys, ⟨hy, hf⟩, by rw [List.append_assoc]; rfl⟩
    · rintro ⟨a, ha, ys, hf, rfl⟩
      cases ys with
      | nil => exact hf.elim
      | cons y ys => exact ⟨a ++ [y], stepW_mem.mpr ⟨a, ha, y, hf.1, rfl⟩, ys, hf.2, by rw [List.append_assoc]; rfl⟩
theorem awb_mem {ts : List Tp} {xs r : List Int} (hl : ts.length = xs.length) : r ∈ awb ts xs ↔ Fol ts xs r := by
  unfold awb
  rw [allW_mem ts xs [[]] r hl]
  constructor
  · rintro ⟨a, ha, ys, hf, rfl⟩
    rw [List.mem_singleton] at ha
    subst ha
    exact hf
  · intro h; exact ⟨[], List.mem_singleton.mpr rfl, r, h, rfl⟩
theorem wbh_len (t : Tp) (x : Int) : (wbh t x).length ≤ 2 := by
  unfold wbh
  split
  · exact Nat.le_succ 1
  · split
    · exact Nat.le_succ 1
    · exact Nat.le_refl 2
theorem stepW_len {acc : List (List Int)} {t : Tp} {x : Int} : (stepW acc t x).length ≤ acc.length * 2 := by
  unfold stepW
  induction acc with
  | nil => exact Nat.zero_le _
  | cons a acc ih =>
    rw [List.flatMap_cons, List.length_append, List.length_map, List.length_cons, Nat.succ_mul]
    have := wbh_len t x
    omega
theorem allW_len : ∀ (ps : List (Tp × Int)) (acc : List (List Int)), (allW acc ps).length ≤ acc.length * 2 ^ ps.length
  | [], acc => by show acc.length ≤ acc.length * 1; omega
  | p :: ps, acc => by
    have h1 := allW_len ps (stepW acc p.1 p.2)
    have h2 := stepW_len (acc := acc) (t := p.1) (x := p.2)
    have h3 : (stepW acc p.1 p.2).length * 2 ^ ps.length ≤ acc.length * 2 * 2 ^ ps.length := Nat.mul_le_mul_right _ h2
    have h4 : acc.length * 2 ^ (p :: ps).length = acc.length * 2 * 2 ^ ps.length := by rw [List.length_cons, Nat.pow_succ, Nat.mul_assoc, Nat.mul_comm 2]
    show (allW (stepW acc p.1 p.2) ps).length ≤ _
    omega
def WfT (ts : List Tp) : Prop := ∀ t ∈ ts, 1 ≤ t.1 ∧ t.1 ≤ t.2 ∧ t.2 ≤ 8
def WfW : List Tp → List Int → Prop
  | [], [] => True
  | t :: ts, x :: xs => (0 ≤ x ∧ x < t.2) ∧ WfW ts xs
  | _, _ => False
theorem WfW.len : ∀ {ts : List Tp} {xs : List Int}, WfW ts xs → ts.length = xs.length
  | [], [], _ => rfl
  | _ :: _, _ :: _, h => by rw [List.length_cons, List.length_cons, WfW.len h.2]
theorem fol_wf : ∀ {ts : List Tp} {xs ys : List Int}, WfT ts → WfW ts xs → Fol ts xs ys → WfW ts ys
  | [], [], [], _, _, _ => trivial
  | t :: ts, x :: xs, y :: ys, ht, hw, hf => by
    refine ⟨?_, fol_wf (fun u hu => ht u (List.mem_cons_of_mem _ hu)) hw.2 hf.2⟩
    have h1 := ht t List.mem_cons_self
    have h2 := hw.1
    have h3 := hf.1
    unfold wbh at h3
    split at h3
    · rw [List.mem_singleton] at h3; omega
    · split at h3
      · rw [List.mem_singleton] at h3; omega
      · rw [List.mem_cons, List.mem_singleton] at h3; omega
theorem fol_len : ∀ {ts : List Tp} {xs ys : List Int}, Fol ts xs ys → ys.length = ts.length
  | [], [], [], _ => rfl
  | _ :: _, _ :: _, _ :: _, h => by rw [List.length_cons, List.length_cons, fol_len h.2]
theorem wf_start : ∀ {ts : List Tp}, WfT ts → WfW ts (List.replicate ts.length 0)
  | [], _ => trivial
  | t :: ts, h => ⟨by have := h t List.mem_cons_self; omega, wf_start (ts := ts) fun u hu => h u (List.mem_cons_of_mem _ hu)⟩
def univW : Nat → List (List Int)
  | 0 => [[]]
  | k + 1 => (univW k).flatMap fun r => (List.range 8).map fun y : Nat => (y : Int) :: r
theorem univW_len : ∀ k, (univW k).length = 8 ^ k
  | 0 => rfl
  | k + 1 => by
    show ((univW k).flatMap _).length = _
    rw [Nat.pow_succ, ← univW_len k]
    generalize univW k = l
    induction l with
    | nil => rfl
    | cons r l ih => rw [List.flatMap_cons, List.length_append, List.length_map, List.length_range, ih, List.length_cons]; omega
theorem univW_mem : ∀ {ts : List Tp} {xs : List Int}, WfT ts → WfW ts xs → xs ∈ univW ts.length
  | [], [], _, _ => List.mem_singleton.mpr rfl
  | t :: ts, x :: xs, ht, hw => by
    have h1 := ht t List.mem_cons_self
    have h2 := hw.1
    refine List.mem_flatMap.mpr ⟨xs, univW_mem (fun u hu => ht u (List.mem_cons_of_mem _ hu)) hw.2, List.mem_map.mpr ⟨x.toNat, List.mem_range.mpr (by omega), ?_⟩⟩
    congr 1
    omega
/-! ### steps -/
abbrev Sta := Int × List Int
def univS (k : Nat) : List Sta := (univW k).flatMap fun r => (List.range 25).map fun g : Nat => ((g : Int), r)
theorem univS_len (k : Nat) : (univS k).length = 8 ^ k * 25 := by
  unfold univS
  rw [← univW_len k]
  generalize univW k = l
  induction l with
  | nil => rfl
  | cons r l ih => rw [List.flatMap_cons, List.length_append, List.length_map, List.length_range, ih, List.length_cons]; omega
theorem univS_mem {ts : List Tp} {s : Sta} (ht : WfT ts) (h0 : 0 ≤ s.1) (h1 : s.1 ≤ 24) (hw : WfW ts s.2) : s ∈ univS ts.length :=
  List.mem_flatMap.mpr ⟨s.2, univW_mem ht hw, List.mem_map.mpr ⟨s.1.toNat, List.mem_range.mpr (by omega), by
    have : ((s.1.toNat : Nat) : Int) = s.1 := by omega
    rw [this]⟩⟩
def patd (b gap : Int) (ws : List Int) : Bool := decide (gap % b = 0) && ws.all fun x => decide (x < gap)
def wordB (lo hi b gap : Int) (ws : List Int) : Option Str := if gap > hi then some "late" else if gap < lo ∧ patd b gap ws = true then some "early" else none
def foll (b : Int) (s : Sta) : Sta := if patd b s.1 s.2 = true then (0, s.2) else s
theorem foll_two (b : Int) (s : Sta) : (foll b s).2 = s.2 := by unfold foll; split <;> rfl
theorem foll_one (b : Int) (s : Sta) : (foll b s).1 = 0 ∨ (foll b s).1 = s.1 := by unfold foll; split; exact .inl rfl; exact .inr rfl
def start0 (ts : List Tp) : Sta := (0, List.replicate ts.length 0)
section
variable (lo hi b : Int) (ts : List Tp)
/-- a step that can be at that moment, the watcher unbitten -/
inductive Reach : Nat → Sta → Prop
  | zero : Reach 0 (start0 ts)
  | succ {n : Nat} {s : Sta} {ws : List Int} : Reach n s → Fol ts s.2 ws → wordB lo hi b (s.1 + 1) ws = none → Reach (n + 1) (foll b (s.1 + 1, ws))
/-- the steps to one, from the first on -/
inductive Pth : List Sta → Sta → Prop
  | zero : Pth [start0 ts] (start0 ts)
  | succ {p : List Sta} {s : Sta} {ws : List Int} : Pth p s → Fol ts s.2 ws → wordB lo hi b (s.1 + 1) ws = none → Pth (p ++ [foll b (s.1 + 1, ws)]) (foll b (s.1 + 1, ws))
def Steady : Prop := ∀ n s ws, Reach lo hi b ts n s → Fol ts s.2 ws → wordB lo hi b (s.1 + 1) ws = none
end
section
variable {lo hi b : Int} {ts : List Tp}
theorem reach_wf (h0 : 0 ≤ hi) (ht : WfT ts) {n : Nat} {s : Sta} (h : Reach lo hi b ts n s) : 0 ≤ s.1 ∧ s.1 ≤ hi ∧ WfW ts s.2 := by
  induction h with
  | zero => exact ⟨Int.le_refl 0, h0, wf_start ht⟩
  | @succ n s ws _ hf hw ih =>
    have hg : s.1 + 1 ≤ hi := by
      unfold wordB at hw
      split at hw
      · cases hw
      · omega
    rw [foll_two]
    refine ⟨?_, ?_, fol_wf ht ih.2.2 hf⟩
    · rcases foll_one b (s.1 + 1, ws) with e | e <;> rw [e]
      · exact Int.le_refl 0
      · show 0 ≤ s.1 + 1; omega
    · rcases foll_one b (s.1 + 1, ws) with e | e <;> rw [e]
      · exact h0
      · exact hg
theorem pth_len {p : List Sta} {s : Sta} (h : Pth lo hi b ts p s) : 0 < p.length := by
  cases h with
  | zero => exact Nat.zero_lt_one
  | succ => rw [List.length_append]; exact Nat.lt_add_left _ Nat.zero_lt_one
theorem pth_reach {p : List Sta} {s : Sta} (h : Pth lo hi b ts p s) : Reach lo hi b ts (p.length - 1) s := by
  induction h with
  | zero => exact .zero
  | @succ p s ws hp hf hw ih =>
    have := pth_len hp
    have e : (p ++ [foll b (s.1 + 1, ws)]).length - 1 = (p.length - 1) + 1 := by rw [List.length_append, List.length_singleton]; omega
    rw [e]
    exact .succ ih hf hw
end
/-! ### the search -/
/-- a step that is known: where its key stands, and the one that it was first seen from -/
abbrev AhE := Sta × Addr × Option (Sta × Addr)
inductive Anc (es : List AhE) : Sta → List Sta → Prop
  | root {s : Sta} {a : Addr} : (s, a, none) ∈ es → Anc es s [s]
  | step {s : Sta} {a : Addr} {s' : Sta} {a' : Addr} {p : List Sta} : (s, a, some (s', a')) ∈ es → Anc es s' p → Anc es s (p ++ [s])
theorem Anc.mono {es es' : List AhE} (h : ∀ e ∈ es, e ∈ es') {s : Sta} {p : List Sta} (a : Anc es s p) : Anc es' s p := by
  induction a with
  | root h1 => exact .root (h _ h1)
  | step h1 _ ih => exact .step (h _ h1) ih
section
variable (lo hi b : Int) (ts : List Tp)
def Proc (es : List AhE) (s : Sta) : Prop := ∀ ws, Fol ts s.2 ws → wordB lo hi b (s.1 + 1) ws = none ∧ foll b (s.1 + 1, ws) ∈ es.map (·.1)
structure Bfs (n : Nat) (es : List AhE) (S : List Sta) : Prop where
  nd : (es.map (·.1)).Nodup
  st : start0 ts ∈ es.map (·.1)
  anc : ∀ e ∈ es, ∃ p, Anc es e.1 p ∧ Pth lo hi b ts p e.1
  fr : ∀ s ∈ S, ∃ p, Anc es s p ∧ Pth lo hi b ts p s ∧ p.length = n + 1
  cl : ∀ e ∈ es, e.1 ∈ S ∨ Proc lo hi b ts es e.1
  lt : ∀ m s, m < n → Reach lo hi b ts m s → Proc lo hi b ts es s
  eq : ∀ s, Reach lo hi b ts n s → s ∈ es.map (·.1)
/-- within a turn: i of the steps S are looked at, L are new -/
structure Mid (n : Nat) (es0 es : List AhE) (S : List Sta) (i : Nat) (L : List Sta) : Prop where
  nd : (es.map (·.1)).Nodup
  anc : ∀ e ∈ es, ∃ p, Anc es e.1 p ∧ Pth lo hi b ts p e.1
  old : ∀ e ∈ es0, e ∈ es
  ext : es.map (·.1) = es0.map (·.1) ++ L
  fr : ∀ s ∈ L, ∃ p, Anc es s p ∧ Pth lo hi b ts p s ∧ p.length = n + 2
  done : ∀ k s, k < i → S[k]? = some s → Proc lo hi b ts es s
end
section
variable {lo hi b : Int} {ts : List Tp}
theorem Proc.mono {es es' : List AhE} (h : ∀ e ∈ es, e ∈ es') {s : Sta} (p : Proc lo hi b ts es s) : Proc lo hi b ts es' s := fun ws hf => by
  obtain ⟨h1, h2⟩ := p ws hf
  refine ⟨h1, ?_⟩
  obtain ⟨e, he, q⟩ := List.mem_map.mp h2
  exact List.mem_map.mpr ⟨e, h e he, q⟩
theorem bfs_start {a : Addr} : Bfs lo hi b ts 0 [(start0 ts, a, none)] [start0 ts] where
  nd := by simp
  st := by simp
  anc := fun e he => by
    rw [List.mem_singleton] at he; subst he
    exact ⟨_, .root (List.mem_singleton.mpr rfl), .zero⟩
  fr := fun s hs => by
    rw [List.mem_singleton] at hs; subst hs
    exact ⟨_, .root (List.mem_singleton.mpr rfl), .zero, rfl⟩
  cl := fun e he => by
    rw [List.mem_singleton] at he; subst he
    exact .inl (List.mem_singleton.mpr rfl)
  lt := fun m s h => by omega
  eq := fun s h => by cases h; simp
theorem mid_start {n : Nat} {es : List AhE} {S : List Sta} (B : Bfs lo hi b ts n es S) : Mid lo hi b ts n es es S 0 [] where
  nd := B.nd
  anc := B.anc
  old := fun _ h => h
  ext := (List.append_nil _).symm
  fr := fun _ h => nomatch h
  done := fun k s h => by omega
theorem mid_next {n : Nat} {es0 es : List AhE} {S L : List Sta} {i : Nat} {s : Sta} (M : Mid lo hi b ts n es0 es S i L) (hs : S[i]? = some s) (hp : Proc lo hi b ts es s) : Mid lo hi b ts n es0 es S (i + 1) L where
  nd := M.nd
  anc := M.anc
  old := M.old
  ext := M.ext
  fr := M.fr
  done := fun k s' hk he => by
    by_cases c : k < i
    · exact M.done k s' c he
    · have : k = i := by omega
      subst this
      cases hs.symm.trans he
      exact hp
theorem mid_add {n : Nat} {es0 es : List AhE} {S L : List Sta} {i : Nat} {s : Sta} {a a' : Addr} {ws : List Int} (B : Bfs lo hi b ts n es0 S) (M : Mid lo hi b ts n es0 es S i L) (hs : s ∈ S) (hf : Fol ts s.2 ws) (hw : wordB lo hi b (s.1 + 1) ws = none)
    (hn : foll b (s.1 + 1, ws) ∉ es.map (·.1)) : Mid lo hi b ts n es0 (es ++ [(foll b (s.1 + 1, ws), a', some (s, a))]) S i (L ++ [foll b (s.1 + 1, ws)]) := by
  have sub : ∀ e ∈ es, e ∈ es ++ [(foll b (s.1 + 1, ws), a', some (s, a))] := fun e h => List.mem_append_left _ h
  obtain ⟨p, h1, h2, h3⟩ := B.fr s hs
  have nf : ∃ p, Anc (es ++ [(foll b (s.1 + 1, ws), a', some (s, a))]) (foll b (s.1 + 1, ws)) p ∧ Pth lo hi b ts p (foll b (s.1 + 1, ws)) ∧ p.length = n + 2 :=
    ⟨p ++ [foll b (s.1 + 1, ws)], .step (List.mem_append_right _ (List.mem_singleton.mpr rfl)) ((h1.mono M.old).mono sub), .succ h2 hf hw, by rw [List.length_append, List.length_singleton, h3]⟩
  refine ⟨?_, fun e he => ?_, fun e he => sub e (M.old e he), ?_, fun s' hs' => ?_, fun k s' hk he => (M.done k s' hk he).mono sub⟩
  · rw [List.map_append]
    refine List.nodup_append.mpr ⟨M.nd, by simp, fun x hx y hy => ?_⟩
    simp only [List.map_cons, List.map_nil, List.mem_singleton] at hy
    subst hy
    exact fun e => hn (e ▸ hx)
  · rw [List.mem_append, List.mem_singleton] at he
    rcases he with he | rfl
    · obtain ⟨q, q1, q2⟩ := M.anc e he
      exact ⟨q, q1.mono sub, q2⟩
    · obtain ⟨q, q1, q2, _⟩ := nf
      exact ⟨q, q1, q2⟩
  · rw [List.map_append, M.ext, List.append_assoc]; rfl
  · rw [List.mem_append, List.mem_singleton] at hs'
    rcases hs' with hs' | rfl
    · obtain ⟨q, q1, q2⟩ := M.fr s' hs'
      exact ⟨q, q1.mono sub, q2⟩
    · exact nf
theorem mid_end {n : Nat} {es0 es : List AhE} {S L : List Sta} (B : Bfs lo hi b ts n es0 S) (M : Mid lo hi b ts n es0 es S S.length L) : Bfs lo hi b ts (n + 1) es L := by
  have dn : ∀ s ∈ S, Proc lo hi b ts es s := fun s hs => by
    obtain ⟨k, hk, e⟩ := List.mem_iff_getElem.mp hs
    exact M.done k s hk (by rw [List.getElem?_eq_getElem hk, e])
  have all0 : ∀ e ∈ es0, Proc lo hi b ts es e.1 := fun e he => by
    rcases B.cl e he with h | h
    · exact dn _ h
    · exact h.mono M.old
  have lt1 : ∀ m s, m < n + 1 → Reach lo hi b ts m s → Proc lo hi b ts es s := fun m s hm hr => by
    by_cases c : m < n
    · exact (B.lt m s c hr).mono M.old
    · have : m = n := by omega
      subst this
      obtain ⟨e, he, rfl⟩ := List.mem_map.mp (B.eq s hr)
      exact all0 e he
  refine ⟨M.nd, ?_, M.anc, M.fr, fun e he => ?_, lt1, fun s hr => ?_⟩
  · obtain ⟨e, he, q⟩ := List.mem_map.mp B.st
    exact List.mem_map.mpr ⟨e, M.old e he, q⟩
  · have hm : e.1 ∈ es.map (·.1) := List.mem_map.mpr ⟨e, he, rfl⟩
    rw [M.ext, List.mem_append] at hm
    rcases hm with hm | hm
    · obtain ⟨e0, he0, q⟩ := List.mem_map.mp hm
      rw [← q]
      exact .inr (all0 e0 he0)
    · exact .inl hm
  · cases hr with
    | @succ _ s0 ws h1 h2 h3 => exact (lt1 n s0 (Nat.lt_succ_self n) h1 ws h2).2
theorem bfs_steady {n : Nat} {es : List AhE} (B : Bfs lo hi b ts n es []) : Steady lo hi b ts := by
  have all : ∀ m s, Reach lo hi b ts m s → Proc lo hi b ts es s := fun m s hr => by
    have : s ∈ es.map (·.1) := by
      induction hr with
      | zero => exact B.st
      | @succ m s ws h1 h2 h3 ih =>
        obtain ⟨e, he, q⟩ := List.mem_map.mp ih
        rcases B.cl e he with z | z
        · cases z
        · rw [q] at z; exact (z ws h2).2
    obtain ⟨e, he, q⟩ := List.mem_map.mp this
    rcases B.cl e he with z | z
    · cases z
    · rw [← q]; exact z
  exact fun n s ws hr hf => (all n s hr ws hf).1
theorem known_len (h0 : 0 ≤ hi) (h24 : hi ≤ 24) (ht : WfT ts) (hk : ts.length ≤ 2) {es : List AhE} (nd : (es.map (·.1)).Nodup) (anc : ∀ e ∈ es, ∃ p, Anc es e.1 p ∧ Pth lo hi b ts p e.1) : es.length ≤ 1600 := by
  have := List.Nodup.length_le_of_subset (l₂ := univS ts.length) nd fun s hs => by
    obtain ⟨e, he, rfl⟩ := List.mem_map.mp hs
    obtain ⟨p, _, hp⟩ := anc e he
    obtain ⟨q1, q2, q3⟩ := reach_wf h0 ht (pth_reach hp)
    exact univS_mem ht q1 (by omega) q3
  rw [univS_len, List.length_map] at this
  have h8 : 8 ^ ts.length ≤ 8 ^ 2 := Nat.pow_le_pow_right (by decide) hk
  have : 8 ^ ts.length * 25 ≤ 64 * 25 := Nat.mul_le_mul_right _ h8
  omega
end
/-! ### the reports along steps -/
def staAt (path : List Sta) (i : Nat) : Sta := (path[i]?).getD (0, [])
def repAt (path : List Sta) (k n : Nat) : List Int := ((List.range n).filter fun i => decide ((staAt path (i + 1)).2[k]? = some 0)).map fun i => ((i + 1 : Nat) : Int)
def repsOf (path : List Sta) (k : Nat) : List (List Int) := (List.range k).map fun j => repAt path j (path.length - 1)
/-! ### in the heap -/
def StV (H : Hp) (s : Sta) (a : Addr) : Prop := ∃ c, H a = some (.tup [.int s.1, .ref c]) ∧ H c = some (.tup (s.2.map V.int))
theorem StV.keep {H H' : Hp} (e : KeepT H H') {s : Sta} {a : Addr} (h : StV H s a) : StV H' s a := by
  obtain ⟨c, h1, h2⟩ := h
  exact ⟨c, e _ _ h1, e _ _ h2⟩
def stKey (s : Sta) : NestedKey := .tup [.num s.1, .tup (s.2.map .num)]
theorem nums_v {H : Hp} : ∀ ws : List Int, NestVs H (ws.map .num) (ws.map V.int)
  | [] => .nil
  | x :: ws => .cons (.int x) (nums_v ws)
theorem StV.nest {H : Hp} {s : Sta} {a : Addr} (h : StV H s a) : NestV H (stKey s) (.ref a) := by
  obtain ⟨c, h1, h2⟩ := h
  exact .tup h1 (.cons (.int _) (.cons (.tup h2 (nums_v _)) .nil))
theorem nums_depth : ∀ ws : List Int, NestedKey.depthAll (ws.map .num) = 0
  | [] => rfl
  | x :: ws => by simp [NestedKey.depthAll, NestedKey.depth, nums_depth ws]
theorem stKey_depth (s : Sta) : (stKey s).depth ≤ 8 := by
  have := nums_depth s.2
  unfold stKey
  simp only [NestedKey.depth, NestedKey.depthAll, this]
  decide
theorem nums_inj : ∀ {a c : List Int}, a.map NestedKey.num = c.map NestedKey.num → a = c
  | [], [], _ => rfl
  | [], _ :: _, h => nomatch h
  | _ :: _, [], h => nomatch h
  | x :: a, y :: c, h => by
    rw [List.map_cons, List.map_cons] at h
    obtain ⟨h1, h2⟩ := List.cons.inj h
    rw [NestedKey.num.inj h1, nums_inj h2]
theorem stKey_inj {s t : Sta} (h : stKey s = stKey t) : s = t := by
  unfold stKey at h
  have h1 := NestedKey.tup.inj h
  obtain ⟨e1, h2⟩ := List.cons.inj h1
  obtain ⟨e2, _⟩ := List.cons.inj h2
  exact Prod.ext (NestedKey.num.inj e1) (nums_inj (NestedKey.tup.inj e2))
def ahV (o : Option (Sta × Addr)) : V := match o with
  | none => .non
  | some p => .ref p.2
def toN (es : List AhE) : List NKV := es.map fun e => (stKey e.1, e.2.1, ahV e.2.2)
def AhOk (H : Hp) (es : List AhE) : Prop := ∀ e ∈ es, StV H e.1 e.2.1 ∧ ∀ p, e.2.2 = some p → StV H p.1 p.2
theorem AhOk.keep {H H' : Hp} {es : List AhE} (h : AhOk H es) (e : KeepT H H') : AhOk H' es := fun x hx => ⟨(h x hx).1.keep e, fun p q => ((h x hx).2 p q).keep e⟩
theorem AhOk.keys {H : Hp} {es : List AhE} (h : AhOk H es) : NKeys H (toN es) := fun x hx => by
  obtain ⟨e, he, rfl⟩ := List.mem_map.mp hx
  exact ⟨(h e he).1.nest, stKey_depth _⟩
theorem toN_has (es : List AhE) (s : Sta) : hasN (toN es) (stKey s) = decide (s ∈ es.map (·.1)) := by
  unfold hasN toN
  rw [List.any_map]
  induction es with
  | nil => rfl
  | cons e es ih =>
    rw [List.any_cons, ih, List.map_cons]
    by_cases c : e.1 = s
    · simp [c]
    · have : ¬ stKey e.1 = stKey s := fun z => c (stKey_inj z)
      have c2 : ¬ s = e.1 := fun z => c z.symm
      simp [this, c2]
theorem toN_val : ∀ {es : List AhE} {s : Sta} {a : Addr} {o : Option (Sta × Addr)}, (es.map (·.1)).Nodup → (s, a, o) ∈ es → valN (toN es) (stKey s) = some (ahV o)
  | [], _, _, _, _, h => nomatch h
  | e :: es, s, a, o, nd, h => by
    rw [List.map_cons, List.nodup_cons] at nd
    unfold valN toN
    rw [List.map_cons, List.find?_cons]
    rcases List.mem_cons.mp h with rfl | h
    · simp
    · have c : ¬ stKey e.1 = stKey s := fun z => nd.1 (by rw [stKey_inj z]; exact List.mem_map.mpr ⟨_, h, rfl⟩)
      have := toN_val nd.2 h
      unfold valN toN at this
      simp only [c, decide_false]
      exact this
end Wd
namespace K15
open PySem PySem.Spec PyProof.Rows L2 Wd
local macro_rules | `(tactic| walk_at "go") => `(tactic| repeat (first
  | with_reducible refine Wd.g_seq ?_
  | with_reducible refine Wd.g_nx ?_
  | with_reducible refine Wd.g_asg ?_
  | ((with_reducible refine' Wd.g_var ?h1 ?_); (case h1 => exact rfl))
  | with_reducible refine Wd.g_c ?_
  | with_reducible refine Wd.g_op ?_
  | with_reducible refine Wd.g_un ?_
  | with_reducible refine Wd.g_I0 ?_
  | with_reducible refine Wd.g_U ?_
  | with_reducible refine Wd.g_eqI ?_
  | with_reducible refine Wd.g_neI ?_
  | with_reducible refine Wd.g_eqS ?_
  | with_reducible refine Wd.g_neS ?_
  | with_reducible refine Wd.g_eqB ?_
  | with_reducible refine Wd.g_neB ?_
  | with_reducible refine Wd.g_isN ?_
  | with_reducible refine Wd.g_notN ?_
  | with_reducible refine Wd.g_lc ?_
  | with_reducible refine Wd.g_yes ?_
  | with_reducible refine Wd.g_test ?_
  | with_reducible refine Wd.g_tB ?_
  | with_reducible refine Wd.g_bl ?_
  | with_reducible refine Wd.g_blI ?_
  | with_reducible refine Wd.g_and ?_
  | with_reducible refine Wd.g_or ?_
  | with_reducible refine Wd.g_not ?_
  | with_reducible refine Wd.g_andV ?_
  | with_reducible refine Wd.g_orV ?_
  | with_reducible refine Wd.g_notV ?_
  | with_reducible refine Wd.g_if ?_
  | with_reducible refine Wd.g_chain ?_
  | with_reducible refine Wd.g_chain3 ?_
  | with_reducible refine Wd.g_nil ?_
  | with_reducible refine Wd.g_cons ?_
  | with_reducible refine Wd.g_tup ?_
  | with_reducible refine Wd.g_lst ?_
  | with_reducible refine Wd.g_CB ?_
  | with_reducible refine Wd.g_call ?_
  | with_reducible refine Wd.g_callS ?_
  | with_reducible refine Wd.g_bm ?_
  | with_reducible refine Wd.g_bm0 ?_
  | with_reducible refine Wd.g_sl ?_
  | with_reducible refine Wd.g_part ?_
  | with_reducible refine Wd.g_part1 ?_
  | with_reducible refine Wd.g_noPart ?_
  | with_reducible refine Wd.g_next ?_
  | with_reducible refine Wd.g_name ?_
  | with_reducible refine Wd.g_sub ?_
  | with_reducible refine Wd.g_gnil ?_
  | with_reducible refine Wd.g_gcons ?_
  | with_reducible refine Wd.g_drop ?_
  | with_reducible refine Wd.g_ret ?_
  | with_reducible refine Wd.g_retN ?_
  | with_reducible refine Wd.g_brk ?_
  | with_reducible refine Wd.g_cont ?_
  | with_reducible refine Wd.g_ifS ?_
  | with_reducible refine Wd.g_bk ?_
  | with_reducible refine Wd.g_ct ?_
  | with_reducible refine Wd.g_rt ?_
  | with_reducible refine Wd.g_for ?_
  | with_reducible refine Wd.g_rng1 ?_
  | with_reducible refine Wd.g_rng2 ?_
  | with_reducible refine Wd.g_iList ?_
  | with_reducible refine Wd.g_iTup ?_
  | ((with_reducible refine Wd.g_fit ?h1 ?_); (case h1 => exact rfl))
  | with_reducible refine Wd.g_max2 ?_
  | with_reducible refine Wd.g_min2 ?_
  | with_reducible refine Wd.g_int1B ?_
  | with_reducible refine L2.iteT ?_
  | with_reducible refine L2.iteF ?_
  | ((with_reducible refine Wd.g_itT ?h1 ?_); (case h1 => exact rfl))
  | ((with_reducible refine Wd.g_itF ?h1 ?_); (case h1 => exact rfl))))
def top (i : Nat) : Stmt := PySem.Challenge.pw_windowdog_k15_tasks_refused.main.body.getD i (.Pass ⟨0, 0, 0, 0⟩)
/-- the built-in names that the text calls, its constants and its refusals -/
structure Txt (K : PySem.W.Frag) (mg : Str → Option Value) (CW CT CB CM : Addr) : Prop where
  n_isinstance : mg "isinstance" = none
  n_len : mg "len" = none
  n_int : mg "int" = none
  n_bool : mg "bool" = none
  n_range : mg "range" = none
  n_list : mg "list" = none
  n_tuple : mg "tuple" = none
  n_str : mg "str" = none
  n_max : mg "max" = none
  n_zip : mg "zip" = none
  c_GREATEST_HIGH : ∃ t, mg "GREATEST_HIGH" = some (.int 1000 t)
  c_GREATEST_BEAT : ∃ t, mg "GREATEST_BEAT" = some (.int 60 t)
  c_MOST_TASKS : ∃ t, mg "MOST_TASKS" = some (.int 4 t)
  c_LONGEST_TASK : ∃ t, mg "LONGEST_TASK" = some (.int 60 t)
  c_MOST_SEARCHED_TASKS : ∃ t, mg "MOST_SEARCHED_TASKS" = some (.int 2 t)
  c_LONGEST_SEARCHED_TASK : ∃ t, mg "LONGEST_SEARCHED_TASK" = some (.int 8 t)
  c_GREATEST_SEARCHED_BEAT : ∃ t, mg "GREATEST_SEARCHED_BEAT" = some (.int 6 t)
  c_GREATEST_SEARCHED_HIGH : ∃ t, mg "GREATEST_SEARCHED_HIGH" = some (.int 24 t)
  g_BadWindow : mg "BadWindow" = some (.ref CW)
  x_BadWindow : PySem.W.excIn K CW [.type "ValueError", .type "Exception", .type "BaseException", .type "object"] "ValueError.__new__" = true
  k_BadWindow : PySem.W.keepIn K (.ref CW) = true
  b_BadWindow : PySem.W.subIn K (.ref CW) (.type "BaseException") = some true
  t_BadWindow : PySem.W.typeIn K (.ref CW) = some (.type "type")
  g_BadBeat : mg "BadBeat" = some (.ref CT)
  x_BadBeat : PySem.W.excIn K CT [.type "ValueError", .type "Exception", .type "BaseException", .type "object"] "ValueError.__new__" = true
  k_BadBeat : PySem.W.keepIn K (.ref CT) = true
  b_BadBeat : PySem.W.subIn K (.ref CT) (.type "BaseException") = some true
  t_BadBeat : PySem.W.typeIn K (.ref CT) = some (.type "type")
  g_BadTasks : mg "BadTasks" = some (.ref CB)
  x_BadTasks : PySem.W.excIn K CB [.type "ValueError", .type "Exception", .type "BaseException", .type "object"] "ValueError.__new__" = true
  k_BadTasks : PySem.W.keepIn K (.ref CB) = true
  b_BadTasks : PySem.W.subIn K (.ref CB) (.type "BaseException") = some true
  t_BadTasks : PySem.W.typeIn K (.ref CB) = some (.type "type")
  g_TooMuch : mg "TooMuch" = some (.ref CM)
  x_TooMuch : PySem.W.excIn K CM [.type "ValueError", .type "Exception", .type "BaseException", .type "object"] "ValueError.__new__" = true
  k_TooMuch : PySem.W.keepIn K (.ref CM) = true
  b_TooMuch : PySem.W.subIn K (.ref CM) (.type "BaseException") = some true
  t_TooMuch : PySem.W.typeIn K (.ref CM) = some (.type "type")
section
variable {P : Program} {w : World} {K : PySem.W.Frag} {mg : Str → Option Value} {base : Heap} {CW CT CB CM : Addr}
abbrev s_is_number : Stmt := top 12
theorem sc_is_number : FnScope ["value"] ["value"] (C8.fnScope s_is_number) := C8.fnScope_by (by decide +kernel)
def sp_is_number : Sp := fun vs H Q _ => ∃ i : Int, vs = [.int i] ∧ Q (.bl true) H
theorem ok_is_number (T : Txt K mg CW CT CB CM) {f : Addr} {fd : FuncData} (D : C8.Def K mg "is_number" s_is_number f fd) (b : Binds K fd ["value"] []) : C8.Cal P w K mg base 1 "is_number" sp_is_number [] := by
  refine C8.cal0 D b .nil sc_is_number (fun vs H Q E h => ?_) fun cdv A outer s H vs Q E hr h => ?_
  · obtain ⟨i, rfl, _⟩ := h; rfl
  · obtain ⟨i, rfl, q⟩ := h
    have nd := sc_is_number.nd
    refine ⟨_, (pss_one (ps_ret (pe_and (pe_callB (r := rIsi K) call_isi (by rfl) T.n_isinstance (by decide +kernel) (pa_cons (pv 0) (pa_cons (pe_bltn (v := .ty "int") (by rfl) T.n_int (by decide +kernel) rfl) pa_nil))) (pe_one (pe_not (pe_callB (r := rIsi K) call_isi (by rfl) T.n_isinstance (by decide +kernel) (pa_cons (pv 0) (pa_cons (pe_bltn (v := .ty "bool") (by rfl) T.n_bool (by decide +kernel) rfl) pa_nil)))))))), ?_⟩
    walk_at "go"
    refine g_isi (.ty "int") (.base (.int i)) (kit_ty (r := true) (by decide +kernel)) ?_
    walk_at "go"
    refine g_isi (.ty "bool") (.base (.int i)) (kit_ty (r := false) (by decide +kernel)) ?_
    walk_at "go"
    exact q

abbrev s_is_range : Stmt := top 13
theorem sc_is_range : FnScope ["least", "most", "limit"] ["least", "most", "limit"] (C8.fnScope s_is_range) := C8.fnScope_by (by decide +kernel)
def sp_is_range : Sp := fun vs H Q _ => ∃ i j k : Int, vs = [.int i, .int j, .int k] ∧ Q (.bl (decide (0 ≤ i ∧ i ≤ j ∧ j ≤ k))) H
theorem ok_is_range (T : Txt K mg CW CT CB CM) {f : Addr} {fd : FuncData} (D : C8.Def K mg "is_range" s_is_range f fd) (b : Binds K fd ["least", "most", "limit"] []) (g_is_number : C8.Cal P w K mg base 1 "is_number" sp_is_number []) : C8.Cal P w K mg base 2 "is_range" sp_is_range [] := by
  refine C8.cal0 D b .nil sc_is_range (fun vs H Q E h => ?_) fun cdv A outer s H vs Q E hr h => ?_
  · obtain ⟨i, j, k, rfl, _⟩ := h; rfl
  · obtain ⟨i, j, k, rfl, q⟩ := h
    have nd := sc_is_range.nd
    refine ⟨_, (pss_one (ps_ret (pe_and (C8.pe_c g_is_number hr (by first | decide | exact Nat.le_refl _ | omega) (by rfl) (pa_cons (pv 0) pa_nil)) (pe_and (C8.pe_c g_is_number hr (by first | decide | exact Nat.le_refl _ | omega) (by rfl) (pa_cons (pv 1) pa_nil)) (pe_one (pe_chain3 op_le op_le op_le pe_int (pv 0) (pv 1) (pv 2))))))), ?_⟩
    walk_at "go"
    refine ⟨i, rfl, ?_⟩
    walk_at "go"
    refine ⟨j, rfl, ?_⟩
    walk_at "go"
    refine g_ite (fun h1 => ?_) (fun h1 => ?_)
    · walk_at "go"
      refine g_ite (fun h2 => ?_) (fun h2 => ?_)
      · walk_at "go"
        have e : decide (0 ≤ i ∧ i ≤ j ∧ j ≤ k) = decide (j ≤ k) := by simp [h1, h2]
        rw [e] at q; exact q
      · walk_at "go"
        have e : decide (0 ≤ i ∧ i ≤ j ∧ j ≤ k) = false := decide_eq_false (by omega)
        rw [e] at q; exact q
    · walk_at "go"
      have e : decide (0 ≤ i ∧ i ≤ j ∧ j ≤ k) = false := decide_eq_false (by omega)
      rw [e] at q; exact q

def okW (lo hi : Int) : Prop := 0 ≤ lo ∧ lo ≤ hi ∧ hi ≤ 1000
abbrev s_check_window : Stmt := top 16
theorem sc_check_window : FnScope ["window", "low", "high"] ["window"] (C8.fnScope s_check_window) := C8.fnScope_by (by decide +kernel)
def sp_check_window (K : PySem.W.Frag) (CW : Addr) : Sp := fun vs H Q E => ∃ (W : Addr) (lo hi : Int), vs = [.ref W] ∧ SqT K H W [.int lo, .int hi] ∧ (okW lo hi → Q .non H) ∧ (¬ okW lo hi → E (.ref CW) none H)
theorem ok_check_window (T : Txt K mg CW CT CB CM) {f : Addr} {fd : FuncData} (D : C8.Def K mg "check_window" s_check_window f fd) (b : Binds K fd ["window"] []) (g_is_range : C8.Cal P w K mg base 2 "is_range" sp_is_range []) : CalX P w K mg base 3 "check_window" (sp_check_window K CW) := by
  refine calX D b sc_check_window (fun vs H Q E h => ?_) fun cdv A outer s H vs Q E hr h => ?_
  · obtain ⟨W, lo, hi, rfl, _⟩ := h; rfl
  · obtain ⟨W, lo, hi, rfl, hW, q1, q2⟩ := h
    have nd := sc_check_window.nd
    obtain ⟨tg, c_GREATEST_HIGH⟩ := T.c_GREATEST_HIGH
    refine ⟨_, (pss_cons (ps_asg (pv 0) (pg_tup rfl (pgs_cons (pg_name (i := 1) nd rfl (Or.inl rfl)) (pgs_cons (pg_name (i := 2) nd rfl (Or.inl rfl)) pgs_nil))))
      (pss_one (ps_if (pt_not (pt_val (C8.pe_c g_is_range hr (by first | decide | exact Nat.le_refl _ | omega) (by rfl) (pa_cons (pv 1) (pa_cons (pv 2) (pa_cons (pe_glob (v := .int 1000) rfl c_GREATEST_HIGH ⟨_, rfl⟩) pa_nil)))))) (pss_one (ps_raise rfl (takes_of rfl rfl rfl rfl) (pmk_own PySem.F.excBase_ValueError T.x_BadWindow T.g_BadWindow T.k_BadWindow (raises_own T.b_BadWindow T.t_BadWindow) (by rfl)))) pss_nil))), ?_⟩
    walk_at "go"
    refine g_gtup hW rfl ?_
    walk_at "go"
    refine ⟨lo, hi, 1000, rfl, ?_⟩
    walk_at "go"
    refine g_iteN (fun hn => ?_) (fun hy => ?_)
    · exact q2 hn
    · walk_at "go"
      exact q1 hy

abbrev s_law_start : Stmt := top 36
theorem sc_law_start : FnScope ["_law_script", "_law_mixed", "_law_cell"] ["_law_script"] (C8.fnScope s_law_start) := C8.fnScope_by (by decide +kernel)
def sp_start (K : PySem.W.Frag) : Sp := fun vs H Q _ => ∃ (B : Hp) (sc : Addr) (ns : List Int), vs = [.ref sc] ∧ SqL K B sc (ns.map V.int) ∧ Same B H ∧ ns.length ≤ 63 ∧ ∀ H' S, H S = none → Same H H' → Dst K B H' S → Q (.ref S) H'
theorem ok_start (T : Txt K mg CW CT CB CM) {f : Addr} {fd : FuncData} (D : C8.Def K mg "_law_start" s_law_start f fd) (b : Binds K fd ["_law_script"] []) : C8.Cal P w K mg base 1 "_law_start" (sp_start K) [] := by
  refine C8.cal0 D b .nil sc_law_start (fun vs H Q E h => ?_) fun cdv A outer s H vs Q E hr h => ?_
  · obtain ⟨B, sc, ns, rfl, _⟩ := h; rfl
  · obtain ⟨B, sc, ns, rfl, hB, sB, hl, q⟩ := h
    have hS := list_same sB hB
    have nd := sc_law_start.nd
    refine ⟨_, (pss_cons (ps_set (i := 1) nd rfl (Or.inl rfl) pe_int)
      (pss_cons (ps_for PassesOwn.never rfl (pi_list (pv 0)) (pg_name (i := 2) nd rfl (Or.inl rfl)) (pss_one (ps_set (i := 1) nd rfl (Or.inl rfl) (pe_op op_mod (pe_op op_add (pe_op op_add (pe_op op_mulW (pv 1) pe_int) (pv 2)) pe_int) pe_int))))
      (pss_one (ps_ret (pe_lst (pa_cons (pv 0) (pa_cons pe_int (pa_cons (pv 1) (pa_cons pe_int pa_nil))))))))), ?_⟩
    walk_at "go"
    refine w_list (xs := ns.map V.int) (fun i σ H' => H' = H ∧ ∃ (m : Int) (v : Option V), σ = [some (.ref sc), some (.int m), v] ∧ 0 ≤ m ∧ m < 2147483647) ?_ ?_ ?_ ?_
    · exact ⟨rfl, 1, none, rfl, by decide, by decide⟩
    · rintro i σ H' _ ⟨rfl, _⟩; exact hS
    · rintro i x σ H' hx ⟨rfl, m, v, rfl, h1, h2⟩
      obtain ⟨c, hc, rfl⟩ := map_at hx
      walk_at "go"
      refine g_I (mulW_small h1 (by omega) (by decide) (by decide)) ?_
      walk_at "go"
      refine g_I (show (0 : Int) < 2147483647 by decide) ?_
      walk_at "go"
      exact ⟨rfl, _, _, rfl, by omega, by omega⟩
    · rintro σ H' ⟨rfl, m, v, rfl, h1, h2⟩
      walk_at "go"
      intro S hn
      exact q _ S hn (same_new hn) ⟨sc, ns, 0, m, 0, upd_same, .of hB (fun _ _ h => h) (Same.back sB hn), .of (sB.trans (same_new hn)), hl, by decide, h1, h2⟩

abbrev s_law_drawn : Stmt := top 37
theorem sc_law_drawn : FnScope ["_law_state", "_law_many", "_law_found", "_law_cell"] ["_law_state", "_law_many"] (C8.fnScope s_law_drawn) := C8.fnScope_by (by decide +kernel)
def sp_drawn (K : PySem.W.Frag) : Sp := fun vs H Q _ => ∃ (B : Hp) (S : Addr) (n : Int), vs = [.ref S, .int n] ∧ Dst K B H S ∧ 0 < n ∧ n < 10 ^ 38 ∧ ∀ H' v, Frm S H H' → Dst K B H' S → 0 ≤ v → v < n → Q (.int v) H'
theorem ok_drawn (T : Txt K mg CW CT CB CM) {f : Addr} {fd : FuncData} (D : C8.Def K mg "_law_drawn" s_law_drawn f fd) (b : Binds K fd ["_law_state", "_law_many"] []) : C8.Cal P w K mg base 1 "_law_drawn" (sp_drawn K) [] := by
  refine C8.cal0 D b .nil sc_law_drawn (fun vs H Q E h => ?_) fun cdv A outer s H vs Q E hr h => ?_
  · obtain ⟨B, S, n, rfl, _⟩ := h; rfl
  · obtain ⟨B, S, n, rfl, ⟨sc, ns, c, m, r, hS, hsB, fB, hl, c0, m0, m1⟩, n0, n1, q⟩ := h
    have hsc := hsB.frm fB
    have nd := sc_law_drawn.nd
    refine ⟨_, (pss_cons (ps_if (pt_cmpR op_gt (pe_ix (r := rIxL K) ix_list (pv 0) pe_int (fun _ _ => rfl)) pe_int (nomark _)) (pss_cons (ps_set (i := 2) nd rfl (Or.inl rfl) (pe_op op_mod (pe_ix (r := rIxL K) ix_list (pv 0) pe_int (fun _ _ => rfl)) (pv 1)))
      (pss_cons (ps_asg (pe_op op_fdivW (pe_ix (r := rIxL K) ix_list (pv 0) pe_int (fun _ _ => rfl)) (pv 1)) (pg_sub (pv 0) pe_int set_list))
      (pss_one (ps_ret (pv 2))))) pss_nil)
      (pss_cons (ps_asg (pe_op op_add (pe_ix (r := rIxL K) ix_list (pv 0) pe_int (fun _ _ => rfl)) pe_int) (pg_sub (pv 0) pe_int set_list))
      (pss_cons (ps_if (pt_cmpR op_le (pe_ix (r := rIxL K) ix_list (pv 0) pe_int (fun _ _ => rfl)) (pe_callB (r := Wd.rLen K) call_len1 (by rfl) T.n_len PySem.boot_len (pa_cons (pe_ix (r := rIxL K) ix_list (pv 0) pe_int (fun _ _ => rfl)) pa_nil)) (nomark _)) (pss_cons (ps_set (i := 3) nd rfl (Or.inl rfl) (pe_ix (r := rIxL K) ix_list (pe_ix (r := rIxL K) ix_list (pv 0) pe_int (fun _ _ => rfl)) (pe_op op_sub (pe_ix (r := rIxL K) ix_list (pv 0) pe_int (fun _ _ => rfl)) pe_int) (fun _ _ => rfl)))
      (pss_cons (ps_asg (pe_ifExp (pt_cmpR op_ge (pv 3) (pe_op op_pow pe_int pe_int) (nomark _)) (pe_op op_fdivW (pv 3) (pv 1)) pe_int) (pg_sub (pv 0) pe_int set_list))
      (pss_one (ps_ret (pe_op op_mod (pv 3) (pv 1)))))) pss_nil)
      (pss_cons (ps_asg (pe_op op_mod (pe_op op_add (pe_op op_mulW (pe_ix (r := rIxL K) ix_list (pv 0) pe_int (fun _ _ => rfl)) pe_int) pe_int) pe_int) (pg_sub (pv 0) pe_int set_list))
      (pss_one (ps_ret (pe_op op_mod (pe_op op_fdivW (pe_ix (r := rIxL K) ix_list (pv 0) pe_int (fun _ _ => rfl)) pe_int) (pv 1)))))))), ?_⟩
    walk_at "go"
    refine g_ixL (SqL.of hS) rfl ?_
    walk_at "go"
    refine g_ite (fun hr0 => ?_) (fun hr0 => ?_)
    · walk_at "go"
      refine g_ixL (SqL.of hS) rfl ?_
      walk_at "go"
      refine g_I n0 ?_
      walk_at "go"
      refine g_ixL (SqL.of hS) rfl ?_
      walk_at "go"
      refine g_I (divW_small n0 n1) ?_
      walk_at "go"
      refine g_setL hS rfl ?_
      walk_at "go"
      exact q _ _ .set ⟨sc, ns, c, m, r / n, upd_same, hsB, fB.trans .set, hl, c0, m0, m1⟩ (Int.emod_nonneg _ (by omega)) (Int.emod_lt_of_pos _ n0)
    · walk_at "go"
      refine g_ixL (SqL.of hS) rfl ?_
      walk_at "go"
      refine g_setL hS rfl ?_
      walk_at "go"
      refine g_ixL (SqL.of upd_same) rfl ?_
      walk_at "go"
      refine g_ixL (SqL.of upd_same) rfl ?_
      walk_at "go"
      refine g_len (.inl (hsc.frm .set).sq) ?_
      walk_at "go"
      rw [List.length_map]
      refine g_ite (fun hc => ?_) (fun hc => ?_)
      · walk_at "go"
        refine g_ixL (SqL.of upd_same) rfl ?_
        walk_at "go"
        refine g_ixL (SqL.of upd_same) rfl ?_
        walk_at "go"
        have hcl : c.toNat < ns.length := by omega
        refine g_ixL (hsc.frm .set).sq (at_of (j := c.toNat) (v := V.int (ns[c.toNat]'hcl)) (by omega) (by rw [List.getElem?_map, List.getElem?_eq_getElem hcl]; rfl)) ?_
        generalize ns[c.toNat]'hcl = z
        walk_at "go"
        refine g_I (pow_small (by decide) (by decide) (by decide)) ?_
        walk_at "go"
        have fin : ∀ x : Int, Frm S H (upd (upd H S (HO.lst [V.ref sc, V.int (c + 1), V.int m, V.int r])) S (HO.lst [V.ref sc, V.int (c + 1), V.int m, V.int x])) ∧ Dst K B (upd (upd H S (HO.lst [V.ref sc, V.int (c + 1), V.int m, V.int r])) S (HO.lst [V.ref sc, V.int (c + 1), V.int m, V.int x])) S := fun x =>
          ⟨Frm.set.trans .set, sc, ns, c + 1, m, x, upd_same, hsB, (fB.trans .set).trans .set, hl, by omega, m0, m1⟩
        refine g_ite (fun hz => ?_) (fun hz => ?_)
        · walk_at "go"
          refine g_I (divW_small n0 n1) ?_
          walk_at "go"
          refine g_setL upd_same rfl ?_
          walk_at "go"
          refine g_I n0 ?_
          exact q _ _ (fin _).1 (fin _).2 (Int.emod_nonneg _ (by omega)) (Int.emod_lt_of_pos _ n0)
        · walk_at "go"
          refine g_setL upd_same rfl ?_
          walk_at "go"
          refine g_I n0 ?_
          exact q _ _ (fin _).1 (fin _).2 (Int.emod_nonneg _ (by omega)) (Int.emod_lt_of_pos _ n0)
      · walk_at "go"
        refine g_ixL (SqL.of upd_same) rfl ?_
        walk_at "go"
        refine g_I (mulW_small m0 (by omega) (by decide) (by decide)) ?_
        walk_at "go"
        refine g_I (show (0 : Int) < 2147483647 by decide) ?_
        walk_at "go"
        refine g_setL upd_same rfl ?_
        walk_at "go"
        refine g_ixL (SqL.of upd_same) rfl ?_
        walk_at "go"
        refine g_I (divW_small (by decide) (by decide)) ?_
        walk_at "go"
        refine g_I n0 ?_
        exact q _ _ (Frm.set.trans .set) ⟨sc, ns, c + 1, _, r, upd_same, hsB, (fB.trans .set).trans .set, hl, by omega, Int.emod_nonneg _ (by decide), Int.emod_lt_of_pos _ (by decide)⟩ (Int.emod_nonneg _ (by omega)) (Int.emod_lt_of_pos _ n0)
theorem use_drawn {B H : Hp} {S : Addr} {n : Int} {Q : VK} {E : XK} (d : Dst K B H S) (h0 : 0 < n) (h1 : n < 10 ^ 38) (k : ∀ H' v, Frm S H H' → Dst K B H' S → 0 ≤ v → v < n → Q (.int v) H') : sp_drawn K ([.ref S, .int n] ++ []) H Q E := ⟨B, S, n, rfl, d, h0, h1, k⟩

def okB (b : Int) : Prop := 1 ≤ b ∧ b ≤ 60
abbrev s_check_beat : Stmt := top 25
theorem sc_check_beat : FnScope ["beat"] ["beat"] (C8.fnScope s_check_beat) := C8.fnScope_by (by decide +kernel)
def sp_check_beat (CT : Addr) : Sp := fun vs H Q E => ∃ b : Int, vs = [.int b] ∧ (okB b → Q .non H) ∧ (¬ okB b → E (.ref CT) none H)
theorem ok_check_beat (T : Txt K mg CW CT CB CM) {f : Addr} {fd : FuncData} (D : C8.Def K mg "check_beat" s_check_beat f fd) (b : Binds K fd ["beat"] []) (g_is_number : C8.Cal P w K mg base 1 "is_number" sp_is_number []) : CalX P w K mg base 2 "check_beat" (sp_check_beat CT) := by
  refine calX D b sc_check_beat (fun vs H Q E h => ?_) fun cdv A outer s H vs Q E hr h => ?_
  · obtain ⟨b, rfl, _⟩ := h; rfl
  · obtain ⟨b, rfl, q1, q2⟩ := h
    have nd := sc_check_beat.nd
    obtain ⟨tg, c_GREATEST_BEAT⟩ := T.c_GREATEST_BEAT
    refine ⟨_, (pss_one (ps_if (PW.pt (pw_or (pt_not (pt_val (C8.pe_c g_is_number hr (by first | decide | exact Nat.le_refl _ | omega) (by rfl) (pa_cons (pv 0) pa_nil)))) (pw_or1 (pt_not (pt_chain op_le op_le pe_int (pv 0) (pe_glob (v := .int 60) rfl c_GREATEST_BEAT ⟨_, rfl⟩)))))) (pss_one (ps_raise rfl (takes_of rfl rfl rfl rfl) (pmk_own PySem.F.excBase_ValueError T.x_BadBeat T.g_BadBeat T.k_BadBeat (raises_own T.b_BadBeat T.t_BadBeat) (by rfl)))) pss_nil)), ?_⟩
    walk_at "go"
    refine ⟨b, rfl, ?_⟩
    walk_at "go"
    refine g_ite (fun h1 => ?_) (fun h1 => ?_)
    · walk_at "go"
      refine g_iteN (fun h2 => ?_) (fun h2 => ?_)
      · exact q2 (fun z => h2 z.2)
      · walk_at "go"
        exact q1 ⟨h1, h2⟩
    · walk_at "go"
      exact q2 (fun z => h1 z.1)
end
end K15
namespace K15
open PySem PySem.Spec PyProof.Rows L2 Wd
local macro_rules | `(tactic| walk_at "go") => `(tactic| repeat (first
  | with_reducible refine Wd.g_seq ?_
  | with_reducible refine Wd.g_nx ?_
  | with_reducible refine Wd.g_asg ?_
  | ((with_reducible refine' Wd.g_var ?h1 ?_); (case h1 => exact rfl))
  | with_reducible refine Wd.g_c ?_
  | with_reducible refine Wd.g_op ?_
  | with_reducible refine Wd.g_un ?_
  | with_reducible refine Wd.g_I0 ?_
  | with_reducible refine Wd.g_U ?_
  | with_reducible refine Wd.g_eqI ?_
  | with_reducible refine Wd.g_neI ?_
  | with_reducible refine Wd.g_eqS ?_
  | with_reducible refine Wd.g_neS ?_
  | with_reducible refine Wd.g_eqB ?_
  | with_reducible refine Wd.g_neB ?_
  | with_reducible refine Wd.g_isN ?_
  | with_reducible refine Wd.g_notN ?_
  | with_reducible refine Wd.g_lc ?_
  | with_reducible refine Wd.g_yes ?_
  | with_reducible refine Wd.g_test ?_
  | with_reducible refine Wd.g_tB ?_
  | with_reducible refine Wd.g_bl ?_
  | with_reducible refine Wd.g_blI ?_
  | with_reducible refine Wd.g_and ?_
  | with_reducible refine Wd.g_or ?_
  | with_reducible refine Wd.g_not ?_
  | with_reducible refine Wd.g_andV ?_
  | with_reducible refine Wd.g_orV ?_
  | with_reducible refine Wd.g_notV ?_
  | with_reducible refine Wd.g_if ?_
  | with_reducible refine Wd.g_chain ?_
  | with_reducible refine Wd.g_chain3 ?_
  | with_reducible refine Wd.g_nil ?_
  | with_reducible refine Wd.g_cons ?_
  | with_reducible refine Wd.g_tup ?_
  | with_reducible refine Wd.g_lst ?_
  | with_reducible refine Wd.g_CB ?_
  | with_reducible refine Wd.g_call ?_
  | with_reducible refine Wd.g_callS ?_
  | with_reducible refine Wd.g_bm ?_
  | with_reducible refine Wd.g_bm0 ?_
  | with_reducible refine Wd.g_sl ?_
  | with_reducible refine Wd.g_part ?_
  | with_reducible refine Wd.g_part1 ?_
  | with_reducible refine Wd.g_noPart ?_
  | with_reducible refine Wd.g_next ?_
  | with_reducible refine Wd.g_name ?_
  | with_reducible refine Wd.g_sub ?_
  | with_reducible refine Wd.g_gnil ?_
  | with_reducible refine Wd.g_gcons ?_
  | with_reducible refine Wd.g_drop ?_
  | with_reducible refine Wd.g_ret ?_
  | with_reducible refine Wd.g_retN ?_
  | with_reducible refine Wd.g_brk ?_
  | with_reducible refine Wd.g_cont ?_
  | with_reducible refine Wd.g_ifS ?_
  | with_reducible refine Wd.g_bk ?_
  | with_reducible refine Wd.g_ct ?_
  | with_reducible refine Wd.g_rt ?_
  | with_reducible refine Wd.g_for ?_
  | with_reducible refine Wd.g_rng1 ?_
  | with_reducible refine Wd.g_rng2 ?_
  | with_reducible refine Wd.g_iList ?_
  | with_reducible refine Wd.g_iTup ?_
  | ((with_reducible refine Wd.g_fit ?h1 ?_); (case h1 => exact rfl))
  | with_reducible refine Wd.g_max2 ?_
  | with_reducible refine Wd.g_min2 ?_
  | with_reducible refine Wd.g_int1B ?_
  | with_reducible refine L2.iteT ?_
  | with_reducible refine L2.iteF ?_
  | ((with_reducible refine Wd.g_itT ?h1 ?_); (case h1 => exact rfl))
  | ((with_reducible refine Wd.g_itF ?h1 ?_); (case h1 => exact rfl))))
/-! ### two fors in a comprehension, over lists -/
def InE (g1 : TG) (tt1 : TT) (te : TE) (vs1 : List Nat) (σ2 : L2.St) (D : Addr) (N : Hp → Prop) (J1 : It) (H4 : Hp) : Prop := ∃ W1 : Nat → Nat → Hp → Prop, (∃ m, W1 0 m H4) ∧ ∀ j k H, W1 j k H →
      (J1.stop j H ∧ N H) ∨ (J1.go j H ∧ ∃ Nx1 : Hp → Prop, (∀ H', Nx1 H' → ∃ k', k' < k ∧ W1 (j + 1) k' H') ∧ ∀ x H', J1.yld j H x H' → g1 x (wipe σ2 vs1) H' fun σ3 H5 => wipe σ3 vs1 = wipe σ2 vs1 ∧ tt1 σ3 H5 fun b H6 =>
        if b = true then te σ3 H6 fun y H7 => ∃ acc, H7 D = some (.lst acc) ∧ acc.length < sizeLine ∧ Nx1 (upd H7 D (.lst (acc ++ [y]))) else Nx1 H6)
theorem inE_list {K : PySem.W.Frag} {g1 : TG} {tt1 : TT} {te : TE} {vs1 : List Nat} {σ2 : L2.St} {D r : Addr} {N : Hp → Prop} {H4 : Hp} {ys : List V} (Pi : Nat → Hp → Prop) (h0 : Pi 0 H4) (hl : ∀ j H, j ≤ ys.length → Pi j H → SqL K H r ys)
    (hs : ∀ j y H, ys[j]? = some y → Pi j H → g1 y (wipe σ2 vs1) H fun σ3 H5 => wipe σ3 vs1 = wipe σ2 vs1 ∧ tt1 σ3 H5 fun b H6 =>
        if b = true then te σ3 H6 fun y H7 => ∃ acc, H7 D = some (.lst acc) ∧ acc.length < sizeLine ∧ Pi (j + 1) (upd H7 D (.lst (acc ++ [y]))) else Pi (j + 1) H6) (hd : ∀ H, Pi ys.length H → N H) : InE g1 tt1 te vs1 σ2 D N (Itl K r) H4 := by
  refine ⟨fun i m H => m = ys.length - i ∧ i ≤ ys.length ∧ Pi i H, ⟨ys.length, by simp, Nat.zero_le _, h0⟩, ?_⟩
  rintro i m H ⟨rfl, hi, p⟩
  have q := hl i H hi p
  by_cases hlt : i < ys.length
  · refine .inr ⟨⟨ys, ys[i], q, by simp [hlt]⟩, Pi (i + 1), fun H' p' => ⟨ys.length - (i + 1), by omega, rfl, hlt, p'⟩, fun x H' y => ?_⟩
    obtain ⟨e, y⟩ := y
    subst e
    exact hs i x _ (y ys q) p
  · have e : i = ys.length := by omega
    subst e
    exact .inl ⟨⟨ys, q, Nat.le_refl _⟩, hd H p⟩
def Lc2End (g : TG) (tt : TT) (wi1 : TI) (g1 : TG) (tt1 : TT) (te : TE) (vs vs1 : List Nat) (σ : L2.St) (Q : VK) (J : It) (H1 : Hp) : Prop := ∀ D, H1 D = none → ∃ W : Nat → Nat → Hp → Prop, (∃ m, W 0 m (upd H1 D (.lst []))) ∧ ∀ i m H, W i m H →
  (J.stop i H ∧ Q (.ref D) H) ∨ (J.go i H ∧ ∃ Nx : Hp → Prop, (∀ H', Nx H' → ∃ m', m' < m ∧ W (i + 1) m' H') ∧ ∀ x H', J.yld i H x H' → g x (wipe σ vs) H' fun σ2 H2 => wipe σ2 vs = wipe σ vs ∧ tt σ2 H2 fun b H3 =>
    if b = true then wi1 σ2 H3 (InE g1 tt1 te vs1 σ2 D Nx) else Nx H3)
theorem g_lc2 {σ : L2.St} {H : Hp} {Q : VK} {wi : TI} {g : TG} {tt : TT} {wi1 : TI} {g1 : TG} {tt1 : TT} {te : TE} {vs vs1 : List Nat} (h : wi σ H (Lc2End g tt wi1 g1 tt1 te vs vs1 σ Q)) : tLc2 wi g tt wi1 g1 tt1 te vs vs1 σ H Q := h
theorem w_lc2 {K : PySem.W.Frag} {σ : L2.St} {H : Hp} {Q : VK} {g : TG} {tt : TT} {wi1 : TI} {g1 : TG} {tt1 : TT} {te : TE} {vs vs1 : List Nat} {p : Addr} {xs : List V} (hp : SqL K H p xs) (Po : Addr → Nat → Hp → Prop)
    (h0 : ∀ D, H D = none → Po D 0 (upd H D (.lst []))) (hl : ∀ D i H', H D = none → i ≤ xs.length → Po D i H' → SqL K H' p xs)
    (hs : ∀ D i x H', H D = none → xs[i]? = some x → Po D i H' → g x (wipe σ vs) H' fun σ2 H2 => wipe σ2 vs = wipe σ vs ∧ tt σ2 H2 fun b H3 => if b = true then wi1 σ2 H3 (InE g1 tt1 te vs1 σ2 D (Po D (i + 1))) else Po D (i + 1) H3) (hd : ∀ D H', H D = none → Po D xs.length H' → Q (.ref D) H') :
    ∃ q, V.ref p = .ref q ∧ (∃ xs, SqL K H q xs) ∧ Lc2End g tt wi1 g1 tt1 te vs vs1 σ Q (Itl K q) H := by
  refine ⟨p, rfl, ⟨xs, hp⟩, fun D hD => ?_⟩
  refine ⟨fun i m H => m = xs.length - i ∧ i ≤ xs.length ∧ Po D i H, ⟨xs.length, by simp, Nat.zero_le _, h0 D hD⟩, ?_⟩
  rintro i m H' ⟨rfl, hi, po⟩
  have q := hl D i H' hD hi po
  by_cases hlt : i < xs.length
  · refine .inr ⟨⟨xs, xs[i], q, by simp [hlt]⟩, Po D (i + 1), fun H' p' => ⟨xs.length - (i + 1), by omega, rfl, hlt, p'⟩, fun x H' y => ?_⟩
    obtain ⟨e, y⟩ := y
    subst e
    exact hs D i x _ hD (y xs q) po
  · have e : i = xs.length := by omega
    subst e
    exact .inl ⟨⟨xs, q, Nat.le_refl _⟩, hd D H' hD po⟩
/-- works in a list -/
abbrev Wk := Addr × Int × Int
structure WkL (H : Hp) (L : Addr) (zs : List Wk) : Prop where
  at_ : H L = some (.lst (zs.map fun z => V.ref z.1))
  own : ∀ z ∈ zs, H z.1 = some (.tup [.int z.2.1, .int z.2.2])
theorem WkL.same {H H' : Hp} {L : Addr} {zs : List Wk} (w : WkL H L zs) (e : Same H H') : WkL H' L zs := ⟨e _ _ w.at_, fun z hz => e _ _ (w.own z hz)⟩
theorem zs_at {zs : List Wk} {i : Nat} {x : V} (h : (zs.map fun z => V.ref z.1)[i]? = some x) : ∃ z, zs[i]? = some z ∧ x = .ref z.1 := by
  rw [List.getElem?_map] at h
  cases hq : zs[i]? with
  | none => rw [hq] at h; cases h
  | some z => rw [hq] at h; exact ⟨z, rfl, (Option.some.inj h).symm⟩
theorem map_at2 {α : Type} {l : List α} {f : α → V} {i : Nat} {x : V} (h : (l.map f)[i]? = some x) : ∃ z, l[i]? = some z ∧ x = f z := by
  rw [List.getElem?_map] at h
  cases hq : l[i]? with
  | none => rw [hq] at h; cases h
  | some z => rw [hq] at h; exact ⟨z, rfl, (Option.some.inj h).symm⟩
theorem take_snocM {α β : Type} {l : List α} {i : Nat} {x : α} (f : α → β) (h : l[i]? = some x) : (l.take (i + 1)).map f = (l.take i).map f ++ [f x] := by
  rw [List.take_add_one, h, List.map_append]; rfl
section
variable {P : Program} {w : World} {K : PySem.W.Frag} {mg : Str → Option Value} {base : Heap} {CW CT CB CM : Addr}
def okT (zs : List Wk) : Prop := 1 ≤ zs.length ∧ zs.length ≤ 4 ∧ ∀ z ∈ zs, 1 ≤ z.2.1 ∧ z.2.1 ≤ z.2.2 ∧ z.2.2 ≤ 60
abbrev s_check_tasks : Stmt := top 26
theorem sc_check_tasks : FnScope ["tasks", "least", "most"] ["tasks"] (C8.fnScope s_check_tasks) := C8.fnScope_by (by decide +kernel)
def sp_check_tasks (CB : Addr) : Sp := fun vs H Q E => ∃ (L : Addr) (zs : List Wk), vs = [.ref L] ∧ WkL H L zs ∧ (okT zs → Q .non H) ∧ (¬ okT zs → E (.ref CB) none H)
theorem ok_check_tasks (T : Txt K mg CW CT CB CM) {f : Addr} {fd : FuncData} (D : C8.Def K mg "check_tasks" s_check_tasks f fd) (b : Binds K fd ["tasks"] []) (g_is_range : C8.Cal P w K mg base 2 "is_range" sp_is_range []) : CalX P w K mg base 3 "check_tasks" (sp_check_tasks CB) := by
  refine calX D b sc_check_tasks (fun vs H Q E h => ?_) fun cdv A outer s H vs Q E hr h => ?_
  · obtain ⟨L, zs, rfl, _⟩ := h; rfl
  · obtain ⟨L, zs, rfl, wk, q1, q2⟩ := h
    have nd := sc_check_tasks.nd
    obtain ⟨t1, c_MOST_TASKS⟩ := T.c_MOST_TASKS
    obtain ⟨t2, c_LONGEST_TASK⟩ := T.c_LONGEST_TASK
    refine ⟨_, (pss_cons (ps_if (pt_not (pt_chain op_le op_le pe_int (pe_callB (r := Wd.rLen K) call_len1 (by rfl) T.n_len PySem.boot_len (pa_cons (pv 0) pa_nil)) (pe_glob (v := .int 4) rfl c_MOST_TASKS ⟨_, rfl⟩))) (pss_one (ps_raise rfl (takes_of rfl rfl rfl rfl) (pmk_own PySem.F.excBase_ValueError T.x_BadTasks T.g_BadTasks T.k_BadTasks (raises_own T.b_BadTasks T.t_BadTasks) (by rfl)))) pss_nil)
      (pss_one (ps_for (passes_of rfl) rfl (pi_list (pv 0)) (pg_tup rfl (pgs_cons (pg_name (i := 1) nd rfl (Or.inl rfl)) (pgs_cons (pg_name (i := 2) nd rfl (Or.inl rfl)) pgs_nil))) (pss_one (ps_if (PW.pt (pw_or (pt_not (pt_val (C8.pe_c g_is_range hr (by first | decide | exact Nat.le_refl _ | omega) (by rfl) (pa_cons (pv 1) (pa_cons (pv 2) (pa_cons (pe_glob (v := .int 60) rfl c_LONGEST_TASK ⟨_, rfl⟩) pa_nil)))))) (pw_or1 (pt_cmpR op_eq (pv 1) pe_int (nomark _))))) (pss_one (ps_raise rfl (takes_of rfl rfl rfl rfl) (pmk_own PySem.F.excBase_ValueError T.x_BadTasks T.g_BadTasks T.k_BadTasks (raises_own T.b_BadTasks T.t_BadTasks) (by rfl)))) pss_nil))))), ?_⟩
    walk_at "go"
    refine g_len (.inl (SqL.of wk.at_)) ?_
    walk_at "go"
    rw [List.length_map]
    refine g_ite (fun h1 => ?_) (fun h1 => ?_)
    · walk_at "go"
      by_cases h2 : (zs.length : Int) ≤ 4
      · rw [decide_eq_true h2]
        refine L2.iteF ?_
        have hl : 1 ≤ zs.length ∧ zs.length ≤ 4 := ⟨by omega, by omega⟩
        walk_at "go"
        refine w_list (xs := zs.map fun z => V.ref z.1) (fun i σ H' => H' = H ∧ (∃ (v1 v2 : Option V), σ = [some (.ref L), v1, v2]) ∧ ∀ j z, j < i → zs[j]? = some z → 1 ≤ z.2.1 ∧ z.2.1 ≤ z.2.2 ∧ z.2.2 ≤ 60) ?_ ?_ ?_ ?_
        · exact ⟨rfl, ⟨_, _, rfl⟩, fun j z hj => by omega⟩
        · rintro i σ H' _ ⟨rfl, _⟩; exact SqL.of wk.at_
        · rintro i x σ H' hx ⟨rfl, ⟨v1, v2, rfl⟩, ok⟩
          obtain ⟨z, hz, rfl⟩ := zs_at hx
          have zm := List.mem_of_getElem? hz
          walk_at "go"
          refine g_gtup (SqT.of (wk.own z zm)) rfl ?_
          walk_at "go"
          refine ⟨z.2.1, z.2.2, 60, rfl, ?_⟩
          walk_at "go"
          refine g_iteN (fun h2 => ?_) (fun h2 => ?_)
          · exact q2 (fun q => h2 ⟨by have := (q.2.2 z zm).1; omega, (q.2.2 z zm).2⟩)
          · walk_at "go"
            refine g_ite (fun h3 => ?_) (fun h3 => ?_)
            · exact q2 (fun q => by have := (q.2.2 z zm).1; omega)
            · walk_at "go"
              refine ⟨rfl, ⟨_, _, rfl⟩, fun j y hj hy => ?_⟩
              by_cases c : j < i
              · exact ok j y c hy
              · have : j = i := by omega
                subst this
                cases hz.symm.trans hy
                exact ⟨by omega, h2.2⟩
        · rintro σ H' ⟨rfl, ⟨v1, v2, rfl⟩, ok⟩
          rw [List.length_map] at ok
          walk_at "go"
          refine q1 ⟨hl.1, hl.2, fun z hz => ?_⟩
          obtain ⟨j, hj, rfl⟩ := List.mem_iff_getElem.mp hz
          exact ok j _ hj (List.getElem?_eq_getElem hj)
      · rw [decide_eq_false h2]
        refine L2.iteT ?_
        exact q2 (fun z => h2 (by have := z.2.1; omega))
    · walk_at "go"
      exact q2 (fun z => h1 (by have := z.1; omega))

def okM (hi b : Int) (zs : List Wk) : Prop := zs.length ≤ 2 ∧ (∀ z ∈ zs, z.2.2 ≤ 8) ∧ b ≤ 6 ∧ hi ≤ 24
abbrev s_check_searched : Stmt := top 27
theorem sc_check_searched : FnScope ["window", "beat", "tasks", "longest", "least", "most"] ["window", "beat", "tasks"] (C8.fnScope s_check_searched) := C8.fnScope_by (by decide +kernel)
def sp_check_searched (K : PySem.W.Frag) (CM : Addr) : Sp := fun vs H Q E => ∃ (W L : Addr) (lo hi b : Int) (zs : List Wk), vs = [.ref W, .int b, .ref L] ∧ SqT K H W [.int lo, .int hi] ∧ WkL H L zs ∧ 1 ≤ zs.length ∧ zs.length ≤ 4 ∧ (okM hi b zs → ∀ H', Same H H' → Q .non H') ∧ (¬ okM hi b zs → ∀ H', Same H H' → E (.ref CM) none H')
theorem ok_check_searched (T : Txt K mg CW CT CB CM) {f : Addr} {fd : FuncData} (D : C8.Def K mg "check_searched" s_check_searched f fd) (b : Binds K fd ["window", "beat", "tasks"] []) : CalX P w K mg base 1 "check_searched" (sp_check_searched K CM) := by
  refine calX D b sc_check_searched (fun vs H Q E h => ?_) fun cdv A outer s H vs Q E hr h => ?_
  · obtain ⟨W, L, lo, hi, b, zs, rfl, _⟩ := h; rfl
  · obtain ⟨W, L, lo, hi, b, zs, rfl, hW, wk, l1, l4, q1, q2⟩ := h
    have nd := sc_check_searched.nd
    obtain ⟨t1, c_MOST_SEARCHED_TASKS⟩ := T.c_MOST_SEARCHED_TASKS
    obtain ⟨t2, c_LONGEST_SEARCHED_TASK⟩ := T.c_LONGEST_SEARCHED_TASK
    obtain ⟨t3, c_GREATEST_SEARCHED_BEAT⟩ := T.c_GREATEST_SEARCHED_BEAT
    obtain ⟨t4, c_GREATEST_SEARCHED_HIGH⟩ := T.c_GREATEST_SEARCHED_HIGH
    refine ⟨_, (pss_cons (ps_set (i := 3) nd rfl (Or.inl rfl) (pe_callB (r := rMax K) (cr_max rfl) (by rfl) T.n_max (by decide +kernel) (pa_cons (pe_lc (own := [("least", 4), ("most", 5)]) (g := (gTup K 2 (gCons (gName 4) (gCons (gName 5) gNil)))) (tt := tYes) rfl nd (pi_list (pv 2)) (blkOk_by (N := ["window", "beat", "tasks", "longest", "least", "most"]) (sc := C8.fnScope s_check_searched) (by decide +kernel)) (fun _ _ _ _ _ => (pg_tup rfl (pgs_cons (pg_name (i := 4) nd rfl (Or.inl rfl)) (pgs_cons (pg_name (i := 5) nd rfl (Or.inl rfl)) pgs_nil)))) (fun _ _ _ _ _ => pts_nil) (fun _ _ _ _ _ => (pv 5))) pa_nil)))
      (pss_cons (ps_if (PW.pt (pw_or (pt_cmpR op_gt (pe_callB (r := Wd.rLen K) call_len1 (by rfl) T.n_len PySem.boot_len (pa_cons (pv 2) pa_nil)) (pe_glob (v := .int 2) rfl c_MOST_SEARCHED_TASKS ⟨_, rfl⟩) (nomark _)) (pw_or1 (pt_cmpR op_gt (pv 3) (pe_glob (v := .int 8) rfl c_LONGEST_SEARCHED_TASK ⟨_, rfl⟩) (nomark _))))) (pss_one (ps_raise rfl (takes_of rfl rfl rfl rfl) (pmk_own PySem.F.excBase_ValueError T.x_TooMuch T.g_TooMuch T.k_TooMuch (raises_own T.b_TooMuch T.t_TooMuch) (by rfl)))) pss_nil)
      (pss_one (ps_if (PW.pt (pw_or (pt_cmpR op_gt (pv 1) (pe_glob (v := .int 6) rfl c_GREATEST_SEARCHED_BEAT ⟨_, rfl⟩) (nomark _)) (pw_or1 (pt_cmpR op_gt (pe_ix (r := rIxT K) ix_tup (pv 0) pe_int (fun _ _ => rfl)) (pe_glob (v := .int 24) rfl c_GREATEST_SEARCHED_HIGH ⟨_, rfl⟩) (nomark _))))) (pss_one (ps_raise rfl (takes_of rfl rfl rfl rfl) (pmk_own PySem.F.excBase_ValueError T.x_TooMuch T.g_TooMuch T.k_TooMuch (raises_own T.b_TooMuch T.t_TooMuch) (by rfl)))) pss_nil)))), ?_⟩
    walk_at "go"
    refine w_lcList (SqL.of wk.at_) (fun D i H' => Same H H' ∧ H' D = some (.lst (((zs.take i).map fun z => z.2.2).map V.int))) (fun D hD => ⟨same_new hD, upd_same⟩) (fun D i H' hD _ h => SqL.of (h.1 _ _ wk.at_)) (fun D i y H' hD hy h => ?_) (fun D1 H1 hD1 h => ?_)
    · obtain ⟨z, hz, rfl⟩ := zs_at hy
      walk_at "go"
      refine g_gtup (SqT.of (h.1 _ _ (wk.own z (List.mem_of_getElem? hz)))) rfl ?_
      walk_at "go"
      refine ⟨rfl, ?_⟩
      walk_at "go"
      exact ⟨_, h.2, by rw [sizeLine_eq, List.length_map, List.length_map]; have := List.length_take_le i zs; have := (List.getElem?_eq_some_iff.mp hz).1; omega, Wd.Same.mut h.1 hD, by rw [upd_same, take_snocM _ hz, List.map_append]; rfl⟩
    obtain ⟨s1, e1⟩ := h
    rw [List.length_map, List.take_length] at e1
    walk_at "go"
    refine ⟨D1, _, rfl, SqL.of e1, by rw [List.length_map]; omega, fun mx hmx hle => ?_⟩
    have m8 : mx ≤ 8 ↔ ∀ z ∈ zs, z.2.2 ≤ 8 := ⟨fun h z hz => by have := hle z.2.2 (List.mem_map.mpr ⟨z, hz, rfl⟩); omega, fun h => by
      obtain ⟨z, hz, rfl⟩ := List.mem_map.mp hmx
      exact h z hz⟩
    walk_at "go"
    refine g_len (.inl (SqL.of (s1 _ _ wk.at_))) ?_
    walk_at "go"
    rw [List.length_map]
    refine g_ite (fun h2 => ?_) (fun h2 => ?_)
    · exact q2 (fun z => by have := z.1; omega) _ s1
    walk_at "go"
    refine g_ite (fun h3 => ?_) (fun h3 => ?_)
    · exact q2 (fun z => by have := m8.mpr z.2.1; omega) _ s1
    walk_at "go"
    refine g_ite (fun h4 => ?_) (fun h4 => ?_)
    · exact q2 (fun z => by have := z.2.2.1; omega) _ s1
    walk_at "go"
    refine g_ixT (tup_same s1 hW) rfl ?_
    walk_at "go"
    refine g_ite (fun h5 => ?_) (fun h5 => ?_)
    · exact q2 (fun z => by have := z.2.2.2; omega) _ s1
    walk_at "go"
    exact q1 ⟨by omega, m8.mp (by omega), by omega, by omega⟩ _ s1

abbrev s_waits_behind : Stmt := top 28
theorem sc_waits_behind : FnScope ["task", "wait", "least", "most"] ["task", "wait"] (C8.fnScope s_waits_behind) := C8.fnScope_by (by decide +kernel)
def sp_waits_behind (K : PySem.W.Frag) : Sp := fun vs H Q _ => ∃ (t : Addr) (a c x : Int), vs = [.ref t, .int x] ∧ SqT K H t [.int a, .int c] ∧ ∀ H' D, Same H H' → H D = none → H' D = some (.lst ((wbh (a, c) x).map V.int)) → Q (.ref D) H'
theorem ok_waits_behind (T : Txt K mg CW CT CB CM) {f : Addr} {fd : FuncData} (D : C8.Def K mg "waits_behind" s_waits_behind f fd) (b : Binds K fd ["task", "wait"] []) : C8.Cal P w K mg base 1 "waits_behind" (sp_waits_behind K) [] := by
  refine C8.cal0 D b .nil sc_waits_behind (fun vs H Q E h => ?_) fun cdv A outer s H vs Q E hr h => ?_
  · obtain ⟨t, a, c, x, rfl, _⟩ := h; rfl
  · obtain ⟨t, a, c, x, rfl, ht, q⟩ := h
    have nd := sc_waits_behind.nd
    refine ⟨_, (pss_cons (ps_asg (pv 0) (pg_tup rfl (pgs_cons (pg_name (i := 2) nd rfl (Or.inl rfl)) (pgs_cons (pg_name (i := 3) nd rfl (Or.inl rfl)) pgs_nil))))
      (pss_cons (ps_if (pt_cmpR op_lt (pe_op op_add (pv 1) pe_int) (pv 2) (nomark _)) (pss_one (ps_ret (pe_lst (pa_cons (pe_op op_add (pv 1) pe_int) pa_nil)))) pss_nil)
      (pss_cons (ps_if (pt_cmpR op_eq (pe_op op_add (pv 1) pe_int) (pv 3) (nomark _)) (pss_one (ps_ret (pe_lst (pa_cons pe_int pa_nil)))) pss_nil)
      (pss_one (ps_ret (pe_lst (pa_cons (pe_op op_add (pv 1) pe_int) (pa_cons pe_int pa_nil)))))))), ?_⟩
    walk_at "go"
    refine g_gtup ht rfl ?_
    walk_at "go"
    refine g_ite (fun h1 => ?_) (fun h1 => ?_)
    · have e : wbh (a, c) x = [x + 1] := if_pos h1
      rw [e] at q
      walk_at "go"
      intro D hD
      exact q _ D (same_new hD) hD upd_same
    walk_at "go"
    refine g_ite (fun h2 => ?_) (fun h2 => ?_)
    · have e : wbh (a, c) x = [0] := (if_neg h1).trans (if_pos h2)
      rw [e] at q
      walk_at "go"
      intro D hD
      exact q _ D (same_new hD) hD upd_same
    · have e : wbh (a, c) x = [x + 1, 0] := (if_neg h1).trans (if_neg h2)
      rw [e] at q
      walk_at "go"
      intro D hD
      exact q _ D (same_new hD) hD upd_same

/-- tuples of numbers in a list -/
structure RowsT (H : Hp) (D : Addr) (rs : List (Addr × List Int)) : Prop where
  at_ : H D = some (.lst (rs.map fun r => V.ref r.1))
  own : ∀ r ∈ rs, H r.1 = some (.tup (r.2.map V.int))
theorem RowsT.same {H H' : Hp} {D : Addr} {rs : List (Addr × List Int)} (t : RowsT H D rs) (e : Same H H') : RowsT H' D rs := ⟨e _ _ t.at_, fun r hr => e _ _ (t.own r hr)⟩
theorem RowsT.put {H : Hp} {D M : Addr} {rs : List (Addr × List Int)} {r : List Int} (t : RowsT H D rs) (h : H M = some (.tup (r.map V.int))) : RowsT (upd H D (.lst ((rs.map fun r => V.ref r.1) ++ [.ref M]))) D (rs ++ [(M, r)]) := by
  refine ⟨by rw [upd_same, List.map_append]; rfl, fun z hz => ?_⟩
  rw [List.mem_append, List.mem_singleton] at hz
  rcases hz with hz | rfl
  · rw [upd_ne (ne_of (t.own z hz) t.at_ (fun z => nomatch z))]; exact t.own z hz
  · rw [upd_ne (ne_of h t.at_ (fun z => nomatch z))]; exact h
theorem int_at {ns : List Int} {i : Nat} {x : V} (h : (ns.map V.int)[i]? = some x) : ∃ n, ns[i]? = some n ∧ x = .int n := map_at h
abbrev s_all_waits_behind : Stmt := top 29
theorem sc_all_waits_behind : FnScope ["tasks", "waits", "rows", "task", "wait", "row", "later"] ["tasks", "waits"] (C8.fnScope s_all_waits_behind) := C8.fnScope_by (by decide +kernel)
def sp_all_waits (K : PySem.W.Frag) : Sp := fun vs H Q _ => ∃ (L Wt : Addr) (zs : List Wk) (xs : List Int), vs = [.ref L, .ref Wt] ∧ WkL H L zs ∧ H Wt = some (.tup (xs.map V.int)) ∧ zs.length = xs.length ∧ zs.length ≤ 4 ∧ ∀ H' D rs, Same H H' → H D = none → RowsT H' D rs → rs.map (·.2) = awb (zs.map (·.2)) xs → Q (.ref D) H'
theorem ok_all_waits (T : Txt K mg CW CT CB CM) {f : Addr} {fd : FuncData} (D : C8.Def K mg "all_waits_behind" s_all_waits_behind f fd) (b : Binds K fd ["tasks", "waits"] []) (g_waits_behind : C8.Cal P w K mg base 1 "waits_behind" (sp_waits_behind K) []) : C8.Cal P w K mg base 2 "all_waits_behind" (sp_all_waits K) [] := by
  refine C8.cal0 D b .nil sc_all_waits_behind (fun vs H Q E h => ?_) fun cdv A outer s H vs Q E hr h => ?_
  · obtain ⟨L, Wt, zs, xs, rfl, _⟩ := h; rfl
  · obtain ⟨L, Wt, zs, xs, rfl, wk, hWt, hl, l4, q⟩ := h
    have nd := sc_all_waits_behind.nd
    refine ⟨_, (pss_cons (ps_set (i := 2) nd rfl (Or.inl rfl) (pe_lst (pa_cons (pe_tup pa_nil) pa_nil)))
      (pss_cons (ps_for PassesOwn.never rfl (pi_zipM (by rfl) T.n_zip (pa_cons (pv 0) (pa_cons (pv 1) pa_nil))) (pg_tup rfl (pgs_cons (pg_name (i := 3) nd rfl (Or.inr rfl)) (pgs_cons (pg_name (i := 4) nd rfl (Or.inr rfl)) pgs_nil))) (pss_one (ps_setLc2 (i := 2) (own := [("row", 5), ("later", 6)]) (g := gName 5) (tt := tYes) (wi1 := iList K _) (g1 := gName 6) (tt1 := tYes) (vs1 := [6]) rfl nd rfl rfl (sw_true rfl rfl rfl (by decide +kernel)) (pi_list (pv 2)) (blkOk_by (N := ["tasks", "waits", "rows", "task", "wait", "row", "later"]) (sc := C8.fnScope s_all_waits_behind) (by decide +kernel)) (by decide) (fun _ _ _ _ _ => pg_name (i := 5) nd rfl (Or.inl rfl)) (fun _ _ _ _ _ => pts_nil) (fun _ _ _ _ _ => (pi_list (C8.pe_c g_waits_behind hr (by first | decide | exact Nat.le_refl _ | omega) (by rfl) (pa_cons (pv 3) (pa_cons (pv 4) pa_nil))))) (fun _ _ _ _ _ => pg_name (i := 6) nd rfl (Or.inl rfl)) (fun _ _ _ _ _ => pts_nil) (fun _ _ _ _ _ => (pe_op (r := rCatA K) op_catA (pv 5) (pe_tup (pa_cons (pv 6) pa_nil)))))))
      (pss_one (ps_ret (pv 2))))), ?_⟩
    walk_at "go"
    intro t0 ht0
    have s0 := same_new (o := .tup []) ht0
    have e0 := upd_same (H := H) (a := t0) (o := .tup [])
    generalize upd H t0 (.tup []) = H0 at s0 e0
    walk_at "go"
    intro D0 hD0
    have s1 := same_new (o := .lst [.ref t0]) hD0
    have r1 : RowsT (upd H0 D0 (.lst [.ref t0])) D0 [(t0, [])] := ⟨upd_same, fun r hr => by
      rw [List.mem_singleton] at hr; subst hr; exact s1 _ _ e0⟩
    have n1 := Wd.Same.back s0 hD0
    have s01 := s0.trans s1
    generalize upd H0 D0 (.lst [.ref t0]) = H1 at s1 r1 s01
    clear s0 s1 e0 ht0 hD0
    walk_at "go"
    refine g_zipM ?_
    walk_at "go"
    refine w_zipM (p := L) (r := Wt) (xs := zs.map fun z => V.ref z.1) (ys := xs.map V.int) (by rw [List.length_map, List.length_map]; exact hl) (fun i σ H' => ∃ (DD : Addr) (rs : List (Addr × List Int)) (v3 v4 v5 v6 : Option V), σ = [some (.ref L), some (.ref Wt), some (.ref DD), v3, v4, v5, v6] ∧ Same H H' ∧ H DD = none ∧ RowsT H' DD rs ∧ (∀ r ∈ rs, r.2.length ≤ i) ∧ rs.map (·.2) = allW [[]] (((zs.map (·.2)).zip xs).take i)) ?_ ?_ ?_ ?_
    · exact ⟨D0, _, _, _, _, _, rfl, s01, n1, r1, fun r hr => (by rw [List.mem_singleton] at hr; subst hr; exact Nat.le_refl 0), rfl⟩
    · rintro i σ H' ⟨DD, rs, v3, v4, v5, v6, rfl, sm, _⟩
      exact ⟨SqL.of (sm _ _ wk.at_), SqT.of (sm _ _ hWt)⟩
    · rintro i x y TT σ H2 hx hy ⟨DD, rs, v3, v4, v5, v6, rfl, sm, nD, rl, rz, er⟩ hTT
      obtain ⟨z, hz, rfl⟩ := zs_at hx
      obtain ⟨n, hn, rfl⟩ := int_at hy
      have zm := List.mem_of_getElem? hz
      have il := (List.getElem?_eq_some_iff.mp hz).1
      have sT := same_new (o := .tup [V.ref z.1, V.int n]) hTT
      have sm2 := sm.trans sT
      have rl2 := rl.same sT
      have eT := upd_same (H := H2) (a := TT) (o := .tup [V.ref z.1, V.int n])
      generalize upd H2 TT (.tup [V.ref z.1, V.int n]) = H3 at sT sm2 rl2 eT
      clear rl sm sT hTT
      have snoc : allW [[]] (((zs.map (·.2)).zip xs).take (i + 1)) = stepW (rs.map (·.2)) z.2 n := by
        have hzz : ((zs.map (·.2)).zip xs)[i]? = some (z.2, n) := by
          rw [List.getElem?_zip_eq_some]
          exact ⟨by rw [List.getElem?_map, hz]; rfl, hn⟩
        rw [List.take_add_one, hzz]
        show allW [[]] (_ ++ [_]) = _
        rw [allW_snoc, ← er]
      have rlen : rs.length ≤ 16 := by
        have h1 := allW_len (((zs.map (·.2)).zip xs).take i) [[]]
        have h2 := congrArg List.length er
        rw [List.length_map] at h2
        have h3 : (((zs.map (·.2)).zip xs).take i).length ≤ 4 := by rw [List.length_take, List.length_zip, List.length_map]; omega
        have h4 : 2 ^ (((zs.map (·.2)).zip xs).take i).length ≤ 2 ^ 4 := Nat.pow_le_pow_right (by decide) h3
        rw [List.length_singleton, Nat.one_mul] at h1
        omega
      walk_at "go"
      refine g_gtup (SqT.of eT) rfl ?_
      walk_at "go"
      refine g_lc2 ?_
      walk_at "go"
      refine w_lc2 (SqL.of rl2.at_) (fun D i H' => Same H3 H' ∧ ∃ ys, RowsT H' D ys ∧ ys.map (·.2) = stepW ((rs.map (·.2)).take i) z.2 n) (fun D hD => ⟨same_new hD, [], ⟨upd_same, fun r hr => nomatch hr⟩, rfl⟩) (fun D i H' hD _ h => SqL.of (h.1 _ _ rl2.at_)) (fun D j x H6 hD hx h => ?_) (fun RR H6 hRR h => ?_)
      · obtain ⟨r, hr', rfl⟩ := map_at2 hx
        obtain ⟨s6, ys, ry, ey⟩ := h
        have rm := List.mem_of_getElem? hr'
        have ro := s6 _ _ (rl2.own r rm)
        have jl := (List.getElem?_eq_some_iff.mp hr').1
        have s06 := sm2.trans s6
        walk_at "go"
        refine ⟨rfl, ?_⟩
        walk_at "go"
        refine ⟨z.1, z.2.1, z.2.2, n, rfl, SqT.of (s06 _ _ (wk.own z zm)), fun H7 Nx s7 hNx eNx => ?_⟩
        refine ⟨Nx, rfl, ⟨_, SqL.of eNx⟩, ?_⟩
        have wl := wbh_len z.2 n
        have ylen : ys.length ≤ 32 := by
          have h1 := congrArg List.length ey
          have h2 := stepW_len (acc := (rs.map (·.2)).take j) (t := z.2) (x := n)
          rw [List.length_map] at h1
          rw [List.length_take, List.length_map] at h2
          omega
        refine inE_list (ys := (wbh z.2 n).map V.int) (fun k H' => Same H3 H' ∧ H' Nx = some (.lst ((wbh z.2 n).map V.int)) ∧ ∃ us, RowsT H' D us ∧ us.map (·.2) = stepW ((rs.map (·.2)).take j) z.2 n ++ ((wbh z.2 n).take k).map (fun y => r.2 ++ [y])) ⟨s6.trans s7, eNx, ys, ry.same s7, by rw [List.take_zero, List.map_nil, List.append_nil]; exact ey⟩ (fun k H' _ h => SqL.of h.2.1) (fun k y H8 hy h => ?_) (fun H8 h => ?_)
        · obtain ⟨p, hp, rfl⟩ := int_at hy
          obtain ⟨s8, nx8, us, ru, eu⟩ := h
          have kl := (List.getElem?_eq_some_iff.mp hp).1
          have lu : us.length ≤ 100 := by
            have h1 := congrArg List.length eu
            have h2 := congrArg List.length ey
            rw [List.length_map, List.length_append, List.length_map, ← h2, List.length_map] at h1
            have := List.length_take_le k (wbh z.2 n)
            omega
          have nND : Nx ≠ D := fun z => by rw [z, ry.at_] at hNx; cases hNx
          have fin : ∀ (H9 : Hp) (M : Addr), Same H8 H9 → H9 M = some (.tup ((r.2 ++ [p]).map V.int)) → ∃ acc, H9 D = some (.lst acc) ∧ acc.length < sizeLine ∧ Same H3 (upd H9 D (.lst (acc ++ [V.ref M]))) ∧ upd H9 D (.lst (acc ++ [V.ref M])) Nx = some (.lst ((wbh z.2 n).map V.int)) ∧ ∃ us, RowsT (upd H9 D (.lst (acc ++ [V.ref M]))) D us ∧ us.map (·.2) = stepW ((rs.map (·.2)).take j) z.2 n ++ ((wbh z.2 n).take (k + 1)).map (fun y => r.2 ++ [y]) := fun H9 M s9 e9 => by
            have ru9 := ru.same s9
            refine ⟨_, ru9.at_, by rw [sizeLine_eq, List.length_map]; omega, Wd.Same.mut (s8.trans s9) hD, by rw [upd_ne nND]; exact s9 _ _ nx8, us ++ [(M, r.2 ++ [p])], ru9.put e9, ?_⟩
            rw [List.map_append, eu, List.append_assoc, take_snocM _ hp]; rfl
          walk_at "go"
          refine ⟨rfl, ?_⟩
          walk_at "go"
          intro M1 hM1
          have sM1 := same_new (o := .tup [V.int p]) hM1
          have eM1 := upd_same (H := H8) (a := M1) (o := .tup [V.int p])
          generalize upd H8 M1 (.tup [V.int p]) = H9 at sM1 eM1
          refine ⟨r.1, M1, _, _, rfl, rfl, SqT.of (sM1 _ _ (s8 _ _ (rl2.own r rm))), SqT.of eM1, ?_, fun e => ?_, fun _ e => (nomatch e), fun _ _ M hM => ?_⟩
          · have := rz r rm
            rw [sizeLine_eq, List.length_map, List.length_singleton]; omega
          · have e' : r.2 = [] := List.map_eq_nil_iff.mp e
            exact fin H9 M1 sM1 (by rw [eM1, e']; rfl)
          · have sM := same_new (o := .tup (r.2.map V.int ++ [V.int p])) hM
            exact fin _ M (sM1.trans sM) (by rw [upd_same, List.map_append]; rfl)
        · obtain ⟨s8, nx8, us, ru, eu⟩ := h
          refine ⟨s8, us, ru, ?_⟩
          rw [eu, List.length_map, List.take_length]
          have hj : (rs.map (·.2))[j]? = some r.2 := by rw [List.getElem?_map, hr']; rfl
          unfold stepW
          rw [List.take_add_one, hj, List.flatMap_append]
          simp
      · obtain ⟨s6, ys, ry, ey⟩ := h
        have e2 : (rs.map (·.2)).take (rs.map fun r => V.ref r.1).length = rs.map (·.2) := List.take_of_length_le (by rw [List.length_map, List.length_map]; exact Nat.le_refl _)
        rw [e2] at ey
        walk_at "go"
        refine ⟨RR, ys, _, _, _, _, rfl, sm2.trans s6, Wd.Same.back sm2 hRR, ry, fun r hr => ?_, by rw [ey, snoc]⟩
        have hm : r.2 ∈ stepW (rs.map (·.2)) z.2 n := by rw [← ey]; exact List.mem_map.mpr ⟨r, hr, rfl⟩
        obtain ⟨a, ha, y, _, e⟩ := stepW_mem.mp hm
        obtain ⟨r0, hr0, rfl⟩ := List.mem_map.mp ha
        have := rz r0 hr0
        rw [e, List.length_append, List.length_singleton]
        omega
    · rintro σ H' ⟨DD, rs, v3, v4, v5, v6, rfl, sm, nD, rl, rz, er⟩
      walk_at "go"
      refine q H' DD rs sm nD rl ?_
      rw [er, List.take_of_length_le (by rw [List.length_zip, List.length_map, List.length_map]; exact Nat.min_le_left _ _)]; rfl

abbrev s_is_patted : Stmt := top 30
theorem sc_is_patted : FnScope ["beat", "gap", "waits"] ["beat", "gap", "waits"] (C8.fnScope s_is_patted) := C8.fnScope_by (by decide +kernel)
def sp_is_patted (K : PySem.W.Frag) : Sp := fun vs H Q _ => ∃ (Wt : Addr) (b gap : Int) (xs : List Int), vs = [.int b, .int gap, .ref Wt] ∧ H Wt = some (.tup (xs.map V.int)) ∧ 0 < xs.length ∧ 0 < b ∧ Q (.bl (patd b gap xs)) H
theorem ok_is_patted (T : Txt K mg CW CT CB CM) {f : Addr} {fd : FuncData} (D : C8.Def K mg "is_patted" s_is_patted f fd) (b : Binds K fd ["beat", "gap", "waits"] []) : C8.Cal P w K mg base 1 "is_patted" (sp_is_patted K) [] := by
  refine C8.cal0 D b .nil sc_is_patted (fun vs H Q E h => ?_) fun cdv A outer s H vs Q E hr h => ?_
  · obtain ⟨Wt, b, gap, xs, rfl, _⟩ := h; rfl
  · obtain ⟨Wt, b, gap, xs, rfl, hWt, lp, b0, q⟩ := h
    have nd := sc_is_patted.nd
    refine ⟨_, (pss_one (ps_ret (pe_and (pe_cmpR op_eq (pe_op op_mod (pv 1) (pv 0)) pe_int (nomark _)) (pe_one (pe_cmpR op_lt (pe_callB (r := rMaxT K) (cr_maxT rfl) (by rfl) T.n_max (by decide +kernel) (pa_cons (pv 2) pa_nil)) (pv 1) (nomark _)))))), ?_⟩
    walk_at "go"
    refine g_I b0 ?_
    walk_at "go"
    refine g_ite (fun h1 => ?_) (fun h1 => ?_)
    · walk_at "go"
      refine ⟨Wt, xs, rfl, SqT.of hWt, lp, fun m hm hle => ?_⟩
      walk_at "go"
      have e : patd b gap xs = decide (m < gap) := by
        unfold patd
        rw [decide_eq_true h1, Bool.true_and]
        by_cases c : m < gap
        · rw [decide_eq_true c, List.all_eq_true]
          intro x hx
          have := hle x hx
          exact decide_eq_true (by omega)
        · rw [decide_eq_false c]
          cases ha : xs.all fun x => decide (x < gap) with
          | false => rfl
          | true => exact absurd (of_decide_eq_true (List.all_eq_true.mp ha m hm)) c
      rw [← e]; exact q
    · walk_at "go"
      have e : patd b gap xs = false := by unfold patd; rw [decide_eq_false h1, Bool.false_and]
      rw [e] at q; exact q

abbrev s_bite_word : Stmt := top 31
theorem sc_bite_word : FnScope ["window", "beat", "gap", "waits", "low", "high"] ["window", "beat", "gap", "waits"] (C8.fnScope s_bite_word) := C8.fnScope_by (by decide +kernel)
def wordV (o : Option Str) : V := match o with
  | none => .non
  | some x => .str x
def sp_bite_word (K : PySem.W.Frag) : Sp := fun vs H Q _ => ∃ (W Wt : Addr) (lo hi b gap : Int) (xs : List Int), vs = [.ref W, .int b, .int gap, .ref Wt] ∧ SqT K H W [.int lo, .int hi] ∧ H Wt = some (.tup (xs.map V.int)) ∧ 0 < xs.length ∧ 0 < b ∧ Q (wordV (wordB lo hi b gap xs)) H
theorem ok_bite_word (T : Txt K mg CW CT CB CM) {f : Addr} {fd : FuncData} (D : C8.Def K mg "bite_word" s_bite_word f fd) (b : Binds K fd ["window", "beat", "gap", "waits"] []) (g_is_patted : C8.Cal P w K mg base 1 "is_patted" (sp_is_patted K) []) : C8.Cal P w K mg base 2 "bite_word" (sp_bite_word K) [] := by
  refine C8.cal0 D b .nil sc_bite_word (fun vs H Q E h => ?_) fun cdv A outer s H vs Q E hr h => ?_
  · obtain ⟨W, Wt, lo, hi, b, gap, xs, rfl, _⟩ := h; rfl
  · obtain ⟨W, Wt, lo, hi, b, gap, xs, rfl, hW, hWt, lp, b0, q⟩ := h
    have nd := sc_bite_word.nd
    refine ⟨_, (pss_cons (ps_asg (pv 0) (pg_tup rfl (pgs_cons (pg_name (i := 4) nd rfl (Or.inl rfl)) (pgs_cons (pg_name (i := 5) nd rfl (Or.inl rfl)) pgs_nil))))
      (pss_cons (ps_if (pt_cmpR op_gt (pv 2) (pv 5) (nomark _)) (pss_one (ps_ret pe_str)) pss_nil)
      (pss_cons (ps_if (PW.pt (pw_and (pt_cmpR op_lt (pv 2) (pv 4) (nomark _)) (pw_and1 (pt_val (C8.pe_c g_is_patted hr (by first | decide | exact Nat.le_refl _ | omega) (by rfl) (pa_cons (pv 1) (pa_cons (pv 2) (pa_cons (pv 3) pa_nil)))))))) (pss_one (ps_ret pe_str)) pss_nil)
      (pss_one (ps_ret pe_non))))), ?_⟩
    walk_at "go"
    refine g_gtup hW rfl ?_
    walk_at "go"
    refine g_ite (fun h1 => ?_) (fun h1 => ?_)
    · have e : wordB lo hi b gap xs = some "late" := if_pos h1
      rw [e] at q
      walk_at "go"
      exact q
    walk_at "go"
    refine g_ite (fun h2 => ?_) (fun h2 => ?_)
    · walk_at "go"
      refine ⟨Wt, b, gap, xs, rfl, hWt, lp, b0, ?_⟩
      walk_at "go"
      cases hp : patd b gap xs with
      | true =>
        have e : wordB lo hi b gap xs = some "early" := (if_neg h1).trans (if_pos ⟨h2, hp⟩)
        rw [e] at q
        walk_at "go"
        exact q
      | false =>
        have e : wordB lo hi b gap xs = none := (if_neg h1).trans (if_neg (fun z => by rw [hp] at z; cases z.2))
        rw [e] at q
        walk_at "go"
        exact q
    · have e : wordB lo hi b gap xs = none := (if_neg h1).trans (if_neg (fun z => h2 z.1))
      rw [e] at q
      walk_at "go"
      exact q
end
end K15
namespace K15
open PySem PySem.Spec PyProof.Rows L2 Wd
local macro_rules | `(tactic| walk_at "go") => `(tactic| repeat (first
  | with_reducible refine Wd.g_seq ?_
  | with_reducible refine Wd.g_nx ?_
  | with_reducible refine Wd.g_asg ?_
  | ((with_reducible refine' Wd.g_var ?h1 ?_); (case h1 => exact rfl))
  | with_reducible refine Wd.g_c ?_
  | with_reducible refine Wd.g_op ?_
  | with_reducible refine Wd.g_un ?_
  | with_reducible refine Wd.g_I0 ?_
  | with_reducible refine Wd.g_U ?_
  | with_reducible refine Wd.g_eqI ?_
  | with_reducible refine Wd.g_neI ?_
  | with_reducible refine Wd.g_eqS ?_
  | with_reducible refine Wd.g_neS ?_
  | with_reducible refine Wd.g_eqB ?_
  | with_reducible refine Wd.g_neB ?_
  | with_reducible refine Wd.g_isN ?_
  | with_reducible refine Wd.g_notN ?_
  | with_reducible refine Wd.g_lc ?_
  | with_reducible refine Wd.g_yes ?_
  | with_reducible refine Wd.g_test ?_
  | with_reducible refine Wd.g_tB ?_
  | with_reducible refine Wd.g_bl ?_
  | with_reducible refine Wd.g_blI ?_
  | with_reducible refine Wd.g_and ?_
  | with_reducible refine Wd.g_or ?_
  | with_reducible refine Wd.g_not ?_
  | with_reducible refine Wd.g_andV ?_
  | with_reducible refine Wd.g_orV ?_
  | with_reducible refine Wd.g_notV ?_
  | with_reducible refine Wd.g_if ?_
  | with_reducible refine Wd.g_chain ?_
  | with_reducible refine Wd.g_chain3 ?_
  | with_reducible refine Wd.g_nil ?_
  | with_reducible refine Wd.g_cons ?_
  | with_reducible refine Wd.g_tup ?_
  | with_reducible refine Wd.g_lst ?_
  | with_reducible refine Wd.g_CB ?_
  | with_reducible refine Wd.g_call ?_
  | with_reducible refine Wd.g_callS ?_
  | with_reducible refine Wd.g_bm ?_
  | with_reducible refine Wd.g_bm0 ?_
  | with_reducible refine Wd.g_sl ?_
  | with_reducible refine Wd.g_part ?_
  | with_reducible refine Wd.g_part1 ?_
  | with_reducible refine Wd.g_noPart ?_
  | with_reducible refine Wd.g_next ?_
  | with_reducible refine Wd.g_name ?_
  | with_reducible refine Wd.g_sub ?_
  | with_reducible refine Wd.g_gnil ?_
  | with_reducible refine Wd.g_gcons ?_
  | with_reducible refine Wd.g_drop ?_
  | with_reducible refine Wd.g_ret ?_
  | with_reducible refine Wd.g_retN ?_
  | with_reducible refine Wd.g_brk ?_
  | with_reducible refine Wd.g_cont ?_
  | with_reducible refine Wd.g_ifS ?_
  | with_reducible refine Wd.g_bk ?_
  | with_reducible refine Wd.g_ct ?_
  | with_reducible refine Wd.g_rt ?_
  | with_reducible refine Wd.g_for ?_
  | with_reducible refine Wd.g_rng1 ?_
  | with_reducible refine Wd.g_rng2 ?_
  | with_reducible refine Wd.g_iList ?_
  | with_reducible refine Wd.g_iTup ?_
  | ((with_reducible refine Wd.g_fit ?h1 ?_); (case h1 => exact rfl))
  | with_reducible refine Wd.g_max2 ?_
  | with_reducible refine Wd.g_min2 ?_
  | with_reducible refine Wd.g_int1B ?_
  | with_reducible refine L2.iteT ?_
  | with_reducible refine L2.iteF ?_
  | ((with_reducible refine Wd.g_itT ?h1 ?_); (case h1 => exact rfl))
  | ((with_reducible refine Wd.g_itF ?h1 ?_); (case h1 => exact rfl))))
theorem g_nget {P : Program} {w : World} {td ty : TE} {σ : L2.St} {H : Hp} {Q : VK} (h : td σ H fun x H1 => ty σ H1 fun y H2 => ∃ (k : NestedKey) (a d : Addr) (xs : List NKV) (v : V), y = .ref a ∧ x = .ref d ∧ H2 d = some (DNO P w d xs) ∧ NKeys H2 xs ∧ NestV H2 k (.ref a) ∧ k.depth ≤ 8 ∧ valN xs k = some v ∧ Q v H2) : tNGet P w td ty σ H Q := h
theorem g_revL {K : PySem.W.Frag} {te : TE} {σ : L2.St} {H : Hp} {Q : VK} (h : te σ H fun x H1 => ∃ a xs, x = .ref a ∧ SqL K H1 a xs ∧ ∀ p, H1 p = none → Q (.ref p) (upd H1 p (.lst xs.reverse))) : tRevL K te σ H Q := h
theorem w_lcRange2 {σ : L2.St} {H : Hp} {Q : VK} {g : TG} {tt : TT} {te : TE} {vs : List Nat} {lo n : Int} (h1 : -(2 ^ 62) ≤ lo ∧ lo < 2 ^ 62 ∧ -(2 ^ 62) ≤ n ∧ n < 2 ^ 62) (Pv : Addr → Nat → Hp → Prop) (h0 : ∀ D, H D = none → Pv D 0 (upd H D (.lst [])))
    (hs : ∀ D i H', H D = none → i < (n - lo).toNat → Pv D i H' → g (.int (lo + i)) (wipe σ vs) H' fun σ2 H2 => wipe σ2 vs = wipe σ vs ∧ tt σ2 H2 fun b H3 =>
      if b = true then te σ2 H3 fun y H4 => ∃ acc, H4 D = some (.lst acc) ∧ acc.length < sizeLine ∧ Pv D (i + 1) (upd H4 D (.lst (acc ++ [y]))) else Pv D (i + 1) H3) (hd : ∀ D H', H D = none → Pv D (n - lo).toNat H' → Q (.ref D) H') :
    ∃ i j : Int, [V.int lo, .int n] = [.int i, .int j] ∧ (-(2 ^ 62) ≤ i ∧ i < 2 ^ 62 ∧ -(2 ^ 62) ≤ j ∧ j < 2 ^ 62) ∧ LcEnd g tt te vs σ Q (Itr i (j - i).toNat) H :=
  ⟨lo, n, rfl, h1, fun D hD => lc_range (Pv D) (h0 D hD) (fun i H' hi p => hs D i H' hD hi p) (fun H' p => hd D H' hD p)⟩
theorem filter_snoc {α : Type} (p : α → Bool) (l : List α) (x : α) : (l ++ [x]).filter p = l.filter p ++ (if p x = true then [x] else []) := by
  rw [List.filter_append]
  congr 1
  by_cases h : p x = true
  · rw [if_pos h, List.filter_cons_of_pos h, List.filter_nil]
  · rw [if_neg h, List.filter_cons_of_neg h, List.filter_nil]
/-- steps in a list -/
structure StL (H : Hp) (D : Addr) (ps : List (Sta × Addr)) : Prop where
  at_ : H D = some (.lst (ps.map fun p => V.ref p.2))
  own : ∀ p ∈ ps, StV H p.1 p.2
theorem StL.same {H H' : Hp} {D : Addr} {ps : List (Sta × Addr)} (t : StL H D ps) (e : Same H H') : StL H' D ps := ⟨e _ _ t.at_, fun p hp => (t.own p hp).keep (keepT_same e)⟩
/-- new lists of numbers in a list -/
structure RowsI (H0 H : Hp) (D : Addr) (rs : List (Addr × List Int)) : Prop where
  at_ : H D = some (.lst (rs.map fun r => V.ref r.1))
  own : ∀ r ∈ rs, H r.1 = some (.lst (r.2.map V.int)) ∧ H0 r.1 = none
theorem RowsI.same {H0 H H' : Hp} {D : Addr} {rs : List (Addr × List Int)} (t : RowsI H0 H D rs) (e : Same H H') : RowsI H0 H' D rs := ⟨e _ _ t.at_, fun r hr => ⟨e _ _ (t.own r hr).1, (t.own r hr).2⟩⟩
theorem RowsI.put {H0 H : Hp} {D M : Addr} {rs : List (Addr × List Int)} {r : List Int} (t : RowsI H0 H D rs) (h : H M = some (.lst (r.map V.int))) (n : H0 M = none) (n2 : M ≠ D) (ne : ∀ y ∈ rs, y.1 ≠ D) : RowsI H0 (upd H D (.lst ((rs.map fun r => V.ref r.1) ++ [.ref M]))) D (rs ++ [(M, r)]) := by
  refine ⟨by rw [upd_same, List.map_append]; rfl, fun z hz => ?_⟩
  rw [List.mem_append, List.mem_singleton] at hz
  rcases hz with hz | rfl
  · exact ⟨by rw [upd_ne (ne z hz)]; exact (t.own z hz).1, (t.own z hz).2⟩
  · exact ⟨by rw [upd_ne n2]; exact h, n⟩
section
variable {P : Program} {w : World} {K : PySem.W.Frag} {mg : Str → Option Value} {base : Heap} {CW CT CB CM : Addr}
abbrev s_path_to : Stmt := top 32
theorem sc_path_to : FnScope ["ahead", "step", "path"] ["ahead", "step"] (C8.fnScope s_path_to) := C8.fnScope_by (by decide +kernel)
def sp_path_to (P : Program) (w : World) : Sp := fun vs H Q _ => ∃ (d a : Addr) (es : List AhE) (s : Sta) (p : List Sta), vs = [.ref d, .ref a] ∧ H d = some (DNO P w d (toN es)) ∧ AhOk H es ∧ (es.map (·.1)).Nodup ∧ StV H s a ∧ Anc es s p ∧ p.length ≤ 10000 ∧
  ∀ H' D ps, Same H H' → H D = none → StL H' D ps → ps.map (·.1) = p → Q (.ref D) H'
theorem ok_path_to (T : Txt K mg CW CT CB CM) {f : Addr} {fd : FuncData} (D : C8.Def K mg "path_to" s_path_to f fd) (b : Binds K fd ["ahead", "step"] []) : C8.Cal P w K mg base 1 "path_to" (sp_path_to P w) [] := by
  refine C8.cal0 D b .nil sc_path_to (fun vs H Q E h => ?_) fun cdv A outer s H vs Q E hr h => ?_
  · obtain ⟨d, a, es, s, p, rfl, _⟩ := h; rfl
  · obtain ⟨d, a, es, s0, p, rfl, hd, ah, nde, hs0, anc, pl, q⟩ := h
    have nd := sc_path_to.nd
    refine ⟨_, (pss_cons (ps_set (i := 2) nd rfl (Or.inl rfl) (pe_lst pa_nil))
      (pss_cons (ps_while PassesOwn.never (pt_cmpR op_notN1 (pv 1) pe_non (nomark _)) (pss_cons (ps_expr (pe_bmK (K := K) rfl PySem.F.plainAttrs_list PySem.F.slot_list_append PySem.F.type_list_append mt_append (pv 2) (pa_cons (pv 1) pa_nil)))
      (pss_one (ps_set (i := 1) nd rfl (Or.inl rfl) (pe_nget hr.units (pv 0) (pv 1) (fun _ _ => rfl))))))
      (pss_one (ps_ret (pe_revL (pv 2)))))), ?_⟩
    walk_at "go"
    intro PL hPL
    have s1 := same_new (o := .lst []) hPL
    have e1 := upd_same (H := H) (a := PL) (o := .lst [])
    generalize upd H PL (.lst []) = H1 at s1 e1
    walk_at "go"
    refine w_loop (fun n σ H' => ∃ (qs : List (Sta × Addr)) (v : V), σ = [some (.ref d), some v, some (.ref PL)] ∧ Same H H' ∧ StL H' PL qs ∧ qs.length ≤ 10000 ∧ ((v = .non ∧ qs.reverse.map (·.1) = p) ∨ ∃ s1 a1 p1, v = .ref a1 ∧ StV H s1 a1 ∧ Anc es s1 p1 ∧ p1 ++ qs.reverse.map (·.1) = p ∧ p1.length = n)) p.length ?_ ?_
    · exact ⟨[], _, rfl, s1, ⟨e1, fun x hx => nomatch hx⟩, Nat.zero_le _, .inr ⟨s0, a, p, rfl, hs0, anc, List.append_nil _, rfl⟩⟩
    · rintro n σ H2 ⟨qs, v, rfl, s2, st, ql, hv⟩
      walk_at "go"
      rcases hv with ⟨rfl, ep⟩ | ⟨s3, a3, p3, rfl, sv3, an3, ep, pn⟩
      · rw [decide_eq_true rfl]
        refine L2.iteF ?_
        walk_at "go"
        refine g_revL ?_
        walk_at "go"
        refine ⟨PL, _, rfl, SqL.of st.at_, fun D hD => ?_⟩
        have sD := same_new (o := .lst (qs.map fun p => V.ref p.2).reverse) hD
        refine q _ D qs.reverse (s2.trans sD) (Wd.Same.back s2 hD) ⟨by rw [upd_same, List.map_reverse], fun x hx => ((st.same sD).own x (List.mem_reverse.mp hx))⟩ ep
      · have nn : decide (V.ref a3 = V.non) = false := decide_eq_false (fun z => nomatch z)
        rw [nn]
        have p3l : 0 < p3.length := by cases an3 with
          | root => exact Nat.zero_lt_one
          | step => rw [List.length_append]; exact Nat.lt_add_left _ Nat.zero_lt_one
        have tot := congrArg List.length ep
        rw [List.length_append, List.length_map, List.length_reverse] at tot
        refine L2.iteT ⟨fun σ' H' => ∃ (qs : List (Sta × Addr)) (v : V), σ' = [some (.ref d), some v, some (.ref PL)] ∧ Same H H' ∧ StL H' PL qs ∧ qs.length ≤ 10000 ∧ ((v = .non ∧ qs.reverse.map (·.1) = p) ∨ ∃ s1 a1 p1, v = .ref a1 ∧ StV H s1 a1 ∧ Anc es s1 p1 ∧ p1 ++ qs.reverse.map (·.1) = p ∧ p1.length = n - 1), fun σ' H' h => ⟨n - 1, by omega, h⟩, ?_⟩
        walk_at "go"
        refine g_tyL st.at_ ?_
        walk_at "go"
        refine g_append st.at_ (by rw [List.length_map]; omega) ?_
        have s4 : Same H (upd H2 PL (.lst ((qs.map fun p => V.ref p.2) ++ [.ref a3]))) := Wd.Same.mut s2 hPL
        have st4 : StL (upd H2 PL (.lst ((qs.map fun p => V.ref p.2) ++ [.ref a3]))) PL (qs ++ [(s3, a3)]) := ⟨by rw [upd_same, List.map_append]; rfl, fun x hx => by
          rw [List.mem_append, List.mem_singleton] at hx
          rcases hx with hx | rfl
          · exact (st.own x hx).keep (keepT_lst st.at_)
          · exact sv3.keep (keepT_same s4)⟩
        generalize upd H2 PL (.lst ((qs.map fun p => V.ref p.2) ++ [.ref a3])) = H4 at s4 st4
        have rv : (qs ++ [(s3, a3)]).reverse.map (·.1) = s3 :: qs.reverse.map (·.1) := by rw [List.reverse_append]; rfl
        walk_at "go"
        refine g_nget ?_
        walk_at "go"
        have kt4 := keepT_same s4
        cases an3 with
        | @root _ a' hm =>
          refine ⟨stKey s3, a3, d, toN es, _, rfl, rfl, s4 _ _ hd, (ah.keep kt4).keys, (sv3.keep kt4).nest, stKey_depth _, toN_val nde hm, ?_⟩
          walk_at "go"
          exact ⟨_, _, rfl, s4, st4, by rw [List.length_append, List.length_singleton]; omega, .inl ⟨rfl, by rw [rv]; exact ep⟩⟩
        | @step _ a' s' a'' p' hm an' =>
          refine ⟨stKey s3, a3, d, toN es, _, rfl, rfl, s4 _ _ hd, (ah.keep kt4).keys, (sv3.keep kt4).nest, stKey_depth _, toN_val nde hm, ?_⟩
          walk_at "go"
          refine ⟨_, _, rfl, s4, st4, by rw [List.length_append, List.length_singleton]; omega, .inr ⟨s', a'', p', rfl, (ah _ hm).2 _ rfl, an', by rw [rv, ← ep, List.append_assoc]; rfl, ?_⟩⟩
          rw [List.length_append, List.length_singleton] at pn
          omega

abbrev s_reports_along : Stmt := top 33
theorem sc_reports_along : FnScope ["tasks", "path", "reports", "at", "moment"] ["tasks", "path"] (C8.fnScope s_reports_along) := C8.fnScope_by (by decide +kernel)
def sp_reports (K : PySem.W.Frag) : Sp := fun vs H Q _ => ∃ (L PP : Addr) (zs : List Wk) (ps : List (Sta × Addr)), vs = [.ref L, .ref PP] ∧ WkL H L zs ∧ zs.length ≤ 4 ∧ StL H PP ps ∧ (∀ p ∈ ps, p.1.2.length = zs.length) ∧ 1 ≤ ps.length ∧ ps.length ≤ 10000 ∧
  ∀ H' D rs, Same H H' → H D = none → RowsI H H' D rs → rs.map (·.2) = repsOf (ps.map (·.1)) zs.length → Q (.ref D) H'
theorem ok_reports (T : Txt K mg CW CT CB CM) {f : Addr} {fd : FuncData} (D : C8.Def K mg "reports_along" s_reports_along f fd) (b : Binds K fd ["tasks", "path"] []) : C8.Cal P w K mg base 1 "reports_along" (sp_reports K) [] := by
  refine C8.cal0 D b .nil sc_reports_along (fun vs H Q E h => ?_) fun cdv A outer s H vs Q E hr h => ?_
  · obtain ⟨L, PP, zs, ps, rfl, _⟩ := h; rfl
  · obtain ⟨L, PP, zs, ps, rfl, wk, l4, st, len, pl1, pl, q⟩ := h
    have nd := sc_reports_along.nd
    refine ⟨_, (pss_cons (ps_set (i := 2) nd rfl (Or.inl rfl) (pe_lst pa_nil))
      (pss_cons (ps_for PassesOwn.never rfl (pi_range1 rfl T.n_range (pa_cons (pe_callB (r := Wd.rLen K) call_len1 (by rfl) T.n_len PySem.boot_len (pa_cons (pv 0) pa_nil)) pa_nil)) (pg_name (i := 3) nd rfl (Or.inr rfl)) (pss_one (ps_expr (pe_bmK (K := K) rfl PySem.F.plainAttrs_list PySem.F.slot_list_append PySem.F.type_list_append mt_append (pv 2) (pa_cons (pe_lc (own := [("moment", 4)]) (g := gName 4) rfl nd (pi_range2 rfl T.n_range (pa_cons pe_int (pa_cons (pe_callB (r := Wd.rLen K) call_len1 (by rfl) T.n_len PySem.boot_len (pa_cons (pv 1) pa_nil)) pa_nil))) (blkOk_by (N := ["tasks", "path", "reports", "at", "moment"]) (sc := C8.fnScope s_reports_along) (by decide +kernel)) (fun _ _ _ _ _ => pg_name (i := 4) nd rfl (Or.inl rfl)) (fun _ _ _ _ _ => pts_one (pt_cmpR op_eq (pe_ix (r := rIxT K) ix_tup (pe_ix (r := rIxT K) ix_tup (pe_ix (r := rIxL K) ix_list (pv 1) (pv 4) (fun _ _ => rfl)) pe_int (fun _ _ => rfl)) (pv 3) (fun _ _ => rfl)) pe_int (nomark _))) (fun _ _ _ _ _ => (pv 4))) pa_nil)))))
      (pss_one (ps_ret (pv 2))))), ?_⟩
    walk_at "go"
    intro RL hRL
    have s1 := same_new (o := .lst []) hRL
    have r1 : RowsI H (upd H RL (.lst [])) RL [] := ⟨upd_same, fun x hx => nomatch hx⟩
    generalize upd H RL (.lst []) = H1 at s1 r1
    walk_at "go"
    refine g_len (.inl (SqL.of (s1 _ _ wk.at_))) ?_
    walk_at "go"
    rw [List.length_map]
    refine w_range (by omega) (by omega) (fun i σ H' => ∃ (rs : List (Addr × List Int)) (v3 v4 : Option V), σ = [some (.ref L), some (.ref PP), some (.ref RL), v3, v4] ∧ Same H H' ∧ RowsI H H' RL rs ∧ (∀ y ∈ rs, y.1 ≠ RL) ∧ rs.map (·.2) = (List.range i).map fun j => repAt (ps.map (·.1)) j (ps.length - 1)) ?_ ?_ ?_
    · exact ⟨[], _, _, rfl, s1, r1, fun y hy => (nomatch hy), rfl⟩
    · rintro i σ H2 hi ⟨rs, v3, v4, rfl, s2, rl, nr, er⟩
      have il : i < zs.length := by omega
      have rlen : rs.length ≤ 4 := by
        have := congrArg List.length er
        rw [List.length_map, List.length_map, List.length_range] at this
        omega
      walk_at "go"
      refine g_tyL rl.at_ ?_
      walk_at "go"
      refine g_len (.inl (SqL.of (s2 _ _ st.at_))) ?_
      walk_at "go"
      rw [List.length_map]
      refine w_lcRange2 (by omega) (fun D j H' => Same H2 H' ∧ H' D = some (.lst ((repAt (ps.map (·.1)) i j).map V.int))) (fun D hD => ⟨same_new hD, upd_same⟩) (fun D j H3 hD hj h => ?_) (fun D H3 hD h => ?_)
      · have jl : 1 + j < ps.length := by omega
        have hp : ps[1 + j]? = some ps[1 + j] := List.getElem?_eq_getElem jl
        generalize ps[1 + j] = pa at hp
        obtain ⟨s5, a5⟩ := pa
        have pm := List.mem_of_getElem? hp
        have s23 := s2.trans h.1
        obtain ⟨c, g1, g2⟩ := (st.own _ pm).keep (keepT_same s23)
        have ll : s5.2.length = zs.length := len _ pm
        have hx : s5.2[i]? = some s5.2[i] := List.getElem?_eq_getElem (by omega)
        have hst : staAt (ps.map (·.1)) (j + 1) = s5 := by
          unfold staAt
          have : (ps.map (·.1))[j + 1]? = some s5 := by rw [Nat.add_comm j 1, List.getElem?_map, hp]; rfl
          rw [this]; rfl
        have ex : repAt (ps.map (·.1)) i (j + 1) = repAt (ps.map (·.1)) i j ++ if s5.2[i] = 0 then [((j + 1 : Nat) : Int)] else [] := by
          unfold repAt
          rw [List.range_succ, filter_snoc, List.map_append, hst, hx]
          congr 1
          by_cases c : s5.2[i] = 0
          · rw [if_pos c, if_pos (decide_eq_true (by rw [c]))]; rfl
          · rw [if_neg c, if_neg (by rw [decide_eq_true_iff]; exact fun z => c (Option.some.inj z))]; rfl
        have rl0 : (repAt (ps.map (·.1)) i j).length ≤ j := by
          unfold repAt
          rw [List.length_map]
          have := List.length_filter_le (fun k => decide ((staAt (ps.map (·.1)) (k + 1)).2[i]? = some 0)) (List.range j)
          rw [List.length_range] at this
          exact this
        have e2 : (1 : Int) + (j : Int) = ((j + 1 : Nat) : Int) := by omega
        have e3 : ((j + 1 : Nat) : Int) = ((1 + j : Nat) : Int) := by omega
        rw [e2]
        walk_at "go"
        refine ⟨rfl, ?_⟩
        walk_at "go"
        refine g_ixL (v := V.ref a5) (SqL.of (s23 _ _ st.at_)) (at_of (j := 1 + j) e3 (by rw [List.getElem?_map, hp]; rfl)) ?_
        walk_at "go"
        refine g_ixT (v := V.ref c) (SqT.of g1) rfl ?_
        walk_at "go"
        refine g_ixT (v := V.int s5.2[i]) (SqT.of g2) (at_of (j := i) rfl (by rw [List.getElem?_map, hx]; rfl)) ?_
        walk_at "go"
        by_cases c0 : s5.2[i] = 0
        · rw [if_pos c0] at ex
          rw [decide_eq_true c0]
          walk_at "go"
          exact ⟨_, h.2, by rw [sizeLine_eq, List.length_map]; omega, Wd.Same.mut h.1 hD, by rw [upd_same, ex, List.map_append]; rfl⟩
        · rw [if_neg c0, List.append_nil] at ex
          rw [decide_eq_false c0]
          walk_at "go"
          exact ⟨h.1, by rw [ex]; exact h.2⟩
      · have en : (((ps.length : Nat) : Int) - 1).toNat = ps.length - 1 := by omega
        rw [en] at h
        obtain ⟨s3, e3⟩ := h
        have nD := Wd.Same.back s2 hD
        have nDR : D ≠ RL := (ne_of_none rl.at_ hD).symm
        have rl3 := rl.same s3
        walk_at "go"
        refine g_append rl3.at_ (by rw [List.length_map]; omega) ?_
        walk_at "go"
        refine ⟨rs ++ [(D, repAt (ps.map (·.1)) i (ps.length - 1))], _, _, rfl, Wd.Same.mut (s2.trans s3) hRL, rl3.put e3 nD nDR nr, fun y hy => ?_, ?_⟩
        · rw [List.mem_append, List.mem_singleton] at hy
          rcases hy with hy | rfl
          · exact nr y hy
          · exact nDR
        · rw [List.map_append, er, List.range_succ, List.map_append]; rfl
    · rintro σ H2 ⟨rs, v3, v4, rfl, s2, rl, nr, er⟩
      have en : ((zs.length : Nat) : Int).toNat = zs.length := by omega
      rw [en] at er
      walk_at "go"
      refine q H2 RL rs s2 hRL rl ?_
      rw [er]
      unfold repsOf
      rw [List.length_map]
end
end K15
namespace K15
open PySem PySem.Spec PyProof.Rows L2 Wd
local macro_rules | `(tactic| walk_at "gs") => `(tactic| repeat (first
  | with_reducible refine Wd.g_seq ?_
  | ((with_reducible show Ends.nx _ _ _); (with_reducible refine Wd.g_nx ?_))
  | with_reducible refine Wd.g_asg ?_
  | ((with_reducible refine' Wd.g_var ?h1 ?_); (case h1 => exact rfl))
  | with_reducible refine Wd.g_c ?_
  | with_reducible refine Wd.g_op ?_
  | with_reducible refine Wd.g_un ?_
  | with_reducible refine Wd.g_I0 ?_
  | with_reducible refine Wd.g_U ?_
  | with_reducible refine Wd.g_eqI ?_
  | with_reducible refine Wd.g_neI ?_
  | with_reducible refine Wd.g_eqS ?_
  | with_reducible refine Wd.g_neS ?_
  | with_reducible refine Wd.g_eqB ?_
  | with_reducible refine Wd.g_neB ?_
  | with_reducible refine Wd.g_isN ?_
  | with_reducible refine Wd.g_notN ?_
  | with_reducible refine Wd.g_lc ?_
  | with_reducible refine Wd.g_yes ?_
  | with_reducible refine Wd.g_test ?_
  | with_reducible refine Wd.g_tB ?_
  | with_reducible refine Wd.g_bl ?_
  | with_reducible refine Wd.g_blI ?_
  | with_reducible refine Wd.g_and ?_
  | with_reducible refine Wd.g_or ?_
  | with_reducible refine Wd.g_not ?_
  | with_reducible refine Wd.g_andV ?_
  | with_reducible refine Wd.g_orV ?_
  | with_reducible refine Wd.g_notV ?_
  | with_reducible refine Wd.g_if ?_
  | with_reducible refine Wd.g_chain ?_
  | with_reducible refine Wd.g_chain3 ?_
  | with_reducible refine Wd.g_nil ?_
  | with_reducible refine Wd.g_cons ?_
  | with_reducible refine Wd.g_tup ?_
  | with_reducible refine Wd.g_lst ?_
  | with_reducible refine Wd.g_CB ?_
  | with_reducible refine Wd.g_call ?_
  | with_reducible refine Wd.g_callS ?_
  | with_reducible refine Wd.g_bm ?_
  | with_reducible refine Wd.g_bm0 ?_
  | with_reducible refine Wd.g_sl ?_
  | with_reducible refine Wd.g_part ?_
  | with_reducible refine Wd.g_part1 ?_
  | with_reducible refine Wd.g_noPart ?_
  | with_reducible refine Wd.g_next ?_
  | with_reducible refine Wd.g_name ?_
  | with_reducible refine Wd.g_sub ?_
  | with_reducible refine Wd.g_gnil ?_
  | with_reducible refine Wd.g_gcons ?_
  | with_reducible refine Wd.g_drop ?_
  | with_reducible refine Wd.g_ret ?_
  | with_reducible refine Wd.g_retN ?_
  | with_reducible refine Wd.g_brk ?_
  | with_reducible refine Wd.g_cont ?_
  | ((with_reducible show Ends.bk _ _ _); (with_reducible refine Wd.g_bk ?_))
  | ((with_reducible show Ends.ct _ _ _); (with_reducible refine Wd.g_ct ?_))
  | ((with_reducible show Ends.rt _ _ _); (with_reducible refine Wd.g_rt ?_))
  | with_reducible refine Wd.g_for ?_
  | with_reducible refine Wd.g_rng1 ?_
  | with_reducible refine Wd.g_rng2 ?_
  | with_reducible refine Wd.g_iList ?_
  | with_reducible refine Wd.g_iTup ?_
  | ((with_reducible refine Wd.g_fit ?h1 ?_); (case h1 => exact rfl))
  | with_reducible refine Wd.g_max2 ?_
  | with_reducible refine Wd.g_min2 ?_
  | with_reducible refine Wd.g_int1B ?_
  | with_reducible refine L2.iteT ?_
  | with_reducible refine L2.iteF ?_
  | ((with_reducible refine Wd.g_itT ?h1 ?_); (case h1 => exact rfl))
  | ((with_reducible refine Wd.g_itF ?h1 ?_); (case h1 => exact rfl))))
theorem g_join {t : TT} {a b : TS} {σ : L2.St} {H : Hp} {N : L2.St → Hp → Prop} {rt : VK} {bk ct : L2.St → Hp → Prop} (P : L2.St → Hp → Prop) (key : ∀ σ H, P σ H → N σ H) (h : ∀ N' : L2.St → Hp → Prop, (∀ σ H, P σ H → N' σ H) → tIfS t a b ⟨N', rt, bk, ct⟩ σ H) : tIfS t a b ⟨N, rt, bk, ct⟩ σ H := h N key
theorem g_ndisp {P : Program} {w : World} {tk tv : TE} {σ : L2.St} {H : Hp} {Q : VK} (h : ∀ d, H d = none → tk σ (upd H d (DNO P w d [])) fun x H1 => tv σ H1 fun v H2 => ∃ (k : NestedKey) (a : Addr), x = .ref a ∧ H2 d = some (DNO P w d []) ∧ NestV H2 k (.ref a) ∧ k.depth ≤ 8 ∧ Q (.ref d) (upd H2 d (DNO P w d [(k, a, v)]))) : tNDisp P w tk tv σ H Q := h
theorem g_nput {P : Program} {w : World} {td ty tv : TE} {σ : L2.St} {H : Hp} {a : L2.St → Hp → Prop} {b : VK} {c d : L2.St → Hp → Prop} (h : tv σ H fun v H1 => td σ H1 fun x H2 => ty σ H2 fun y H3 => ∃ (k : NestedKey) (q p : Addr) (xs : List NKV), y = .ref q ∧ x = .ref p ∧ H3 p = some (DNO P w p xs) ∧ NKeys H3 xs ∧ NestV H3 k (.ref q) ∧ k.depth ≤ 8 ∧ hasN xs k = false ∧ xs.length < sizeLine ∧
  a σ (upd H3 p (DNO P w p (xs ++ [(k, q, v)])))) : sNPut P w td ty tv ⟨a, b, c, d⟩ σ H := h
theorem dno_lst {P : Program} {w : World} {d : Addr} {xs : List NKV} {ys : List V} (z : DNO P w d xs = .lst ys) : False := by unfold DNO at z; cases z
theorem dno_tup {P : Program} {w : World} {d : Addr} {xs : List NKV} {ys : List V} (z : DNO P w d xs = .tup ys) : False := by unfold DNO at z; cases z
theorem keepT_dno {P : Program} {w : World} {H : Hp} {d : Addr} {xs : List NKV} {o : HO} (h : H d = some (DNO P w d xs)) : KeepT H (upd H d o) := fun b ys e => by
  rw [upd_ne (fun z => by rw [z, h] at e; exact dno_tup (Option.some.inj e))]; exact e
theorem g_repZ {K : PySem.W.Frag} {l : Addr} {k : Nat} {H : Hp} {Q : VK} (h : H l = some (.tup [.int 0])) (h1 : 1 ≤ k) (h2 : k ≤ 1000) (q : ∀ H' c, Same H H' → H' c = some (.tup ((List.replicate k (0 : Int)).map V.int)) → Q (.ref c) H') : rRepU K (.ref l) (.int (k : Int)) H Q := by
  refine ⟨l, k, [.int 0], rfl, rfl, SqT.of h, List.cons_ne_nil _ _, by omega, by omega, by show 1 ≤ 1000; decide, fun e => ?_, fun _ p hp => ?_⟩
  · have : k = 1 := by omega
    subst this
    exact q H l (fun _ _ z => z) h
  · refine q _ p (same_new hp) ?_
    rw [upd_same, List.map_replicate]
    have : ((k : Nat) : Int).toNat = k := by omega
    rw [this]
    have fl : ∀ n : Nat, (List.replicate n [V.int 0]).flatten = List.replicate n (V.int 0) := fun n => by
      induction n with
      | zero => rfl
      | succ n ih => rw [List.replicate_succ, List.flatten_cons, ih]; rfl
    rw [fl]
theorem pth_wid {lo hi b : Int} {ts : List Tp} {p : List Sta} {s : Sta} (h : Pth lo hi b ts p s) : ∀ x ∈ p, x.2.length = ts.length := by
  induction h with
  | zero =>
    intro x hx
    rw [List.mem_singleton] at hx
    subst hx
    exact List.length_replicate ..
  | @succ p s ws _ hf _ ih =>
    intro x hx
    rw [List.mem_append, List.mem_singleton] at hx
    rcases hx with hx | rfl
    · exact ih x hx
    · rw [foll_two]; exact fol_len hf
section
variable {P : Program} {w : World} {K : PySem.W.Frag} {mg : Str → Option Value} {base : Heap} {CW CT CB CM : Addr}
abbrev s_steady : Stmt := top 34
theorem sc_steady : FnScope ["window", "beat", "tasks", "start", "ahead", "steps", "later", "step", "gap", "waits", "word", "path", "following"] ["window", "beat", "tasks"] (C8.fnScope s_steady) := C8.fnScope_by (by decide +kernel)
def Least (lo hi b : Int) (ts : List Tp) (n : Nat) : Prop := ∀ m s ws, Reach lo hi b ts m s → m + 1 < n → Fol ts s.2 ws → wordB lo hi b (s.1 + 1) ws = none
def sp_steady (K : PySem.W.Frag) (CW CT CB CM : Addr) : Sp := fun vs H Q E => ∃ (W L : Addr) (lo hi b : Int) (zs : List Wk), vs = [.ref W, .int b, .ref L] ∧ SqT K H W [.int lo, .int hi] ∧ WkL H L zs ∧
  (¬ okW lo hi → E (.ref CW) none H) ∧ (okW lo hi → ¬ okB b → E (.ref CT) none H) ∧ (okW lo hi → okB b → ¬ okT zs → E (.ref CB) none H) ∧ (okW lo hi → okB b → okT zs → ¬ okM hi b zs → ∀ H', Same H H' → E (.ref CM) none H') ∧
  (okW lo hi → okB b → okT zs → okM hi b zs →
    (Steady lo hi b (zs.map (·.2)) → ∀ H' t, Same H H' → H t = none → H' t = some (.tup [.str "steady"]) → Q (.ref t) H') ∧
    ∀ p s ws wd, Pth lo hi b (zs.map (·.2)) p s → Fol (zs.map (·.2)) s.2 ws → wordB lo hi b (s.1 + 1) ws = some wd → Least lo hi b (zs.map (·.2)) p.length → ∀ H' t R B rs, Same H H' → H t = none → H' t = some (.tup [.str "bitten", .ref R, .ref B]) → RowsI H H' R rs → H R = none → rs.map (·.2) = repsOf (p ++ [(s.1 + 1, ws)]) zs.length → H' B = some (.tup [.int p.length, .str wd]) → Q (.ref t) H')
theorem ok_steady (T : Txt K mg CW CT CB CM) {f : Addr} {fd : FuncData} (D : C8.Def K mg "steady" s_steady f fd) (b : Binds K fd ["window", "beat", "tasks"] []) (g_check_window : CalX P w K mg base 3 "check_window" (sp_check_window K CW)) (g_check_beat : CalX P w K mg base 2 "check_beat" (sp_check_beat CT)) (g_check_tasks : CalX P w K mg base 3 "check_tasks" (sp_check_tasks CB))
    (g_check_searched : CalX P w K mg base 1 "check_searched" (sp_check_searched K CM)) (g_all_waits_behind : C8.Cal P w K mg base 2 "all_waits_behind" (sp_all_waits K) []) (g_bite_word : C8.Cal P w K mg base 2 "bite_word" (sp_bite_word K) []) (g_is_patted : C8.Cal P w K mg base 1 "is_patted" (sp_is_patted K) [])
    (g_path_to : C8.Cal P w K mg base 1 "path_to" (sp_path_to P w) []) (g_reports_along : C8.Cal P w K mg base 1 "reports_along" (sp_reports K) []) : CalX P w K mg base 4 "steady" (sp_steady K CW CT CB CM) := by
  refine calX D b sc_steady (fun vs H Q E h => ?_) fun cdv A outer s H vs Q E hr h => ?_
  · obtain ⟨W, L, lo, hi, b, zs, rfl, _⟩ := h; rfl
  · obtain ⟨W, L, lo, hi, b, zs, rfl, hW, wk, e1, e2, e3, e4, q⟩ := h
    have nd := sc_steady.nd
    refine ⟨_, (pss_cons (ps_expr (pe_cX g_check_window hr (by first | decide | exact Nat.le_refl _ | omega) (by rfl) (fun σ => passAt (takes_of rfl rfl rfl rfl) σ) (pa_cons (pv 0) pa_nil)))
      (pss_cons (ps_expr (pe_cX g_check_beat hr (by first | decide | exact Nat.le_refl _ | omega) (by rfl) (fun σ => passAt (takes_of rfl rfl rfl rfl) σ) (pa_cons (pv 1) pa_nil)))
      (pss_cons (ps_expr (pe_cX g_check_tasks hr (by first | decide | exact Nat.le_refl _ | omega) (by rfl) (fun σ => passAt (takes_of rfl rfl rfl rfl) σ) (pa_cons (pv 2) pa_nil)))
      (pss_cons (ps_expr (pe_cX g_check_searched hr (by first | decide | exact Nat.le_refl _ | omega) (by rfl) (fun σ => passAt (takes_of rfl rfl rfl rfl) σ) (pa_cons (pv 0) (pa_cons (pv 1) (pa_cons (pv 2) pa_nil)))))
      (pss_cons (ps_set (i := 3) nd rfl (Or.inl rfl) (pe_tup (pa_cons pe_int (pa_cons (pe_op (r := rRepU K) op_repU (pe_tup (pa_cons pe_int pa_nil)) (pe_callB (r := Wd.rLen K) call_len1 (by rfl) T.n_len PySem.boot_len (pa_cons (pv 2) pa_nil))) pa_nil))))
      (pss_cons (ps_set (i := 4) nd rfl (Or.inl rfl) (pe_ndisp hr.units (pv 3) pe_non))
      (pss_cons (ps_set (i := 5) nd rfl (Or.inl rfl) (pe_lst (pa_cons (pv 3) pa_nil)))
      (pss_cons (ps_while (passes_of rfl) (pt_truth (pv 5) (by intro _; rfl)) (pss_cons (ps_set (i := 6) nd rfl (Or.inl rfl) (pe_lst pa_nil))
      (pss_cons (ps_for (passes_of rfl) rfl (pi_list (pv 5)) (pg_name (i := 7) nd rfl (Or.inl rfl)) (pss_cons (ps_set (i := 8) nd rfl (Or.inl rfl) (pe_op op_add (pe_ix (r := rIxT K) ix_tup (pv 7) pe_int (fun _ _ => rfl)) pe_int))
      (pss_one (ps_for (passes_of rfl) rfl (pi_list (C8.pe_c g_all_waits_behind hr (by first | decide | exact Nat.le_refl _ | omega) (by rfl) (pa_cons (pv 2) (pa_cons (pe_ix (r := rIxT K) ix_tup (pv 7) pe_int (fun _ _ => rfl)) pa_nil)))) (pg_name (i := 9) nd rfl (Or.inl rfl)) (pss_cons (ps_set (i := 10) nd rfl (Or.inl rfl) (C8.pe_c g_bite_word hr (by first | decide | exact Nat.le_refl _ | omega) (by rfl) (pa_cons (pv 0) (pa_cons (pv 1) (pa_cons (pv 8) (pa_cons (pv 9) pa_nil))))))
      (pss_cons (ps_if (pt_cmpR op_notN1 (pv 10) pe_non (nomark _)) (pss_cons (ps_set (i := 11) nd rfl (Or.inl rfl) (pe_op op_cat (C8.pe_c g_path_to hr (by first | decide | exact Nat.le_refl _ | omega) (by rfl) (pa_cons (pv 4) (pa_cons (pv 7) pa_nil))) (pe_lst (pa_cons (pe_tup (pa_cons (pv 8) (pa_cons (pv 9) pa_nil))) pa_nil))))
      (pss_one (ps_ret (pe_tup (pa_cons pe_str (pa_cons (C8.pe_c g_reports_along hr (by first | decide | exact Nat.le_refl _ | omega) (by rfl) (pa_cons (pv 2) (pa_cons (pv 11) pa_nil))) (pa_cons (pe_tup (pa_cons (pe_op op_sub (pe_callB (r := Wd.rLen K) call_len1 (by rfl) T.n_len PySem.boot_len (pa_cons (pv 11) pa_nil)) pe_int) (pa_cons (pv 10) pa_nil))) pa_nil))))))) pss_nil)
      (pss_cons (ps_set (i := 12) nd rfl (Or.inl rfl) (pe_tup (pa_cons (pv 8) (pa_cons (pv 9) pa_nil))))
      (pss_cons (ps_if (pt_val (C8.pe_c g_is_patted hr (by first | decide | exact Nat.le_refl _ | omega) (by rfl) (pa_cons (pv 1) (pa_cons (pv 8) (pa_cons (pv 9) pa_nil))))) (pss_one (ps_set (i := 12) nd rfl (Or.inl rfl) (pe_tup (pa_cons pe_int (pa_cons (pv 9) pa_nil))))) pss_nil)
      (pss_one (ps_if (pt_cmpR (r := rNIn P w true) (op_nnotin hr.units) (pv 12) (pv 4) (by with_unfolding_all rfl)) (pss_cons (ps_nput hr.units (pv 4) (pv 12) (pv 7) rfl)
      (pss_one (ps_expr (pe_bmK (K := K) rfl PySem.F.plainAttrs_list PySem.F.slot_list_append PySem.F.type_list_append mt_append (pv 6) (pa_cons (pv 12) pa_nil))))) pss_nil))))))))))
      (pss_one (ps_set (i := 5) nd rfl (Or.inl rfl) (pv 6))))))
      (pss_one (ps_ret (pe_tup (pa_cons pe_str pa_nil)))))))))))), ?_⟩
    walk_at "go"
    refine ⟨W, lo, hi, rfl, hW, fun okw => ?_, fun bad => e1 bad⟩
    walk_at "go"
    refine ⟨b, rfl, fun okb => ?_, fun bad => e2 okw bad⟩
    walk_at "go"
    refine ⟨L, zs, rfl, wk, fun okt => ?_, fun bad => e3 okw okb bad⟩
    walk_at "go"
    refine ⟨W, L, lo, hi, b, zs, rfl, hW, wk, okt.1, okt.2.1, fun okm H1 s1 => ?_, fun bad H1 s1 => e4 okw okb okt bad H1 s1⟩
    obtain ⟨q1, q2⟩ := q okw okb okt okm
    clear q e1 e2 e3 e4
    generalize hts : zs.map (·.2) = ts at q1 q2
    have tl : ts.length = zs.length := by rw [← hts, List.length_map]
    have wft : WfT ts := fun t ht => by
      rw [← hts] at ht
      obtain ⟨z, hz, rfl⟩ := List.mem_map.mp ht
      exact ⟨(okt.2.2 z hz).1, (okt.2.2 z hz).2.1, okm.2.1 z hz⟩
    have k2 := okm.1
    have k1 := okt.1
    have b0 : 0 < b := by have := okb.1; omega
    have h0 : 0 ≤ hi := by have := okw.1; have := okw.2.1; omega
    have h24 := okm.2.2.2
    walk_at "go"
    intro t0 ht0
    have s2 := s1.trans (same_new (o := .tup [.int 0]) ht0)
    have e0 := upd_same (H := H1) (a := t0) (o := .tup [.int 0])
    generalize upd H1 t0 (.tup [.int 0]) = H2 at s2 e0
    walk_at "go"
    refine g_len (.inl (SqL.of (s2 _ _ wk.at_))) ?_
    rw [List.length_map]
    refine g_repZ e0 k1 (by omega) fun H3 c s23 e3 => ?_
    have s3 := s2.trans s23
    walk_at "go"
    intro t4 ht4
    have s4 := s3.trans (same_new (o := .tup [.int 0, .ref c]) ht4)
    have st4 : StV (upd H3 t4 (.tup [.int 0, .ref c])) (start0 ts) t4 := ⟨c, upd_same, by rw [upd_ne (ne_of_none e3 ht4)]; unfold start0; rw [tl]; exact e3⟩
    generalize upd H3 t4 (.tup [.int 0, .ref c]) = H4 at s4 st4
    clear e0 s2 s23 s3 e3 ht4 ht0 s1 H1 H2 H3
    walk_at "go"
    refine g_ndisp (P := P) (w := w) fun d hd => ?_
    have nd0 := Wd.Same.back s4 hd
    have s5 := s4.trans (same_new (o := DNO P w d []) hd)
    have st5 := st4.keep (keepT_new (o := DNO P w d []) hd)
    have ed5 := upd_same (H := H4) (a := d) (o := DNO P w d [])
    generalize upd H4 d (DNO P w d []) = H5 at s5 st5 ed5
    walk_at "go"
    refine ⟨stKey (start0 ts), t4, rfl, ed5, st5.nest, stKey_depth _, ?_⟩
    have s6 : Same H (upd H5 d (DNO P w d [(stKey (start0 ts), t4, V.non)])) := Wd.Same.mut s5 nd0
    have st6 := st5.keep (keepT_dno (o := DNO P w d [(stKey (start0 ts), t4, V.non)]) ed5)
    have ed6 : upd H5 d (DNO P w d [(stKey (start0 ts), t4, V.non)]) d = some (DNO P w d (toN [(start0 ts, t4, none)])) := upd_same
    generalize upd H5 d (DNO P w d [(stKey (start0 ts), t4, V.non)]) = H6 at s6 st6 ed6
    clear s5 st5 ed5 s4 st4 hd H4 H5
    walk_at "go"
    intro SL hSL
    have s7 := same_new (o := .lst [V.ref t4]) hSL
    have ed7 := s7 _ _ ed6
    have st7 := st6.keep (keepT_same s7)
    have sl7 : StL (upd H6 SL (.lst [V.ref t4])) SL [(start0 ts, t4)] := ⟨upd_same, fun p hp => by
      rw [List.mem_singleton] at hp; subst hp; exact st7⟩
    have nSL := Wd.Same.back s6 hSL
    have s07 := s6.trans s7
    generalize upd H6 SL (.lst [V.ref t4]) = H7 at s7 ed7 st7 sl7 s07
    clear s6 s7 st6 ed6 hSL H6
    walk_at "go"
    refine w_loop (fun m σ H' => ∃ (n : Nat) (es : List AhE) (Sa : List (Sta × Addr)) (SL : Addr) (v6 v7 v8 v9 v10 v11 v12 : Option V), σ = [some (.ref W), some (.int b), some (.ref L), some (.ref t4), some (.ref d), some (.ref SL), v6, v7, v8, v9, v10, v11, v12] ∧ Same H H' ∧ H' d = some (DNO P w d (toN es)) ∧ AhOk H' es ∧ StL H' SL Sa ∧ Bfs lo hi b ts n es (Sa.map (·.1)) ∧ H SL = none ∧ (Sa ≠ [] → n + 1 ≤ es.length) ∧ m = 2 * (1600 - es.length) + if Sa = [] then 0 else 1) (2 * (1600 - 1) + 1) ?_ ?_
    · exact ⟨0, [(start0 ts, t4, none)], [(start0 ts, t4)], SL, _, _, _, _, _, _, _, rfl, s07, ed7, fun e he => (by
        rw [List.mem_singleton] at he; subst he
        exact ⟨st7, fun p z => nomatch z⟩), sl7, bfs_start, nSL, fun _ => Nat.le_refl 1, rfl⟩
    clear s07 ed7 st7 sl7 nSL SL H7
    rintro m σ H1 ⟨n, es, Sa, SL, v6, v7, v8, v9, v10, v11, v12, rfl, s1, ed1, ah1, sl1, B, nSL, nes, hm⟩
    have es16 := known_len h0 h24 wft (by omega) B.nd B.anc
    walk_at "go"
    by_cases hSa : Sa = []
    · subst hSa
      refine ⟨false, .inl ⟨[], SqL.of sl1.at_, rfl⟩, ?_⟩
      walk_at "go"
      intro t ht
      exact q1 (bfs_steady B) _ t (s1.trans (same_new ht)) (Wd.Same.back s1 ht) upd_same
    have em : (Sa.map fun p => V.ref p.2) ≠ [] := fun z => hSa (List.map_eq_nil_iff.mp z)
    have n1 := nes hSa
    refine ⟨true, .inl ⟨_, SqL.of sl1.at_, by cases Sa with
      | nil => exact absurd rfl hSa
      | cons _ _ => rfl⟩, ?_⟩
    refine L2.iteT ⟨fun σ' H' => ∃ (es' : List AhE) (Sa' : List (Sta × Addr)) (SL : Addr) (v6 v7 v8 v9 v10 v11 v12 : Option V), σ' = [some (.ref W), some (.int b), some (.ref L), some (.ref t4), some (.ref d), some (.ref SL), v6, v7, v8, v9, v10, v11, v12] ∧ Same H H' ∧ H' d = some (DNO P w d (toN es')) ∧ AhOk H' es' ∧ StL H' SL Sa' ∧ Bfs lo hi b ts (n + 1) es' (Sa'.map (·.1)) ∧ H SL = none ∧ es'.length = es.length + Sa'.length, ?_, ?_⟩
    · rintro σ' H' ⟨es', Sa', SL', w6, w7, w8, w9, w10, w11, w12, r1, r2, r3, r4, r5, r6, r7, r8⟩
      have le := known_len h0 h24 wft (by omega) r6.nd r6.anc
      refine ⟨2 * (1600 - es'.length) + if Sa' = [] then 0 else 1, ?_, n + 1, es', Sa', SL', w6, w7, w8, w9, w10, w11, w12, r1, r2, r3, r4, r5, r6, r7, fun hn => ?_, rfl⟩
      · rw [if_neg hSa] at hm
        by_cases c : Sa' = []
        · rw [if_pos c]
          rw [c] at r8
          have : es'.length = es.length := r8
          omega
        · rw [if_neg c]
          have := List.length_pos_iff.mpr c
          omega
      · have := List.length_pos_iff.mpr hn
        omega
    walk_at "go"
    intro LL hLL
    have s2 := same_new (o := .lst []) hLL
    have nLS : SL ≠ LL := ne_of_none sl1.at_ hLL
    have nLL := Wd.Same.back s1 hLL
    have ll2 : StL (upd H1 LL (.lst [])) LL [] := ⟨upd_same, fun p hp => nomatch hp⟩
    have s02 := s1.trans s2
    have ed2 := s2 _ _ ed1
    have ah2 := ah1.keep (keepT_same s2)
    have sl2 := sl1.same s2
    generalize upd H1 LL (.lst []) = H2 at s2 ll2 s02 ed2 ah2 sl2
    clear s1 ed1 ah1 sl1 s2 hLL H1
    walk_at "go"
    refine w_list (xs := Sa.map fun p => V.ref p.2) (fun i σ H' => ∃ (es' : List AhE) (La : List (Sta × Addr)) (v7 v8 v9 v10 v11 v12 : Option V), σ = [some (.ref W), some (.int b), some (.ref L), some (.ref t4), some (.ref d), some (.ref SL), some (.ref LL), v7, v8, v9, v10, v11, v12] ∧ Same H H' ∧ H' d = some (DNO P w d (toN es')) ∧ AhOk H' es' ∧ StL H' SL Sa ∧ StL H' LL La ∧ Mid lo hi b ts n es es' (Sa.map (·.1)) i (La.map (·.1))) ?_ ?_ ?_ ?_
    · exact ⟨es, [], _, _, _, _, _, _, rfl, s02, ed2, ah2, sl2, ll2, mid_start B⟩
    · rintro i σ H' _ ⟨es', La, v7, v8, v9, v10, v11, v12, rfl, _, _, _, sl, _⟩
      exact SqL.of sl.at_
    · clear s02 ed2 ah2 sl2 ll2 H2
      rintro i x σ H1 hx ⟨es', La, v7, v8, v9, v10, v11, v12, rfl, s1, ed1, ah1, sl1, ll1, M⟩
      obtain ⟨sa, hsa, rfl⟩ := map_at2 hx
      obtain ⟨s, a⟩ := sa
      have sm := List.mem_of_getElem? hsa
      have hsS : (Sa.map (·.1))[i]? = some s := by rw [List.getElem?_map, hsa]; rfl
      have sS : s ∈ Sa.map (·.1) := List.mem_of_getElem? hsS
      obtain ⟨p, anp, ptp, pln⟩ := B.fr s sS
      obtain ⟨g0, g1, wfs⟩ := reach_wf h0 wft (pth_reach ptp)
      have sv1 : StV H1 s a := sl1.own _ sm
      obtain ⟨c, hca, hcc⟩ := sv1
      have slen : zs.length = s.2.length := by rw [← tl]; exact wfs.len
      walk_at "go"
      refine g_ixT (SqT.of hca) rfl ?_
      walk_at "go"
      refine g_ixT (SqT.of hca) rfl ?_
      walk_at "go"
      refine ⟨L, c, zs, s.2, rfl, wk.same s1, hcc, slen, by omega, fun H2 DD rs s2 hDD rl er => ?_⟩
      rw [hts] at er
      have alen : rs.length ≤ 4 := by
        have h1 := allW_len (ts.zip s.2) [[]]
        have h2 := congrArg List.length er
        rw [List.length_map] at h2
        have h3 : (ts.zip s.2).length ≤ 2 := by rw [List.length_zip]; omega
        have h4 : 2 ^ (ts.zip s.2).length ≤ 2 ^ 2 := Nat.pow_le_pow_right (by decide) h3
        rw [List.length_singleton, Nat.one_mul] at h1
        unfold awb at h2
        omega
      have nDL : DD ≠ LL := (ne_of_none ll1.at_ hDD).symm
      have sv2 : StV H2 s a := StV.keep (keepT_same s2) ⟨c, hca, hcc⟩
      have s02 := s1.trans s2
      have ed2 := s2 _ _ ed1
      have ah2 := ah1.keep (keepT_same s2)
      have sl2 := sl1.same s2
      have ll2 := ll1.same s2
      clear s1 ed1 ah1 sl1 ll1 hca hcc hDD s2 H1
      refine w_list (xs := rs.map fun r => V.ref r.1) (fun j σ H' => ∃ (es' : List AhE) (La : List (Sta × Addr)) (v9 v10 v11 v12 : Option V), σ = [some (.ref W), some (.int b), some (.ref L), some (.ref t4), some (.ref d), some (.ref SL), some (.ref LL), some (.ref a), some (.int (s.1 + 1)), v9, v10, v11, v12] ∧ Same H H' ∧ H' d = some (DNO P w d (toN es')) ∧ AhOk H' es' ∧ StL H' SL Sa ∧ StL H' LL La ∧ StV H' s a ∧ RowsT H' DD rs ∧ Mid lo hi b ts n es es' (Sa.map (·.1)) i (La.map (·.1)) ∧ ∀ k ws, k < j → (awb ts s.2)[k]? = some ws → wordB lo hi b (s.1 + 1) ws = none ∧ foll b (s.1 + 1, ws) ∈ es'.map (·.1)) ?_ ?_ ?_ ?_
      · exact ⟨es', La, _, _, _, _, rfl, s02, ed2, ah2, sl2, ll2, sv2, rl, M, fun k ws hk => by omega⟩
      · rintro j σ H' _ ⟨es', La, v9, v10, v11, v12, rfl, _, _, _, _, _, _, rl, _⟩
        exact SqL.of rl.at_
      · clear s02 ed2 ah2 sl2 ll2 sv2 rl M es' La H2
        rintro j x σ H1 hx ⟨es', La, v9, v10, v11, v12, rfl, s1, ed1, ah1, sl1, ll1, sv1, rl, M, seen⟩
        obtain ⟨r, hr', rfl⟩ := map_at2 hx
        obtain ⟨ra, ws⟩ := r
        have eW : H1 ra = some (.tup (ws.map V.int)) := rl.own _ (List.mem_of_getElem? hr')
        have haw : (awb ts s.2)[j]? = some ws := by rw [← er, List.getElem?_map, hr']; rfl
        have fol : Fol ts s.2 ws := (awb_mem (by rw [tl]; exact slen)).mp (List.mem_of_getElem? haw)
        have wlen : ws.length = zs.length := by rw [fol_len fol, tl]
        have es16' := known_len h0 h24 wft (by omega) M.nd M.anc
        walk_at "gs"
        refine ⟨W, ra, lo, hi, b, s.1 + 1, ws, rfl, tup_same s1 hW, eW, by omega, b0, ?_⟩
        walk_at "gs"
        cases hwd : wordB lo hi b (s.1 + 1) ws with
        | some wd =>
          have e : wordV (some wd) = .str wd := rfl
          rw [e]
          refine g_join (fun _ _ => False) (fun _ _ h => h.elim) fun N' _ => ?_
          walk_at "go"
          refine ⟨d, a, es', s, p, rfl, ed1, ah1, M.nd, sv1, anp.mono M.old, by omega, fun H2 D2 ps s2 hD2 st2 ep => ?_⟩
          have pl2 : ps.length = n + 1 := by rw [← pln, ← ep, List.length_map]
          walk_at "go"
          intro t2 ht2
          have s3 := same_new (o := .tup [.int (s.1 + 1), .ref ra]) ht2
          have sv3 : StV (upd H2 t2 (.tup [.int (s.1 + 1), .ref ra])) (s.1 + 1, ws) t2 := ⟨ra, upd_same, s3 _ _ (s2 _ _ eW)⟩
          generalize upd H2 t2 (.tup [.int (s.1 + 1), .ref ra]) = H3 at s3 sv3
          walk_at "go"
          intro l3 hl3
          have s4 := same_new (o := .lst [V.ref t2]) hl3
          have e4 := upd_same (H := H3) (a := l3) (o := .lst [V.ref t2])
          generalize upd H3 l3 (.lst [V.ref t2]) = H4 at s4 e4
          have st4 := (st2.same s3).same s4
          have sv4 := sv3.keep (keepT_same s4)
          refine ⟨D2, l3, _, _, rfl, rfl, st4.at_, e4, by rw [sizeLine_eq, List.length_map]; show ps.length + 1 ≤ _; omega, fun PP hPP => ?_⟩
          have s5 := same_new (o := .lst ((ps.map fun p => V.ref p.2) ++ [V.ref t2])) hPP
          have st5 : StL (upd H4 PP (.lst ((ps.map fun p => V.ref p.2) ++ [V.ref t2]))) PP (ps ++ [((s.1 + 1, ws), t2)]) := ⟨by rw [upd_same, List.map_append]; rfl, fun y hy => by
            rw [List.mem_append, List.mem_singleton] at hy
            rcases hy with hy | rfl
            · exact (st4.own y hy).keep (keepT_same s5)
            · exact sv4.keep (keepT_same s5)⟩
          have s05 := (((s1.trans s2).trans s3).trans s4).trans s5
          generalize upd H4 PP (.lst ((ps.map fun p => V.ref p.2) ++ [V.ref t2])) = H5 at s5 st5 s05
          walk_at "go"
          refine ⟨L, PP, zs, ps ++ [((s.1 + 1, ws), t2)], rfl, wk.same s05, by omega, st5, fun y hy => ?_, by rw [List.length_append]; exact Nat.le_add_left 1 _, by rw [List.length_append, List.length_singleton]; omega, fun H6 RL rs6 s6 hRL ri er6 => ?_⟩
          · rw [List.mem_append, List.mem_singleton] at hy
            rcases hy with hy | rfl
            · have := pth_wid ptp y.1 (by rw [← ep]; exact List.mem_map.mpr ⟨y, hy, rfl⟩)
              rw [this, tl]
            · exact wlen
          have s06 := s05.trans s6
          walk_at "go"
          refine g_len (.inl (SqL.of (s6 _ _ st5.at_))) ?_
          rw [List.length_map, List.length_append, List.length_singleton]
          walk_at "go"
          have epl : (((ps.length + 1 : Nat) : Int) - 1) = ((p.length : Nat) : Int) := by omega
          rw [epl]
          intro BT hBT
          have s7 := same_new (o := .tup [.int (p.length : Nat), .str wd]) hBT
          have e7 := upd_same (H := H6) (a := BT) (o := .tup [.int (p.length : Nat), .str wd])
          generalize upd H6 BT (.tup [.int (p.length : Nat), .str wd]) = H7 at s7 e7
          walk_at "go"
          intro TT hTT
          have s8 := same_new (o := .tup [.str "bitten", .ref RL, .ref BT]) hTT
          refine q2 p s ws wd ptp fol hwd (fun m s' ws' hre hm' hf' => ?_) _ TT RL BT rs6 ((s06.trans s7).trans s8) (Wd.Same.back (s06.trans s7) hTT) upd_same ⟨s8 _ _ (s7 _ _ ri.at_), fun y hy => ⟨s8 _ _ (s7 _ _ (ri.own y hy).1), Wd.Same.back s05 (ri.own y hy).2⟩⟩ (Wd.Same.back s05 hRL) ?_ (s8 _ _ e7)
          · rw [pln] at hm'
            exact (B.lt m s' (by omega) hre ws' hf').1
          · rw [er6, List.map_append, ep]; rfl
        | none =>
          have e : wordV none = .non := rfl
          rw [e]
          refine g_join (fun σ H' => σ = [some (.ref W), some (.int b), some (.ref L), some (.ref t4), some (.ref d), some (.ref SL), some (.ref LL), some (.ref a), some (.int (s.1 + 1)), some (.ref ra), some .non, v11, v12] ∧ H' = H1) ?_ ?_
          case refine_2 =>
            intro N' hk
            walk_at "go"
            exact hk _ _ ⟨rfl, rfl⟩
          rintro σ H2 ⟨rfl, rfl⟩
          walk_at "gs"
          intro t2 ht2
          have s3 := same_new (o := .tup [.int (s.1 + 1), .ref ra]) ht2
          have sv3 : StV (upd H2 t2 (.tup [.int (s.1 + 1), .ref ra])) (s.1 + 1, ws) t2 := ⟨ra, upd_same, s3 _ _ eW⟩
          have s03 := s1.trans s3
          have ed3 := s3 _ _ ed1
          have ah3 := ah1.keep (keepT_same s3)
          have sl3 := sl1.same s3
          have ll3 := ll1.same s3
          have svs3 := sv1.keep (keepT_same s3)
          have rl3 := rl.same s3
          have eW3 := s3 _ _ eW
          generalize upd H2 t2 (.tup [.int (s.1 + 1), .ref ra]) = H3 at s3 sv3 s03 ed3 ah3 sl3 ll3 svs3 rl3 eW3
          clear s1 ed1 ah1 sl1 ll1 sv1 rl eW s3 ht2 H2
          walk_at "gs"
          refine g_join (fun σ H' => ∃ tf : Addr, σ = [some (.ref W), some (.int b), some (.ref L), some (.ref t4), some (.ref d), some (.ref SL), some (.ref LL), some (.ref a), some (.int (s.1 + 1)), some (.ref ra), some .non, v11, some (.ref tf)] ∧ Same H3 H' ∧ StV H' (foll b (s.1 + 1, ws)) tf) ?_ ?_
          case refine_2 =>
            intro N' hk
            walk_at "go"
            refine ⟨ra, b, s.1 + 1, ws, rfl, eW3, by omega, b0, ?_⟩
            walk_at "go"
            cases hp : patd b (s.1 + 1) ws with
            | true =>
              have ef : foll b (s.1 + 1, ws) = (0, ws) := if_pos hp
              walk_at "go"
              intro t5 ht5
              walk_at "go"
              have s5 := same_new (o := .tup [.int 0, .ref ra]) ht5
              exact hk _ _ ⟨t5, rfl, s5, by rw [ef]; exact ⟨ra, upd_same, s5 _ _ eW3⟩⟩
            | false =>
              have ef : foll b (s.1 + 1, ws) = (s.1 + 1, ws) := if_neg (by rw [hp]; exact fun z => nomatch z)
              walk_at "go"
              exact hk _ _ ⟨t2, rfl, fun _ _ z => z, by rw [ef]; exact sv3⟩
          rintro σ H4 ⟨tf, rfl, s34, svf⟩
          have s04 := s03.trans s34
          have ed4 := s34 _ _ ed3
          have ah4 := ah3.keep (keepT_same s34)
          have sl4 := sl3.same s34
          have ll4 := ll3.same s34
          have svs4 := svs3.keep (keepT_same s34)
          have rl4 := rl3.same s34
          clear s03 ed3 ah3 sl3 ll3 svs3 rl3 eW3 s34 sv3 H3
          generalize hf : foll b (s.1 + 1, ws) = f at svf
          walk_at "go"
          refine ⟨stKey f, tf, d, toN es', rfl, rfl, ed4, ah4.keys, svf.nest, stKey_depth _, ?_⟩
          rw [toN_has]
          walk_at "go"
          by_cases hin : f ∈ es'.map (·.1)
          · rw [decide_eq_true hin]
            walk_at "go"
            refine ⟨es', La, _, _, _, _, rfl, s04, ed4, ah4, sl4, ll4, svs4, rl4, M, fun k ws' hk hw' => ?_⟩
            by_cases c : k < j
            · exact seen k ws' c hw'
            · have : k = j := by omega
              subst this
              cases haw.symm.trans hw'
              exact ⟨hwd, by rw [hf]; exact hin⟩
          · rw [decide_eq_false hin]
            walk_at "go"
            refine g_nput (P := P) (w := w) ?_
            walk_at "go"
            refine ⟨stKey f, tf, d, toN es', rfl, rfl, ed4, ah4.keys, svf.nest, stKey_depth _, by rw [toN_has]; exact decide_eq_false hin, by rw [sizeLine_eq]; unfold toN; rw [List.length_map]; omega, ?_⟩
            have eN : toN es' ++ [(stKey f, tf, V.ref a)] = toN (es' ++ [(f, tf, some (s, a))]) := by unfold toN; rw [List.map_append]; rfl
            rw [eN]
            have kt := keepT_dno (o := DNO P w d (toN (es' ++ [(f, tf, some (s, a))]))) ed4
            have nds : ∀ {D : Addr} {xs : List V}, H4 D = some (.lst xs) → D ≠ d := fun h z => by rw [z, ed4] at h; exact dno_lst (Option.some.inj h)
            have s05 : Same H (upd H4 d (DNO P w d (toN (es' ++ [(f, tf, some (s, a))])))) := Wd.Same.mut s04 nd0
            have ed5 := upd_same (H := H4) (a := d) (o := DNO P w d (toN (es' ++ [(f, tf, some (s, a))])))
            have ah5 : AhOk (upd H4 d (DNO P w d (toN (es' ++ [(f, tf, some (s, a))])))) (es' ++ [(f, tf, some (s, a))]) := fun e he => by
              rw [List.mem_append, List.mem_singleton] at he
              rcases he with he | rfl
              · exact (ah4.keep kt) e he
              · exact ⟨svf.keep kt, fun p z => by cases z; exact svs4.keep kt⟩
            have sl5 : StL (upd H4 d (DNO P w d (toN (es' ++ [(f, tf, some (s, a))])))) SL Sa := ⟨by rw [upd_ne (nds sl4.at_)]; exact sl4.at_, fun y hy => (sl4.own y hy).keep kt⟩
            have ll5 : StL (upd H4 d (DNO P w d (toN (es' ++ [(f, tf, some (s, a))])))) LL La := ⟨by rw [upd_ne (nds ll4.at_)]; exact ll4.at_, fun y hy => (ll4.own y hy).keep kt⟩
            have rl5 : RowsT (upd H4 d (DNO P w d (toN (es' ++ [(f, tf, some (s, a))])))) DD rs := ⟨by rw [upd_ne (nds rl4.at_)]; exact rl4.at_, fun y hy => kt _ _ (rl4.own y hy)⟩
            have svs5 := svs4.keep kt
            have svf5 := svf.keep kt
            generalize upd H4 d (DNO P w d (toN (es' ++ [(f, tf, some (s, a))]))) = H5 at kt s05 ed5 ah5 sl5 ll5 rl5 svs5 svf5
            clear s04 ed4 ah4 sl4 ll4 svs4 rl4 svf kt nds H4
            have M5 := mid_add (a := a) (a' := tf) B M sS fol hwd (by rw [hf]; exact hin)
            rw [hf] at M5
            have les : (La.map (·.1)).length ≤ 1600 := by
              have h1 := congrArg List.length M.ext
              rw [List.length_append, List.length_map] at h1
              omega
            rw [List.length_map] at les
            walk_at "go"
            refine g_tyL ll5.at_ ?_
            walk_at "go"
            refine g_append ll5.at_ (by rw [List.length_map]; omega) ?_
            have kt := keepT_lst (o := .lst ((La.map fun p => V.ref p.2) ++ [V.ref tf])) ll5.at_
            have nLLe : ∀ {D : Addr} {o : HO}, D ≠ LL → H5 D = some o → upd H5 LL (.lst ((La.map fun p => V.ref p.2) ++ [V.ref tf])) D = some o := fun n h => by rw [upd_ne n]; exact h
            walk_at "go"
            refine ⟨es' ++ [(f, tf, some (s, a))], La ++ [(f, tf)], _, _, _, _, rfl, Wd.Same.mut s05 nLL, nLLe (fun z => by rw [z, ll5.at_] at ed5; exact dno_lst (Option.some.inj ed5).symm) ed5, ah5.keep kt, ⟨nLLe nLS sl5.at_, fun y hy => (sl5.own y hy).keep kt⟩, ⟨by rw [upd_same, List.map_append]; rfl, fun y hy => ?_⟩, svs5.keep kt, ⟨nLLe nDL rl5.at_, fun y hy => kt _ _ (rl5.own y hy)⟩, by rw [List.map_append]; exact M5, fun k ws' hk hw' => ?_⟩
            · rw [List.mem_append, List.mem_singleton] at hy
              rcases hy with hy | rfl
              · exact (ll5.own y hy).keep kt
              · exact svf5.keep kt
            · have up : ∀ y, y ∈ es'.map (·.1) → y ∈ (es' ++ [(f, tf, some (s, a))]).map (·.1) := fun y hy => by rw [List.map_append]; exact List.mem_append_left _ hy
              by_cases c : k < j
              · exact ⟨(seen k ws' c hw').1, up _ (seen k ws' c hw').2⟩
              · have : k = j := by omega
                subst this
                cases haw.symm.trans hw'
                refine ⟨hwd, ?_⟩
                rw [hf, List.map_append]
                exact List.mem_append_right _ (List.mem_singleton.mpr rfl)
      · clear s02 ed2 ah2 sl2 ll2 sv2 rl M es' La H2
        rintro σ H1 ⟨es', La, v9, v10, v11, v12, rfl, s1, ed1, ah1, sl1, ll1, sv1, rl, M, seen⟩
        rw [List.length_map] at seen
        walk_at "go"
        refine ⟨es', La, _, _, _, _, _, _, rfl, s1, ed1, ah1, sl1, ll1, mid_next M hsS fun ws hf => ?_⟩
        obtain ⟨k, hk, e⟩ := List.mem_iff_getElem.mp ((awb_mem (by rw [tl]; exact slen)).mpr hf)
        refine seen k ws ?_ (by rw [List.getElem?_eq_getElem hk, e])
        have := congrArg List.length er
        rw [List.length_map] at this
        omega
    · rintro σ H1 ⟨es', La, v7, v8, v9, v10, v11, v12, rfl, s1, ed1, ah1, sl1, ll1, M⟩
      rw [List.length_map] at M
      walk_at "go"
      refine ⟨es', La, LL, _, _, _, _, _, _, _, rfl, s1, ed1, ah1, ll1, mid_end B (by rw [List.length_map]; exact M), nLL, ?_⟩
      have h1 := congrArg List.length M.ext
      rw [List.length_append, List.length_map, List.length_map, List.length_map] at h1
      exact h1
end
end K15
namespace K15
open PySem PySem.Spec PyProof.Rows L2 Wd
section
variable {P : Program} {w : World} {K : PySem.W.Frag} {mg : Str → Option Value} {base : Heap} {CW CT CB CM : Addr}
abbrev s_law_far : Stmt := top 39
theorem sc_law_far : FnScope ["_law_state", "_law_most", "_law_far_here"] ["_law_state", "_law_most"] (C8.fnScope s_law_far) := C8.fnScope_by (by decide +kernel)
def sp_far (K : PySem.W.Frag) : Sp := fun vs H Q _ => ∃ (B : Hp) (S : Addr) (n : Int), vs = [.ref S, .int n] ∧ Dst K B H S ∧ ∀ H' v, Frm S H H' → Dst K B H' S → (v < 0 ∨ n < v) → Q (.int v) H'
theorem ok_far (T : Txt K mg CW CT CB CM) {f : Addr} {fd : FuncData} (D : C8.Def K mg "_law_far" s_law_far f fd) (b : Binds K fd ["_law_state", "_law_most"] []) (g_law_drawn : C8.Cal P w K mg base 1 "_law_drawn" (sp_drawn K) []) : C8.Cal P w K mg base 2 "_law_far" (sp_far K) [] := by
  refine C8.cal0 D b .nil sc_law_far (fun vs H Q E h => ?_) fun cdv A outer s H vs Q E hr h => ?_
  · obtain ⟨B, S, n, rfl, _⟩ := h; rfl
  · obtain ⟨B, S, n, rfl, d, q⟩ := h
    have nd := sc_law_far.nd
    refine ⟨_, (pss_cons (ps_set (i := 2) nd rfl (Or.inl rfl) (pe_ix (r := rIxL K) ix_list (pe_lst (pa_cons pe_int (pa_cons pe_int (pa_cons (pe_op op_pow pe_int pe_int) pa_nil)))) (C8.pe_c g_law_drawn hr (by first | decide | exact Nat.le_refl _ | omega) (by rfl) (pa_cons (pv 0) (pa_cons pe_int pa_nil))) (fun _ _ => rfl)))
      (pss_one (ps_ret (pe_ix (r := rIxL K) ix_list (pe_lst (pa_cons (pe_op op_sub (pe_op op_sub pe_int pe_int) (C8.pe_c g_law_drawn hr (by first | decide | exact Nat.le_refl _ | omega) (by rfl) (pa_cons (pv 0) (pa_cons (pv 2) pa_nil)))) (pa_cons (pe_op op_add (pe_op op_add (pv 1) pe_int) (C8.pe_c g_law_drawn hr (by first | decide | exact Nat.le_refl _ | omega) (by rfl) (pa_cons (pv 0) (pa_cons (pv 2) pa_nil)))) pa_nil))) (C8.pe_c g_law_drawn hr (by first | decide | exact Nat.le_refl _ | omega) (by rfl) (pa_cons (pv 0) (pa_cons pe_int pa_nil))) (fun _ _ => rfl))))), ?_⟩
    walk_at "go"
    refine g_I (pow_small (by decide) (by decide) (by decide)) ?_
    walk_at "go"
    intro l hl
    have d1 := d.same (same_new (o := .lst [.int 1, .int 20, .int (10 ^ (29 : Int).toNat)]) hl)
    walk_at "go"
    refine use_drawn d1 (by decide) (by decide) fun H2 v f2 d2 v0 v1 => ?_
    have h2 := f2 _ _ (d.ne hl) upd_same
    obtain ⟨x, hx, hx2⟩ := atI_mem (xs := [.int 1, .int 20, .int (10 ^ (29 : Int).toNat)]) v0 v1
    refine g_ixL (SqL.of h2) hx2 ?_
    obtain ⟨z, rfl, z0, z1⟩ : ∃ z, x = V.int z ∧ 0 < z ∧ z < 10 ^ 38 := by
      simp only [List.mem_cons, List.not_mem_nil, or_false] at hx
      rcases hx with rfl | rfl | rfl
      · exact ⟨_, rfl, by decide, by decide⟩
      · exact ⟨_, rfl, by decide, by decide⟩
      · exact ⟨_, rfl, by decide, by decide⟩
    walk_at "go"
    refine use_drawn d2 z0 z1 fun H3 v3 f3 d3 v30 v31 => ?_
    walk_at "go"
    refine use_drawn d3 z0 z1 fun H4 v4 f4 d4 v40 v41 => ?_
    walk_at "go"
    intro l2 hl2
    have d5 := d4.same (same_new (o := .lst [.int (0 - 1 - v3), .int (n + 1 + v4)]) hl2)
    walk_at "go"
    refine use_drawn (n := 2) d5 (by decide) (by decide) fun H6 v6 f6 d6 v60 v61 => ?_
    have h6 := f6 _ _ (d4.ne hl2) upd_same
    have fr : Frm S H H6 := (((((Frm.new hl).trans f2).trans f3).trans f4).trans (.new hl2)).trans f6
    obtain ⟨y, hy, hy2⟩ := atI_mem (xs := [.int (0 - 1 - v3), .int (n + 1 + v4)]) v60 v61
    refine g_ixL (SqL.of h6) hy2 ?_
    simp only [List.mem_cons, List.not_mem_nil, or_false] at hy
    rcases hy with rfl | rfl
    · exact q _ _ fr d6 (.inl (by omega))
    · exact q _ _ fr d6 (.inr (by omega))

end
section
variable {P : Program} {w : World} {K : PySem.W.Frag} {mg : Str → Option Value} {base : Heap} {CW : Addr}
/-- the classes of the refusals, at their places -/
structure Refs (K : PySem.W.Frag) (mg : Str → Option Value) (CD : Addr) (cs : List Addr) : Prop where
  n_isinstance : mg "isinstance" = none
  n_ValueError : mg "ValueError" = none
  g_DogError : mg "DogError" = some (.ref CD)
  g_BadWindow : ∃ C, cs[0]? = some C ∧ mg "BadWindow" = some (.ref C)
  g_BadPlan : ∃ C, cs[1]? = some C ∧ mg "BadPlan" = some (.ref C)
  g_BadDelays : ∃ C, cs[2]? = some C ∧ mg "BadDelays" = some (.ref C)
  g_BadWorks : ∃ C, cs[3]? = some C ∧ mg "BadWorks" = some (.ref C)
  g_NoPats : ∃ C, cs[4]? = some C ∧ mg "NoPats" = some (.ref C)
  g_NoPlace : ∃ C, cs[5]? = some C ∧ mg "NoPlace" = some (.ref C)
  g_BadTasks : ∃ C, cs[6]? = some C ∧ mg "BadTasks" = some (.ref C)
  g_BadBeat : ∃ C, cs[7]? = some C ∧ mg "BadBeat" = some (.ref C)
  g_TooMuch : ∃ C, cs[8]? = some C ∧ mg "TooMuch" = some (.ref C)
/-- a refusal without a dict of its own, of the i-th class: an error of DogError's, a ValueError, and of none of the others -/
structure IsRef (K : PySem.W.Frag) (CD : Addr) (cs : List Addr) (i : Nat) (C : Addr) : Prop where
  cls : cs[i]? = some C
  exc : ExcC K C
  dog : PySem.W.exmOne K (.ref C) (.ref CD) = some true
  val : PySem.W.kitOne K (.ref C) (.type "ValueError") = some true
  own : ∀ (j : Nat) (C' : Addr), cs[j]? = some C' → PySem.W.kitOne K (.ref C) (.ref C') = some (decide (i = j))
def kindW : List Str := ["BadWindow", "BadPlan", "BadDelays", "BadWorks", "NoPats", "NoPlace", "BadTasks", "BadBeat", "TooMuch"]
/-- what is wished of an exception: a refusal, whose word is told -/
def EKind (K : PySem.W.Frag) (CD : Addr) (cs : List Addr) (Q : VK) : XK := fun cls d H => ∃ (i : Nat) (C : Addr) (x : Str), cls = .ref C ∧ d = none ∧ IsRef K CD cs i C ∧ kindW[i]? = some x ∧ ∀ H', Same H H' → Q (.str x) H'
def TKind (K : PySem.W.Frag) (CD : Addr) (cs : List Addr) : (XK → Hp → VK → Prop) → Hp → VK → Prop := fun tl H Q => tl (EKind K CD cs Q) H Q
abbrev s_law_kind : Stmt := top 38
theorem sc_law_kind : FnScope ["_law_work", "e", "_law_kinds", "_law_words"] ["_law_work"] (C8.fnScope s_law_kind) := C8.fnScope_by (by decide +kernel)
theorem kind_gives {X : Cx} {g CD : Addr} {cs : List Addr} {cdg : Value} {q : Str} (T : Refs X.K X.mg CD cs) :
    LamX.GivesTo X ["_law_work", "e", "_law_kinds", "_law_words"] "_law_kind" (C8.fnScope s_law_kind) g cdg (C8.fnBody s_law_kind) "_law_work" q (TKind X.K CD cs) := by
  intro f c' s H Q tl act hc h
  have nd := sc_law_kind.nd
  obtain ⟨C0, e0, m0⟩ := T.g_BadWindow
  obtain ⟨C1, e1, m1⟩ := T.g_BadPlan
  obtain ⟨C2, e2, m2⟩ := T.g_BadDelays
  obtain ⟨C3, e3, m3⟩ := T.g_BadWorks
  obtain ⟨C4, e4, m4⟩ := T.g_NoPats
  obtain ⟨C5, e5, m5⟩ := T.g_NoPlace
  obtain ⟨C6, e6, m6⟩ := T.g_BadTasks
  obtain ⟨C7, e7, m7⟩ := T.g_BadBeat
  obtain ⟨C8', e8, m8⟩ := T.g_TooMuch
  refine ⟨_, pss_one (ps_try_as (X := (cxOf C8.CX0 X.prog X.w X.K X.mg X.base ["_law_work", "e", "_law_kinds", "_law_words"] "_law_kind" (C8.fnScope s_law_kind) g cdg X.A X.stack s H C8.E0).nox) (c := .ref CD) (i := 1)
      (tb := fun W D σ H => ∃ Ech : XK, (∀ cls d σ' H', Ech cls d H' → σ'.length = 4 → W cls d σ' H') ∧ σ[0]? = some (some (.ref f)) ∧ H c' = some (LamX.CodeO c' q) ∧ tl Ech H D.rt) (Wout := fun _ _ _ _ => False)
      rfl rfl nd rfl rfl ⟨rfl, by decide, .inl T.g_DogError⟩ LamX.takes0 (fun W pn xe tk _ => ?_) (fun a oe cls d pn hz hf => (pss_cons (ps_set (i := 2) nd rfl (Or.inl rfl) (pe_lst (pa_cons (pe_callB (r := rIsE2 X.K cls d a) (call_isE2 hz hf) (by rfl) T.n_isinstance (by decide +kernel) (pa_cons (pv 1) (pa_cons (pe_glob (v := .ref C0) rfl m0 rfl) pa_nil))) (pa_cons (pe_callB (r := rIsE2 X.K cls d a) (call_isE2 hz hf) (by rfl) T.n_isinstance (by decide +kernel) (pa_cons (pv 1) (pa_cons (pe_glob (v := .ref C1) rfl m1 rfl) pa_nil))) (pa_cons (pe_callB (r := rIsE2 X.K cls d a) (call_isE2 hz hf) (by rfl) T.n_isinstance (by decide +kernel) (pa_cons (pv 1) (pa_cons (pe_glob (v := .ref C2) rfl m2 rfl) pa_nil))) (pa_cons (pe_callB (r := rIsE2 X.K cls d a) (call_isE2 hz hf) (by rfl) T.n_isinstance (by decide +kernel) (pa_cons (pv 1) (pa_cons (pe_glob (v := .ref C3) rfl m3 rfl) pa_nil))) pa_nil))))))
      (pss_cons (ps_set (i := 2) nd rfl (Or.inl rfl) (pe_op op_cat (pv 2) (pe_lst (pa_cons (pe_callB (r := rIsE2 X.K cls d a) (call_isE2 hz hf) (by rfl) T.n_isinstance (by decide +kernel) (pa_cons (pv 1) (pa_cons (pe_glob (v := .ref C4) rfl m4 rfl) pa_nil))) (pa_cons (pe_callB (r := rIsE2 X.K cls d a) (call_isE2 hz hf) (by rfl) T.n_isinstance (by decide +kernel) (pa_cons (pv 1) (pa_cons (pe_glob (v := .ref C5) rfl m5 rfl) pa_nil))) (pa_cons (pe_callB (r := rIsE2 X.K cls d a) (call_isE2 hz hf) (by rfl) T.n_isinstance (by decide +kernel) (pa_cons (pv 1) (pa_cons (pe_glob (v := .ref C6) rfl m6 rfl) pa_nil))) (pa_cons (pe_callB (r := rIsE2 X.K cls d a) (call_isE2 hz hf) (by rfl) T.n_isinstance (by decide +kernel) (pa_cons (pv 1) (pa_cons (pe_glob (v := .ref C7) rfl m7 rfl) pa_nil))) pa_nil)))))))
      (pss_cons (ps_expr (pe_bmK (K := X.K) rfl PySem.F.plainAttrs_list PySem.F.slot_list_append PySem.F.type_list_append mt_append (pv 2) (pa_cons (pe_callB (r := rIsE2 X.K cls d a) (call_isE2 hz hf) (by rfl) T.n_isinstance (by decide +kernel) (pa_cons (pv 1) (pa_cons (pe_glob (v := .ref C8') rfl m8 rfl) pa_nil))) pa_nil)))
      (pss_cons (ps_set (i := 3) nd rfl (Or.inl rfl) (pe_lst (pa_cons pe_str (pa_cons pe_str (pa_cons pe_str (pa_cons pe_str (pa_cons pe_str (pa_cons pe_str (pa_cons pe_str (pa_cons pe_str (pa_cons pe_str pa_nil)))))))))))
      (pss_cons (ps_if (PW.pt (pw_or (pt_cmpR op_ne (pe_bmK (K := X.K) rfl PySem.F.plainAttrs_list PySem.F.slot_list_count PySem.F.type_list_count (r := rCntV X.K) mt_lcountV (pv 2) (pa_cons pe_bl pa_nil)) pe_int (nomark _)) (pw_or1 (pt_not (pt_val (pe_callB (r := rIsE2 X.K cls d a) (call_isE2 hz hf) (by rfl) T.n_isinstance (by decide +kernel) (pa_cons (pv 1) (pa_cons (pe_bltn (v := .ty "ValueError") (by rfl) T.n_ValueError (by decide +kernel) rfl) pa_nil)))))))) (pss_one (ps_ret pe_str)) pss_nil)
      (pss_one (ps_ret (pe_ix (r := rIxL X.K) ix_list (pv 3) (pe_bmK (K := X.K) rfl PySem.F.plainAttrs_list PySem.F.slot_list_index PySem.F.type_list_index (r := rIndex X.K) mt_index (pv 2) (pa_cons pe_bl pa_nil)) (fun _ _ => rfl))))))))))), ?_⟩
  · refine ⟨fun pins s' σ H' D I h' => ?_⟩
    obtain ⟨Ech, hW, h1, h2, h3⟩ := h'
    exact (pss_one (ps_ret (act _ pn xe Ech _ _ (takes_len tk) hW))).run pins s' σ H' D I ⟨h1, h2, h3⟩
  · refine ⟨EKind X.K CD cs Q, fun cls d σ' H' hE hlen => ?_, rfl, hc, h⟩
    obtain ⟨i, C, x, rfl, rfl, R, hx, k⟩ := hE
    obtain ⟨v0, v1, v2, v3, rfl⟩ : ∃ v0 v1 v2 v3, σ' = [v0, v1, v2, v3] := by
      match σ', hlen with
      | [v0, v1, v2, v3], _ => exact ⟨v0, v1, v2, v3, rfl⟩
    refine ⟨true, R.dog, fun _ a ha => ?_, fun q => nomatch q⟩
    show tSeq _ _ _ _ _
    have isC : ∀ (j : Nat) (C' : Addr) (H : Hp) (Q : VK), cs[j]? = some C' → Q (.bl (decide (i = j))) H → rIsE2 X.K (.ref C) none a [.ref a, .ref C'] H Q := fun j C' H Q e q => ⟨C, .ref C', .ref C', _, rfl, rfl, R.exc, rfl, fun u r => r, R.own j C' e, q⟩
    walk_at "go"
    refine isC 0 _ _ _ e0 ?_
    walk_at "go"
    refine isC 1 _ _ _ e1 ?_
    walk_at "go"
    refine isC 2 _ _ _ e2 ?_
    walk_at "go"
    refine isC 3 _ _ _ e3 ?_
    walk_at "go"
    intro l1 hl1
    walk_at "go"
    refine isC 4 _ _ _ e4 ?_
    walk_at "go"
    refine isC 5 _ _ _ e5 ?_
    walk_at "go"
    refine isC 6 _ _ _ e6 ?_
    walk_at "go"
    refine isC 7 _ _ _ e7 ?_
    walk_at "go"
    intro l2 hl2
    have n12 : l1 ≠ l2 := fun e => by rw [← e, upd_same] at hl2; cases hl2
    walk_at "go"
    refine ⟨l1, l2, _, _, rfl, rfl, by rw [upd_ne n12, upd_same], upd_same, (by show 8 ≤ sizeLine; decide), fun l3 hl3 => ?_⟩
    walk_at "go"
    refine g_tyL upd_same ?_
    walk_at "go"
    refine isC 8 _ _ _ e8 ?_
    walk_at "go"
    refine g_append upd_same (by show 8 < 100000; decide) ?_
    walk_at "go"
    intro l4 hl4
    have n34 : l3 ≠ l4 := fun e => by rw [← e, upd_same] at hl4; cases hl4
    have S5 := ((((same_new (o := .lst [V.bl (decide (i = 0)), V.bl (decide (i = 1)), V.bl (decide (i = 2)), V.bl (decide (i = 3))]) hl1).trans (same_new (o := .lst [V.bl (decide (i = 4)), V.bl (decide (i = 5)), V.bl (decide (i = 6)), V.bl (decide (i = 7))]) hl2)).trans
      (Same.mut (same_new (o := .lst ([V.bl (decide (i = 0)), V.bl (decide (i = 1)), V.bl (decide (i = 2)), V.bl (decide (i = 3))] ++ [V.bl (decide (i = 4)), V.bl (decide (i = 5)), V.bl (decide (i = 6)), V.bl (decide (i = 7))])) hl3)
        (o := .lst ([V.bl (decide (i = 0)), V.bl (decide (i = 1)), V.bl (decide (i = 2)), V.bl (decide (i = 3))] ++ [V.bl (decide (i = 4)), V.bl (decide (i = 5)), V.bl (decide (i = 6)), V.bl (decide (i = 7))] ++ [V.bl (decide (i = 8))])) hl3)).trans (same_new (o := .lst (kindW.map V.str)) hl4))
    have S6 := same_new (o := .lst (kindW.map V.str)) hl4
    have a3 := S6 l3 _ upd_same
    have a4 : upd _ l4 (.lst (kindW.map V.str)) l4 = some (.lst (kindW.map V.str)) := upd_same (H := upd (upd (upd (upd H' l1 (.lst [V.bl (decide (i = 0)), V.bl (decide (i = 1)), V.bl (decide (i = 2)), V.bl (decide (i = 3))])) l2 (.lst [V.bl (decide (i = 4)), V.bl (decide (i = 5)), V.bl (decide (i = 6)), V.bl (decide (i = 7))])) l3
      (.lst ([V.bl (decide (i = 0)), V.bl (decide (i = 1)), V.bl (decide (i = 2)), V.bl (decide (i = 3))] ++ [V.bl (decide (i = 4)), V.bl (decide (i = 5)), V.bl (decide (i = 6)), V.bl (decide (i = 7))]))) l3
        (.lst ([V.bl (decide (i = 0)), V.bl (decide (i = 1)), V.bl (decide (i = 2)), V.bl (decide (i = 3))] ++ [V.bl (decide (i = 4)), V.bl (decide (i = 5)), V.bl (decide (i = 6)), V.bl (decide (i = 7))] ++ [V.bl (decide (i = 8))])))
    have hi : i < 9 := (List.getElem?_eq_some_iff.mp hx).1
    have c9 : i = 0 ∨ i = 1 ∨ i = 2 ∨ i = 3 ∨ i = 4 ∨ i = 5 ∨ i = 6 ∨ i = 7 ∨ i = 8 := by omega
    -- of the nine answers one is True, at i
    have fA : ([V.bl (decide (i = 0)), V.bl (decide (i = 1)), V.bl (decide (i = 2)), V.bl (decide (i = 3))] ++ [V.bl (decide (i = 4)), V.bl (decide (i = 5)), V.bl (decide (i = 6)), V.bl (decide (i = 7))] ++ [V.bl (decide (i = 8))]).all flatV = true := rfl
    have nA : ([V.bl (decide (i = 0)), V.bl (decide (i = 1)), V.bl (decide (i = 2)), V.bl (decide (i = 3))] ++ [V.bl (decide (i = 4)), V.bl (decide (i = 5)), V.bl (decide (i = 6)), V.bl (decide (i = 7))] ++ [V.bl (decide (i = 8))]).countP (fun z => eqV z (.bl true)) = 1 := by
      rcases c9 with rfl | rfl | rfl | rfl | rfl | rfl | rfl | rfl | rfl <;> rfl
    have iA : ([V.bl (decide (i = 0)), V.bl (decide (i = 1)), V.bl (decide (i = 2)), V.bl (decide (i = 3))] ++ [V.bl (decide (i = 4)), V.bl (decide (i = 5)), V.bl (decide (i = 6)), V.bl (decide (i = 7))] ++ [V.bl (decide (i = 8))])[i]? = some (V.bl true) := by
      rcases c9 with rfl | rfl | rfl | rfl | rfl | rfl | rfl | rfl | rfl <;> rfl
    have mA : ∀ (m : Nat) (z' : V), m < i → ([V.bl (decide (i = 0)), V.bl (decide (i = 1)), V.bl (decide (i = 2)), V.bl (decide (i = 3))] ++ [V.bl (decide (i = 4)), V.bl (decide (i = 5)), V.bl (decide (i = 6)), V.bl (decide (i = 7))] ++ [V.bl (decide (i = 8))])[m]? = some z' → eqV z' (.bl true) = false := by
      intro m z' hm e
      have c8 : m = 0 ∨ m = 1 ∨ m = 2 ∨ m = 3 ∨ m = 4 ∨ m = 5 ∨ m = 6 ∨ m = 7 := by omega
      rcases c8 with rfl | rfl | rfl | rfl | rfl | rfl | rfl | rfl <;> (cases (Option.some.inj e); rw [decide_eq_false (by omega)]; rfl)
    generalize ([V.bl (decide (i = 0)), V.bl (decide (i = 1)), V.bl (decide (i = 2)), V.bl (decide (i = 3))] ++ [V.bl (decide (i = 4)), V.bl (decide (i = 5)), V.bl (decide (i = 6)), V.bl (decide (i = 7))] ++ [V.bl (decide (i = 8))]) = A at S5 S6 a3 a4 fA nA iA mA ⊢
    walk_at "go"
    refine g_tyL a3 ?_
    walk_at "go"
    refine ⟨l3, A, .bl true, rfl, rfl, SqL.of a3, rfl, fA, ?_⟩
    rw [nA]
    walk_at "go"
    refine ⟨C, .ty "ValueError", .type "ValueError", true, rfl, rfl, R.exc, rfl, fun u r => r, R.val, ?_⟩
    walk_at "go"
    refine g_tyL a3 ?_
    walk_at "go"
    refine ⟨l3, A, .bl true, i, .bl true, rfl, rfl, SqL.of a3, rfl, fA, iA, rfl, mA, ?_⟩
    refine g_ixL (v := .str x) (SqL.of a4) (at_of (j := i) rfl (by rw [List.getElem?_map, hx]; rfl)) ?_
    exact k _ S5
end
end K15
namespace K15
open PySem PySem.Spec PyProof.Rows L2 Wd
/-- works in a list, apart from the drawing's state -/
structure WkS (S : Addr) (H : Hp) (L : Addr) (zs : List Wk) : Prop where
  at_ : H L = some (.lst (zs.map fun z => V.ref z.1))
  nS : L ≠ S
  own : ∀ z ∈ zs, H z.1 = some (.tup [.int z.2.1, .int z.2.2]) ∧ z.1 ≠ S
theorem WkS.frm {S : Addr} {H H' : Hp} {L : Addr} {zs : List Wk} (t : WkS S H L zs) (f : Frm S H H') : WkS S H' L zs :=
  ⟨f _ _ t.nS t.at_, t.nS, fun z hz => ⟨f _ _ (t.own z hz).2 (t.own z hz).1, (t.own z hz).2⟩⟩
theorem WkS.wk {S : Addr} {H : Hp} {L : Addr} {zs : List Wk} (t : WkS S H L zs) : WkL H L zs := ⟨t.at_, fun z hz => (t.own z hz).1⟩
theorem WkS.put {S : Addr} {H : Hp} {L t : Addr} {a b : Int} {zs : List Wk} (w : WkS S H L zs) (h : H t = some (.tup [.int a, .int b])) (n : t ≠ S) : WkS S (upd H L (.lst ((zs.map fun z => V.ref z.1) ++ [.ref t]))) L (zs ++ [(t, a, b)]) := by
  refine ⟨by rw [upd_same, List.map_append]; rfl, w.nS, fun z hz => ?_⟩
  rw [List.mem_append, List.mem_singleton] at hz
  rcases hz with hz | rfl
  · exact ⟨by rw [upd_ne (ne_of (w.own z hz).1 w.at_ (fun z => nomatch z))]; exact (w.own z hz).1, (w.own z hz).2⟩
  · exact ⟨by rw [upd_ne (ne_of h w.at_ (fun z => nomatch z))]; exact h, n⟩
theorem WkS.same {S : Addr} {H H' : Hp} {L : Addr} {zs : List Wk} (t : WkS S H L zs) (e : Same H H') : WkS S H' L zs := t.frm (.of e)
theorem WkS.ext {S : Addr} {H H' : Hp} {L : Addr} {zs : List Wk} (t : WkS S H L zs) (e : LamX.ExtN H H') : WkS S H' L zs := ⟨e _ _ t.at_ (fun _ z => nomatch z), t.nS, fun z hz => ⟨e _ _ (t.own z hz).1 (fun _ z => nomatch z), (t.own z hz).2⟩⟩
/-- a list of works made of others -/
theorem WkS.made {S : Addr} {H : Hp} {L : Addr} {zs : List Wk} (h : H L = some (.lst (zs.map fun z => V.ref z.1))) (n : L ≠ S) (own : ∀ z ∈ zs, H z.1 = some (.tup [.int z.2.1, .int z.2.2]) ∧ z.1 ≠ S) : WkS S H L zs := ⟨h, n, own⟩
/-- works at L that are so -/
def Som (S : Addr) (H : Hp) (p : List Wk → Prop) (L : Addr) : Prop := ∃ zs, WkS S H L zs ∧ p zs
theorem Som.same {S : Addr} {H H' : Hp} {p : List Wk → Prop} {L : Addr} (t : Som S H p L) (e : Same H H') : Som S H' p L := let ⟨zs, a, b⟩ := t; ⟨zs, a.same e, b⟩
theorem Som.frm {S : Addr} {H H' : Hp} {p : List Wk → Prop} {L : Addr} (t : Som S H p L) (e : Frm S H H') : Som S H' p L := let ⟨zs, a, b⟩ := t; ⟨zs, a.frm e, b⟩
theorem Som.ext {S : Addr} {H H' : Hp} {p : List Wk → Prop} {L : Addr} (t : Som S H p L) (e : LamX.ExtN H H') : Som S H' p L := let ⟨zs, a, b⟩ := t; ⟨zs, a.ext e, b⟩
theorem rep_map {α β : Type} (f : α → β) (l : List α) : ∀ n : Nat, (List.replicate n (l.map f)).flatten = ((List.replicate n l).flatten).map f
  | 0 => rfl
  | n + 1 => by rw [List.replicate_succ, List.flatten_cons, rep_map f l n, List.replicate_succ, List.flatten_cons, List.map_append]
theorem rep_mem {α : Type} {l : List α} {x : α} : ∀ {n : Nat}, x ∈ (List.replicate n l).flatten → x ∈ l
  | 0, h => nomatch h
  | n + 1, h => by
    rw [List.replicate_succ, List.flatten_cons, List.mem_append] at h
    exact h.elim id rep_mem
theorem rep_len {α : Type} (l : List α) : ∀ n : Nat, ((List.replicate n l).flatten).length = n * l.length
  | 0 => (Nat.zero_mul _).symm
  | n + 1 => by rw [List.replicate_succ, List.flatten_cons, List.length_append, rep_len l n, Nat.succ_mul]; omega
theorem g_repW {S L : Addr} {zs : List Wk} {k : Nat} {H : Hp} {Q : VK} (t : WkS S H L zs) (hS : H S ≠ none) (h1 : zs.length ≤ 10) (h2 : k ≤ 10) (q : ∀ H' p, Same H H' → WkS S H' p ((List.replicate k zs).flatten) → Q (.ref p) H') : rRep (.ref L) (.int (k : Int)) H Q := by
  refine ⟨L, k, _, rfl, rfl, t.at_, by omega, by omega, ?_, fun p hp => ?_⟩
  · rw [sizeLine_eq, List.length_map]
    have : ((k : Nat) : Int).toNat = k := by omega
    rw [this]
    have : zs.length * k ≤ 10 * 10 := Nat.mul_le_mul h1 h2
    omega
  · have e : ((k : Nat) : Int).toNat = k := by omega
    rw [e, rep_map]
    have s := same_new (o := .lst (((List.replicate k zs).flatten).map fun z => V.ref z.1)) hp
    exact q _ p s ⟨upd_same, fun z => hS (by rw [← z]; exact hp), fun z hz => ⟨s _ _ (t.own z (rep_mem hz)).1, (t.own z (rep_mem hz)).2⟩⟩
theorem g_catW {S A B : Addr} {xs ys : List Wk} {H : Hp} {Q : VK} (t : WkS S H A xs) (u : WkS S H B ys) (hS : H S ≠ none) (h1 : xs.length ≤ 1000) (h2 : ys.length ≤ 1000) (q : ∀ H' p, Same H H' → WkS S H' p (xs ++ ys) → Q (.ref p) H') : rCat (.ref A) (.ref B) H Q := by
  refine ⟨A, B, _, _, rfl, rfl, t.at_, u.at_, by rw [sizeLine_eq, List.length_map, List.length_map]; omega, fun p hp => ?_⟩
  rw [← List.map_append]
  have s := same_new (o := .lst ((xs ++ ys).map fun z => V.ref z.1)) hp
  refine q _ p s ⟨upd_same, fun z => hS (by rw [← z]; exact hp), fun z hz => ?_⟩
  rw [List.mem_append] at hz
  rcases hz with hz | hz
  · exact ⟨s _ _ (t.own z hz).1, (t.own z hz).2⟩
  · exact ⟨s _ _ (u.own z hz).1, (u.own z hz).2⟩
theorem cut_to {α : Type} (l : List α) (f : α → V) (b : Nat) : cutV (l.map f) none (some (b : Int)) = (l.take b).map f := by
  unfold cutV
  rw [HT.sIx_nat, HT.sIx_none, List.length_map, List.drop_zero, Nat.sub_zero, List.map_take]
  by_cases h : b ≤ l.length
  · rw [Nat.min_eq_left h]
  · rw [Nat.min_eq_right (by omega), List.take_of_length_le (by rw [List.length_map]; omega), List.take_of_length_le (by rw [List.length_map]; omega)]
theorem g_takW {K : PySem.W.Frag} {S A : Addr} {xs : List Wk} {n : Nat} {H : Hp} {Q : VK} (t : WkS S H A xs) (hS : H S ≠ none) (q : ∀ H' p, Same H H' → WkS S H' p (xs.take n) → Q (.ref p) H') : rSlL K (.ref A) none (some (n : Int)) H Q := by
  refine g_slL (SqL.of t.at_) fun p hp => ?_
  rw [cut_to]
  have s := same_new (o := .lst ((xs.take n).map fun z => V.ref z.1)) hp
  exact q _ p s ⟨upd_same, fun z => hS (by rw [← z]; exact hp), fun z hz => ⟨s _ _ (t.own z (List.mem_of_mem_take hz)).1, (t.own z (List.mem_of_mem_take hz)).2⟩⟩
theorem g_tailW {K : PySem.W.Frag} {S A : Addr} {xs : List Wk} {H : Hp} {Q : VK} (t : WkS S H A xs) (hS : H S ≠ none) (q : ∀ H' p, Same H H' → WkS S H' p (xs.drop 1) → Q (.ref p) H') : rSlL K (.ref A) (some 1) none H Q := by
  refine g_slL (SqL.of t.at_) fun p hp => ?_
  rw [cut1, ← List.map_drop]
  have s := same_new (o := .lst ((xs.drop 1).map fun z => V.ref z.1)) hp
  exact q _ p s ⟨upd_same, fun z => hS (by rw [← z]; exact hp), fun z hz => ⟨s _ _ (t.own z (List.mem_of_mem_drop hz)).1, (t.own z (List.mem_of_mem_drop hz)).2⟩⟩
/-- [(a, c)], just made -/
theorem oneW {S : Addr} {H H1 : Hp} {t l : Addr} {a c : Int} (hS : H S ≠ none) (ht : H t = none) (e1 : H1 = upd H t (.tup [.int a, .int c])) (hl : H1 l = none) : WkS S (upd H1 l (.lst [.ref t])) l [(t, a, c)] ∧ Same H (upd H1 l (.lst [.ref t])) := by
  have s1 := same_new (o := .tup [V.int a, V.int c]) ht
  have nt : t ≠ S := fun z => hS (by rw [← z]; exact ht)
  have nl : l ≠ S := fun z => by
    rw [e1, z] at hl
    cases h : H S with
    | none => exact hS h
    | some o => rw [s1 _ _ h] at hl; cases hl
  have s2 := same_new (o := .lst [V.ref t]) hl
  refine ⟨⟨upd_same, nl, fun z hz => ?_⟩, by rw [e1] at s2 ⊢; exact s1.trans s2⟩
  rw [List.mem_singleton] at hz
  subst hz
  exact ⟨s2 _ _ (by rw [e1]; exact upd_same), nt⟩
section
variable {K : PySem.W.Frag} {CW CT CB CM : Addr} {W L : Addr} {lo hi b : Int} {zs : List Wk} {H : Hp} {Q : VK} {E : XK} {vs : List V}
theorem st_bw (hv : vs = [.ref W, .int b, .ref L]) (hW : SqT K H W [.int lo, .int hi]) (wk : WkL H L zs) (n : ¬ okW lo hi) (e : E (.ref CW) none H) : sp_steady K CW CT CB CM vs H Q E :=
  ⟨W, L, lo, hi, b, zs, hv, hW, wk, fun _ => e, fun o => absurd o n, fun o => absurd o n, fun o => absurd o n, fun o => absurd o n⟩
theorem st_bb (hv : vs = [.ref W, .int b, .ref L]) (hW : SqT K H W [.int lo, .int hi]) (wk : WkL H L zs) (o : okW lo hi) (n : ¬ okB b) (e : E (.ref CT) none H) : sp_steady K CW CT CB CM vs H Q E :=
  ⟨W, L, lo, hi, b, zs, hv, hW, wk, fun z => absurd o z, fun _ _ => e, fun _ z => absurd z n, fun _ z => absurd z n, fun _ z => absurd z n⟩
theorem st_bt (hv : vs = [.ref W, .int b, .ref L]) (hW : SqT K H W [.int lo, .int hi]) (wk : WkL H L zs) (o : okW lo hi) (o2 : okB b) (n : ¬ okT zs) (e : E (.ref CB) none H) : sp_steady K CW CT CB CM vs H Q E :=
  ⟨W, L, lo, hi, b, zs, hv, hW, wk, fun z => absurd o z, fun _ z => absurd o2 z, fun _ _ _ => e, fun _ _ z => absurd z n, fun _ _ z => absurd z n⟩
theorem st_tm (hv : vs = [.ref W, .int b, .ref L]) (hW : SqT K H W [.int lo, .int hi]) (wk : WkL H L zs) (o : okW lo hi) (o2 : okB b) (o3 : okT zs) (n : ¬ okM hi b zs) (e : ∀ H', Same H H' → E (.ref CM) none H') : sp_steady K CW CT CB CM vs H Q E :=
  ⟨W, L, lo, hi, b, zs, hv, hW, wk, fun z => absurd o z, fun _ z => absurd o2 z, fun _ _ z => absurd o3 z, fun _ _ _ _ => e, fun _ _ _ z => absurd z n⟩
theorem st_ok (hv : vs = [.ref W, .int b, .ref L]) (hW : SqT K H W [.int lo, .int hi]) (wk : WkL H L zs) (o : okW lo hi) (o2 : okB b) (o3 : okT zs) (o4 : okM hi b zs) (k : ∀ H' t x rest, Same H H' → H' t = some (.tup (.str x :: rest)) → (x = "steady" ∨ x = "bitten") → Q (.ref t) H') : sp_steady K CW CT CB CM vs H Q E :=
  ⟨W, L, lo, hi, b, zs, hv, hW, wk, fun z => absurd o z, fun _ z => absurd o2 z, fun _ _ z => absurd o3 z, fun _ _ _ z => absurd o4 z, fun _ _ _ _ => ⟨fun _ H' t s _ e => k H' t _ _ s e (.inl rfl), fun _ _ _ _ _ _ _ _ H' t _ _ _ s _ e _ _ _ _ => k H' t _ _ s e (.inr rfl)⟩⟩
end
theorem one_len {t : Addr} {a c : Int} : [((t, a, c) : Wk)].length = 1 := rfl
theorem one_mem {t : Addr} {a c : Int} {z : Wk} (h : z ∈ [((t, a, c) : Wk)]) : z.2.1 = a ∧ z.2.2 = c := by rw [List.mem_singleton] at h; subst h; exact ⟨rfl, rfl⟩
theorem one_ok {t : Addr} {a c : Int} (h1 : 1 ≤ a) (h2 : a ≤ c) (h3 : c ≤ 60) : okT [(t, a, c)] := ⟨Nat.le_refl 1, by rw [one_len]; decide, fun z hz => by obtain ⟨e1, e2⟩ := one_mem hz; rw [e1, e2]; exact ⟨h1, h2, h3⟩⟩
theorem strs_dp {K : PySem.W.Frag} {H : Hp} : ∀ xs : List Str, DpAll K H (xs.map V.str) (xs.map PyData.str)
  | [] => .nil
  | x :: xs => .cons (.str x) (strs_dp xs)
theorem strs_can : ∀ xs : List Str, xs.all PyData.strOk = true → PyData.canLayAll0 (xs.map PyData.str) = true
  | [], _ => rfl
  | x :: xs, h => by
    rw [List.all_cons, Bool.and_eq_true] at h
    simp [PyData.canLayAll0, PyData.canLay0, strs_can xs h.2, h.1]
theorem strs_dep : ∀ xs : List Str, PyData.depthAll (xs.map PyData.str) = 0
  | [] => rfl
  | x :: xs => by simp [PyData.depthAll, PyData.depth, strs_dep xs]
theorem strs_eqv : ∀ xs : List Str, PyData.eqvAll (xs.map PyData.str) (xs.map PyData.str) = true
  | [] => by simp [PyData.eqvAll]
  | x :: xs => by
    have := strs_eqv xs
    simp [PyData.eqvAll, PyData.eqv, this]
theorem g_neStrs {K : PySem.W.Frag} {a b : Addr} {xs : List Str} {H : Hp} {Q : VK} (h1 : H a = some (.lst (xs.map V.str))) (h2 : H b = some (.lst (xs.map V.str))) (ok : xs.all PyData.strOk = true) (q : Q (.bl false) H) : rNeD K (.ref a) (.ref b) H Q := by
  have sh : SeqAt.shaped (.list (xs.map PyData.str)) = true := by
    unfold SeqAt.shaped
    rw [Bool.and_eq_true]
    refine ⟨by simp only [PyData.canLay0]; exact strs_can xs ok, decide_eq_true ?_⟩
    simp only [PyData.depth, strs_dep]
    decide
  refine ⟨_, _, .lst (SqL.of h1) (strs_dp xs), .lst (SqL.of h2) (strs_dp xs), sh, sh, ?_⟩
  have : PyData.eqv (.list (xs.map PyData.str)) (.list (xs.map PyData.str)) = true := by rw [PyData.eqv]; exact strs_eqv xs
  rw [this]; exact q
theorem g_kind {K : PySem.W.Frag} {CD : Addr} {cs : List Addr} {tl : XK → Hp → VK → Prop} {H : Hp} {Q : VK} (h : tl (EKind K CD cs Q) H Q) : TKind K CD cs tl H Q := h
def lamQ : Str := "law.<locals>.<lambda>"
/-- what stands through the six tellings -/
structure Bn (K : PySem.W.Frag) (B : Hp) (S Pt LB LM LG TL : Addr) (told : List Str) (good : List Wk) (H : Hp) : Prop where
  d : Dst K (noT B) H S
  tb : LamX.Tabs [(Pt, lamQ)] H
  bad : Som S H (fun zs => ¬ okT zs) LB
  much : Som S H (fun zs => okT zs ∧ (2 < zs.length ∨ ∃ z ∈ zs, 8 < z.2.2)) LM
  good : WkS S H LG good
  told : H TL = some (.lst (told.map V.str))
  nT : TL ≠ S
theorem Bn.same {K : PySem.W.Frag} {B : Hp} {S Pt LB LM LG TL : Addr} {told : List Str} {good : List Wk} {H H' : Hp} (n : Bn K B S Pt LB LM LG TL told good H) (e : Same H H') : Bn K B S Pt LB LM LG TL told good H' :=
  ⟨n.d.same e, tabs_same n.tb e, n.bad.same e, n.much.same e, n.good.same e, e _ _ n.told, n.nT⟩
theorem Bn.ext {K : PySem.W.Frag} {B : Hp} {S Pt LB LM LG TL : Addr} {told : List Str} {good : List Wk} {H H' : Hp} (n : Bn K B S Pt LB LM LG TL told good H) (e : LamX.ExtN H H') (tb : LamX.Tabs [(Pt, lamQ)] H') : Bn K B S Pt LB LM LG TL told good H' :=
  ⟨n.d.ext e, tb, n.bad.ext e, n.much.ext e, n.good.ext e, e _ _ n.told (fun _ z => nomatch z), n.nT⟩
theorem Bn.frm {K : PySem.W.Frag} {B : Hp} {S Pt LB LM LG TL : Addr} {told : List Str} {good : List Wk} {H H' : Hp} (n : Bn K B S Pt LB LM LG TL told good H) (f : Frm S H H') (d : Dst K (noT B) H' S) : Bn K B S Pt LB LM LG TL told good H' :=
  ⟨d, tabs_frm n.tb n.d f, n.bad.frm f, n.much.frm f, n.good.frm f, f _ _ n.nT n.told, n.nT⟩
theorem Bn.put {K : PySem.W.Frag} {B : Hp} {S Pt LB LM LG TL : Addr} {told : List Str} {good : List Wk} {H : Hp} (n : Bn K B S Pt LB LM LG TL told good H) (fr : noT B TL = none) (x : Str) (nB : LB ≠ TL ∧ LM ≠ TL ∧ LG ≠ TL) : Bn K B S Pt LB LM LG TL (told ++ [x]) good (upd H TL (.lst (told.map V.str ++ [.str x]))) := by
  have up : ∀ {D : Addr} {xs : List V}, H D = some (.tup xs) → upd H TL (.lst (told.map V.str ++ [.str x])) D = some (.tup xs) := fun h => by rw [upd_ne (ne_of h n.told (fun z => nomatch z))]; exact h
  have wk : ∀ {L : Addr} {zs : List Wk}, L ≠ TL → WkS S H L zs → WkS S (upd H TL (.lst (told.map V.str ++ [.str x]))) L zs := fun h t => ⟨by rw [upd_ne h]; exact t.at_, t.nS, fun z hz => ⟨up (t.own z hz).1, (t.own z hz).2⟩⟩
  refine ⟨n.d.mut n.nT fr, fun p hp => ?_, ?_, ?_, wk nB.2.2 n.good, by rw [upd_same, List.map_append]; rfl, n.nT⟩
  · obtain ⟨ps, h1, h2, h3⟩ := n.tb p hp
    refine ⟨ps, by rw [upd_ne (ne_of h1 n.told (fun z => nomatch z))]; exact h1, h2, fun pos cv hc => ?_⟩
    obtain ⟨c', e1, e2⟩ := h3 pos cv hc
    exact ⟨c', e1, by rw [upd_ne (ne_of e2 n.told (fun z => nomatch z))]; exact e2⟩
  · obtain ⟨zs, a, b⟩ := n.bad
    exact ⟨zs, wk nB.1 a, b⟩
  · obtain ⟨zs, a, b⟩ := n.much
    exact ⟨zs, wk nB.2.1 a, b⟩
end K15
namespace K15
open PySem PySem.Spec PyProof.Rows L2 Wd
section
variable {P : Program} {w : World} {K : PySem.W.Frag} {mg : Str → Option Value} {base : Heap} {CW CT CB CM : Addr}
abbrev s_law : Stmt := top 40
theorem sc_law : FnScope ["_law_script", "_law_state", "_law_turn", "_law_least", "_law_good", "_law_k", "_law_far_here", "_law_none", "_law_bad", "_law_some", "_law_much", "_law_beat", "_law_low", "_law_told"] ["_law_script"] (C8.fnScope s_law) := C8.fnScope_by (by decide +kernel)
def sp_law (K : PySem.W.Frag) (Pt : Addr) : Sp := fun vs H Q _ => ∃ (sc : Addr) (ns : List Int), vs = [.ref sc] ∧ SqL K H sc (ns.map V.int) ∧ ns.length ≤ 63 ∧ H Pt = some (.tbl #[]) ∧ ∀ H', Q (.bl true) H'
theorem ok_law (T : Txt K mg CW CT CB CM) {CD : Addr} {cs : List Addr} (R : Refs K mg CD cs) (RW : IsRef K CD cs 0 CW) (RT : IsRef K CD cs 7 CT) (RB : IsRef K CD cs 6 CB) (RM : IsRef K CD cs 8 CM) {c Pt : Addr} (TB : LamX.TabB base mg c Pt)
    {f fk : Addr} {fdk : FuncData} {dV kV doc pm ct oc : Value} {an od : Option Addr} {osl : Array (Option Value)}
    (lk : K.lookup f = some ⟨oc, od, .func (PySem.W.fnOf "law" "law" (C8.fnArgs s_law) (C8.fnBody s_law) (C8.fnScope s_law) dV kV doc pm an (.ref c) ct), osl⟩) (hcd : PySem.W.codeIn K (.ref c) "law" = true)
    (Dk : C8.Def K mg "_law_kind" s_law_kind fk fdk) (bk : Binds K fdk ["_law_work"] [])
    (g_law_start : C8.Cal P w K mg base 1 "_law_start" (sp_start K) []) (g_law_drawn : C8.Cal P w K mg base 1 "_law_drawn" (sp_drawn K) []) (g_law_far : C8.Cal P w K mg base 2 "_law_far" (sp_far K) []) (g_steady : CalX P w K mg base 4 "steady" (sp_steady K CW CT CB CM)) :
    FnOk P w K mg base C8.CX0 8 f (PySem.W.fnOf "law" "law" (C8.fnArgs s_law) (C8.fnBody s_law) (C8.fnScope s_law) dV kV doc pm an (.ref c) ct) ["_law_script"] (sp_law K Pt) := by
  refine fn_code lk hcd sc_law (fun vs H Q E h => ?_) fun A outer s H vs Q E hr h => ?_
  · obtain ⟨sc, ns, rfl, _⟩ := h; rfl
  · obtain ⟨sc, ns, rfl, hsc, hl, hT, q⟩ := h
    have nd := sc_law.nd
    obtain ⟨oc', od', dV', kV', doc', pm', an', cdv', ct', osl', rfl, lkk, hck⟩ := Dk.fn.ex
    refine ⟨_, (pss_cons (ps_set (i := 1) nd rfl (Or.inr rfl) (C8.pe_c g_law_start hr (by first | decide | exact Nat.le_refl _ | omega) (by rfl) (pa_cons (pv 0) pa_nil)))
      (pss_cons (ps_for PassesOwn.never rfl (pi_range1 rfl T.n_range (pa_cons pe_int pa_nil)) (pg_name (i := 2) nd rfl (Or.inr rfl)) (pss_cons (ps_set (i := 3) nd rfl (Or.inr rfl) (pe_op op_add pe_int (C8.pe_c g_law_drawn hr (by first | decide | exact Nat.le_refl _ | omega) (by rfl) (pa_cons (pv 1) (pa_cons pe_int pa_nil)))))
      (pss_cons (ps_set (i := 4) nd rfl (Or.inr rfl) (pe_lc (own := [("_law_k", 5)]) (g := gName 5) (tt := tYes) rfl nd (pi_range1 rfl T.n_range (pa_cons (pe_op op_add pe_int (C8.pe_c g_law_drawn hr (by first | decide | exact Nat.le_refl _ | omega) (by rfl) (pa_cons (pv 1) (pa_cons pe_int pa_nil)))) pa_nil)) (blkOk_by (N := ["_law_script", "_law_state", "_law_turn", "_law_least", "_law_good", "_law_k", "_law_far_here", "_law_none", "_law_bad", "_law_some", "_law_much", "_law_beat", "_law_low", "_law_told"]) (sc := C8.fnScope s_law) (by decide +kernel)) (fun _ _ _ _ _ => pg_name (i := 5) nd rfl (Or.inl rfl)) (fun _ _ _ _ _ => pts_nil) (fun _ _ _ _ _ => (pe_tup (pa_cons (pv 3) (pa_cons (pe_op op_add (pv 3) (C8.pe_c g_law_drawn hr (by first | decide | exact Nat.le_refl _ | omega) (by rfl) (pa_cons (pv 1) (pa_cons pe_int pa_nil)))) pa_nil))))))
      (pss_cons (ps_set (i := 6) nd rfl (Or.inl rfl) (pe_op op_add pe_int (C8.pe_c g_law_drawn hr (by first | decide | exact Nat.le_refl _ | omega) (by rfl) (pa_cons (pv 1) (pa_cons (pe_op op_pow pe_int pe_int) pa_nil)))))
      (pss_cons (ps_set (i := 7) nd rfl (Or.inl rfl) (pe_lst (pa_cons (pe_lst pa_nil) (pa_cons (pe_op op_rep (pv 4) pe_int) (pa_cons (pe_op op_cat (pe_slice (r := rSlL K) sl_list (pv 4) (po_some pe_int) po_none) (pe_lst (pa_cons (pe_tup (pa_cons pe_int (pa_cons pe_int pa_nil))) pa_nil))) (pa_cons (pe_op op_cat (pv 4) (pe_lst (pa_cons (pe_tup (pa_cons pe_int (pa_cons pe_int pa_nil))) pa_nil))) (pa_cons (pe_op op_cat (pe_lst (pa_cons (pe_tup (pa_cons pe_int (pa_cons pe_int pa_nil))) pa_nil)) (pv 4)) (pa_cons (pe_lst (pa_cons (pe_tup (pa_cons (pe_op op_sub pe_int (pv 6)) (pa_cons pe_int pa_nil))) pa_nil)) (pa_cons (pe_lst (pa_cons (pe_tup (pa_cons pe_int (pa_cons (pe_op op_add pe_int (pv 6)) pa_nil))) pa_nil)) pa_nil)))))))))
      (pss_cons (ps_set (i := 8) nd rfl (Or.inr rfl) (pe_ix (r := rIxL K) ix_list (pv 7) (C8.pe_c g_law_drawn hr (by first | decide | exact Nat.le_refl _ | omega) (by rfl) (pa_cons (pv 1) (pa_cons pe_int pa_nil))) (fun _ _ => rfl)))
      (pss_cons (ps_set (i := 9) nd rfl (Or.inl rfl) (pe_lst (pa_cons (pe_slice (r := rSlL K) sl_list (pe_op op_rep (pv 4) pe_int) po_none (po_some pe_int)) (pa_cons (pe_lst (pa_cons (pe_tup (pa_cons pe_int (pa_cons pe_int pa_nil))) pa_nil)) (pa_cons (pe_op op_cat (pe_lst (pa_cons (pe_tup (pa_cons pe_int (pa_cons pe_int pa_nil))) pa_nil)) (pe_slice (r := rSlL K) sl_list (pv 4) po_none (po_some pe_int))) (pa_cons (pe_op op_rep (pe_lst (pa_cons (pe_tup (pa_cons pe_int (pa_cons pe_int pa_nil))) pa_nil)) pe_int) pa_nil))))))
      (pss_cons (ps_set (i := 10) nd rfl (Or.inr rfl) (pe_ix (r := rIxL K) ix_list (pv 9) (C8.pe_c g_law_drawn hr (by first | decide | exact Nat.le_refl _ | omega) (by rfl) (pa_cons (pv 1) (pa_cons pe_int pa_nil))) (fun _ _ => rfl)))
      (pss_cons (ps_set (i := 11) nd rfl (Or.inr rfl) (pe_ix (r := rIxL K) ix_list (pe_lst (pa_cons pe_int (pa_cons (C8.pe_c g_law_far hr (by first | decide | exact Nat.le_refl _ | omega) (by rfl) (pa_cons (pv 1) (pa_cons pe_int pa_nil))) pa_nil))) (C8.pe_c g_law_drawn hr (by first | decide | exact Nat.le_refl _ | omega) (by rfl) (pa_cons (pv 1) (pa_cons pe_int pa_nil))) (fun _ _ => rfl)))
      (pss_cons (ps_set (i := 12) nd rfl (Or.inr rfl) (C8.pe_c g_law_drawn hr (by first | decide | exact Nat.le_refl _ | omega) (by rfl) (pa_cons (pv 1) (pa_cons pe_int pa_nil))))
      (pss_cons (ps_set (i := 13) nd rfl (Or.inl rfl) (pe_lst (pa_cons (LamX.pe_lamcall (k := 5) (T := [(Pt, lamQ)]) (TT := TKind K CD cs) (by rfl) Dk.mgf Dk.kp lkk hck bk sc_law_kind rfl (Or.inl rfl) (kind_gives R) TB rfl (List.mem_singleton.mpr rfl) (fun p hp _ => by rw [List.mem_singleton.mp hp]; rfl) hr (LamX.lamS_by (show LamX.lamSB (C8.fnScope s_law) _ = true by decide +kernel)) rfl (fun _ _ _ _ _ => rfl) (fun A outer s H E f c' hr2 => (pe_cX g_steady hr2 (by first | decide | exact Nat.le_refl _ | omega) (by rfl) (fun σ => passAt (takes_of rfl rfl rfl rfl) σ) (pa_cons (pe_tup (pa_cons (pe_op op_add (pv 12) pe_int) (pa_cons (pv 12) pa_nil))) (pa_cons (pv 11) (pa_cons (pv 8) pa_nil)))))) pa_nil)))
      (pss_cons (ps_expr (pe_bmK (K := K) rfl PySem.F.plainAttrs_list PySem.F.slot_list_append PySem.F.type_list_append mt_append (pv 13) (pa_cons (LamX.pe_lamcall (k := 5) (T := [(Pt, lamQ)]) (TT := TKind K CD cs) (by rfl) Dk.mgf Dk.kp lkk hck bk sc_law_kind rfl (Or.inl rfl) (kind_gives R) TB rfl (List.mem_singleton.mpr rfl) (fun p hp _ => by rw [List.mem_singleton.mp hp]; rfl) hr (LamX.lamS_by (show LamX.lamSB (C8.fnScope s_law) _ = true by decide +kernel)) rfl (fun _ _ _ _ _ => rfl) (fun A outer s H E f c' hr2 => (pe_cX g_steady hr2 (by first | decide | exact Nat.le_refl _ | omega) (by rfl) (fun σ => passAt (takes_of rfl rfl rfl rfl) σ) (pa_cons (pe_tup (pa_cons pe_int (pa_cons (pv 12) pa_nil))) (pa_cons (pv 11) (pa_cons (pv 8) pa_nil)))))) pa_nil)))
      (pss_cons (ps_expr (pe_bmK (K := K) rfl PySem.F.plainAttrs_list PySem.F.slot_list_append PySem.F.type_list_append mt_append (pv 13) (pa_cons (LamX.pe_lamcall (k := 5) (T := [(Pt, lamQ)]) (TT := TKind K CD cs) (by rfl) Dk.mgf Dk.kp lkk hck bk sc_law_kind rfl (Or.inl rfl) (kind_gives R) TB rfl (List.mem_singleton.mpr rfl) (fun p hp _ => by rw [List.mem_singleton.mp hp]; rfl) hr (LamX.lamS_by (show LamX.lamSB (C8.fnScope s_law) _ = true by decide +kernel)) rfl (fun _ _ _ _ _ => rfl) (fun A outer s H E f c' hr2 => (pe_cX g_steady hr2 (by first | decide | exact Nat.le_refl _ | omega) (by rfl) (fun σ => passAt (takes_of rfl rfl rfl rfl) σ) (pa_cons (pe_tup (pa_cons pe_int (pa_cons pe_int pa_nil))) (pa_cons (pe_op op_add pe_int (pv 2)) (pa_cons (pv 8) pa_nil)))))) pa_nil)))
      (pss_cons (ps_expr (pe_bmK (K := K) rfl PySem.F.plainAttrs_list PySem.F.slot_list_append PySem.F.type_list_append mt_append (pv 13) (pa_cons (LamX.pe_lamcall (k := 5) (T := [(Pt, lamQ)]) (TT := TKind K CD cs) (by rfl) Dk.mgf Dk.kp lkk hck bk sc_law_kind rfl (Or.inl rfl) (kind_gives R) TB rfl (List.mem_singleton.mpr rfl) (fun p hp _ => by rw [List.mem_singleton.mp hp]; rfl) hr (LamX.lamS_by (show LamX.lamSB (C8.fnScope s_law) _ = true by decide +kernel)) rfl (fun _ _ _ _ _ => rfl) (fun A outer s H E f c' hr2 => (pe_cX g_steady hr2 (by first | decide | exact Nat.le_refl _ | omega) (by rfl) (fun σ => passAt (takes_of rfl rfl rfl rfl) σ) (pa_cons (pe_tup (pa_cons pe_int (pa_cons (pv 12) pa_nil))) (pa_cons pe_int (pa_cons (pv 10) pa_nil)))))) pa_nil)))
      (pss_cons (ps_expr (pe_bmK (K := K) rfl PySem.F.plainAttrs_list PySem.F.slot_list_append PySem.F.type_list_append mt_append (pv 13) (pa_cons (LamX.pe_lamcall (k := 5) (T := [(Pt, lamQ)]) (TT := TKind K CD cs) (by rfl) Dk.mgf Dk.kp lkk hck bk sc_law_kind rfl (Or.inl rfl) (kind_gives R) TB rfl (List.mem_singleton.mpr rfl) (fun p hp _ => by rw [List.mem_singleton.mp hp]; rfl) hr (LamX.lamS_by (show LamX.lamSB (C8.fnScope s_law) _ = true by decide +kernel)) rfl (fun _ _ _ _ _ => rfl) (fun A outer s H E f c' hr2 => (pe_cX g_steady hr2 (by first | decide | exact Nat.le_refl _ | omega) (by rfl) (fun σ => passAt (takes_of rfl rfl rfl rfl) σ) (pa_cons (pe_tup (pa_cons pe_int (pa_cons (pv 12) pa_nil))) (pa_cons (pe_op op_add pe_int (C8.pe_c g_law_drawn hr2 (by first | decide | exact Nat.le_refl _ | omega) (by rfl) (pa_cons (pv 1) (pa_cons pe_int pa_nil)))) (pa_cons (pv 4) pa_nil)))))) pa_nil)))
      (pss_cons (ps_expr (pe_bmK (K := K) rfl PySem.F.plainAttrs_list PySem.F.slot_list_append PySem.F.type_list_append mt_append (pv 13) (pa_cons (LamX.pe_lamcall (k := 5) (T := [(Pt, lamQ)]) (TT := TKind K CD cs) (by rfl) Dk.mgf Dk.kp lkk hck bk sc_law_kind rfl (Or.inl rfl) (kind_gives R) TB rfl (List.mem_singleton.mpr rfl) (fun p hp _ => by rw [List.mem_singleton.mp hp]; rfl) hr (LamX.lamS_by (show LamX.lamSB (C8.fnScope s_law) _ = true by decide +kernel)) rfl (fun _ _ _ _ _ => rfl) (fun A outer s H E f c' hr2 => (pe_cX g_steady hr2 (by first | decide | exact Nat.le_refl _ | omega) (by rfl) (fun σ => passAt (takes_of rfl rfl rfl rfl) σ) (pa_cons (pe_tup (pa_cons pe_int (pa_cons (pe_op op_add pe_int (C8.pe_c g_law_drawn hr2 (by first | decide | exact Nat.le_refl _ | omega) (by rfl) (pa_cons (pv 1) (pa_cons pe_int pa_nil)))) pa_nil))) (pa_cons pe_int (pa_cons (pv 4) pa_nil)))))) pa_nil)))
      (pss_cons (ps_if (pt_cmpR (r := rNeD K) (op_neD hr.units) (pv 13) (pe_lst (pa_cons pe_str (pa_cons pe_str (pa_cons pe_str (pa_cons pe_str (pa_cons pe_str (pa_cons pe_str pa_nil))))))) (nomark _)) (pss_one (ps_ret pe_bl)) pss_nil)
      (pss_one (ps_if (pt_cmpR (r := rIn K true) op_notIn_seq (pe_ix (r := rIxT K) ix_tup (LamX.pe_lamcall (k := 5) (T := [(Pt, lamQ)]) (TT := TKind K CD cs) (by rfl) Dk.mgf Dk.kp lkk hck bk sc_law_kind rfl (Or.inl rfl) (kind_gives R) TB rfl (List.mem_singleton.mpr rfl) (fun p hp _ => by rw [List.mem_singleton.mp hp]; rfl) hr (LamX.lamS_by (show LamX.lamSB (C8.fnScope s_law) _ = true by decide +kernel)) rfl (fun _ _ _ _ _ => rfl) (fun A outer s H E f c' hr2 => (pe_cX g_steady hr2 (by first | decide | exact Nat.le_refl _ | omega) (by rfl) (fun σ => passAt (takes_of rfl rfl rfl rfl) σ) (pa_cons (pe_tup (pa_cons pe_int (pa_cons pe_int pa_nil))) (pa_cons pe_int (pa_cons (pe_op op_rep (pe_lst (pa_cons (pe_tup (pa_cons pe_int (pa_cons pe_int pa_nil))) pa_nil)) (pe_op op_add pe_int (pe_op op_mod (pv 2) pe_int))) pa_nil)))))) pe_int (fun _ _ => rfl)) (pe_tup (pa_cons pe_str (pa_cons pe_str pa_nil))) (by with_unfolding_all rfl)) (pss_one (ps_ret pe_bl)) pss_nil)))))))))))))))))))
      (pss_one (ps_ret pe_bl)))), ?_⟩
    walk_at "go"
    refine ⟨noT H, sc, ns, rfl, noT_list hsc, noT_same H, hl, fun H1 S nS s1 d1 => ?_⟩
    have tb1 : LamX.Tabs [(Pt, lamQ)] H1 := fun p hp => by
      rw [List.mem_singleton.mp hp]
      exact .nil (s1 _ _ hT)
    walk_at "go"
    refine w_range (by decide) (by decide) (fun i σ H' => ∃ v2 v3 v4 v5 v6 v7 v8 v9 v10 v11 v12 v13 : Option V, σ = [some (.ref sc), some (.ref S), v2, v3, v4, v5, v6, v7, v8, v9, v10, v11, v12, v13] ∧ Dst K (noT H) H' S ∧ LamX.Tabs [(Pt, lamQ)] H') ?_ ?_ ?_
    · exact ⟨_, _, _, _, _, _, _, _, _, _, _, _, rfl, d1, tb1⟩
    · clear d1 tb1 s1 nS H1
      rintro i σ H0 hi' ⟨v2, v3, v4, v5, v6, v7, v8, v9, v10, v11, v12, v13, rfl, d0, tb0⟩
      have il : i < 6 := by omega
      walk_at "go"
      refine use_drawn (n := 3) d0 (by decide) (by decide) fun H1 a f1 d1 a0 a1 => ?_
      have tb1 := tabs_frm tb0 d0 f1
      clear f1 d0 tb0 H0
      walk_at "go"
      generalize hla : 1 + a = la
      have la0 : 1 ≤ la ∧ la ≤ 3 := by omega
      refine use_drawn (n := 2) d1 (by decide) (by decide) fun H2 m f2 d2 m0 m1 => ?_
      have tb2 := tabs_frm tb1 d1 f2
      clear f2 d1 tb1 H1
      walk_at "go"
      refine w_lcRange (n := 1 + m) (by omega) (by omega) (fun D i H' => Frm S H2 H' ∧ Dst K (noT H) H' S ∧ D ≠ S ∧ ∃ zs, WkS S H' D zs ∧ zs.length = i ∧ ∀ z ∈ zs, z.2.1 = la ∧ la ≤ z.2.2 ∧ z.2.2 ≤ la + 2) (fun D hD => ⟨.new hD, d2.same (same_new hD), d2.ne hD, [], ⟨upd_same, d2.ne hD, fun z hz => nomatch hz⟩, rfl, fun z hz => nomatch hz⟩) (fun D j H3 hD hj h => ?_) (fun LG H3 hLG h => ?_)
      · obtain ⟨f3, d3, nD, zs, ws3, zl, zok⟩ := h
        walk_at "go"
        refine ⟨rfl, ?_⟩
        walk_at "go"
        refine use_drawn (n := 3) d3 (by decide) (by decide) fun H4 y f4 d4 y0 y1 => ?_
        walk_at "go"
        intro t ht
        have ws5 := (ws3.frm f4).frm (.of (same_new (o := .tup [.int la, .int (la + y)]) ht))
        have d5 := d4.same (same_new (o := .tup [.int la, .int (la + y)]) ht)
        have et := upd_same (H := H4) (a := t) (o := .tup [.int la, .int (la + y)])
        have f5 : Frm S H2 (upd H4 t (.tup [.int la, .int (la + y)])) := (f3.trans f4).trans (.new ht)
        have nt := d4.ne ht
        generalize upd H4 t (.tup [.int la, .int (la + y)]) = H5 at ws5 d5 et f5
        refine ⟨_, ws5.at_, by rw [sizeLine_eq, List.length_map]; omega, fun b o n e => ?_, d5.mut nD (d2.fresh hD), nD, zs ++ [(t, la, la + y)], ws5.put et nt, by rw [List.length_append, zl]; rfl, fun z hz => ?_⟩
        · rw [upd_ne (ne_of_none e hD)]; exact f5 _ _ n e
        · rw [List.mem_append, List.mem_singleton] at hz
          rcases hz with hz | rfl
          · exact zok z hz
          · exact ⟨rfl, by show la ≤ la + y; omega, by show la + y ≤ la + 2; omega⟩
      obtain ⟨f3, d3, nG, good, wg3, gl, gok⟩ := h
      have gl1 : 1 ≤ good.length ∧ good.length ≤ 2 := by omega
      have tb3 := tabs_frm tb2 d2 f3
      have okg : okT good := ⟨by omega, by omega, fun z hz => by have := gok z hz; omega⟩
      clear f3 d2 tb2 hLG H2
      walk_at "go"
      refine g_I (pow_small (by decide) (by decide) (by decide)) ?_
      walk_at "go"
      refine use_drawn (n := 10 ^ (29 : Int).toNat) d3 (by decide) (by decide) fun H4 fh f4 d4 fh0 fh1 => ?_
      have tb4 := tabs_frm tb3 d3 f4
      have wg4 := wg3.frm f4
      clear f4 d3 tb3 wg3 H3
      walk_at "go"
      have d := d4
      have tb := tb4
      have wg := wg4
      clear d4 tb4 wg4
      intro l0 hl0
      have s0 := same_new (o := .lst []) hl0
      have b0 : Som S (upd H4 l0 (.lst [])) (fun zs => ¬ okT zs) l0 := ⟨[], ⟨upd_same, d.ne hl0, fun z hz => nomatch hz⟩, fun z => by have := z.1; exact absurd this (by decide)⟩
      generalize upd H4 l0 (.lst []) = J0 at s0 b0 ⊢
      replace d := d.same s0
      replace tb := tabs_same tb s0
      replace wg := wg.same s0
      clear s0 hl0
      walk_at "go"
      refine g_repW (k := 5) wg d.has (by omega) (by decide) fun J1 p1 s1 w1 => ?_
      replace d := d.same s1
      replace tb := tabs_same tb s1
      replace wg := wg.same s1
      replace b0 := b0.same s1
      clear s1
      have b1 : Som S _ (fun zs => ¬ okT zs) _ := ⟨_, w1, fun z => by have := z.2.1; rw [rep_len] at this; omega⟩
      walk_at "go"
      refine g_tailW wg d.has fun J2 p2 s2 w2 => ?_
      replace d := d.same s2
      replace tb := tabs_same tb s2
      replace wg := wg.same s2
      replace b0 := b0.same s2
      replace b1 := b1.same s2
      clear s2
      walk_at "go"
      intro t3 ht3
      walk_at "go"
      intro l3 hl3
      obtain ⟨w3, sw3⟩ := oneW (a := 0) (c := 3) d.has ht3 rfl hl3
      generalize upd (upd _ t3 _) l3 (.lst [.ref t3]) = J3 at w3 sw3 ⊢
      replace d := d.same sw3
      replace tb := tabs_same tb sw3
      replace wg := wg.same sw3
      replace b0 := b0.same sw3
      replace b1 := b1.same sw3
      replace w2 := w2.same sw3
      clear sw3 ht3 hl3
      refine g_catW w2 w3 d.has (by rw [List.length_drop]; omega) (by rw [one_len]; decide) fun J4 p4 s4 w4 => ?_
      clear w2 w3
      replace d := d.same s4
      replace tb := tabs_same tb s4
      replace wg := wg.same s4
      replace b0 := b0.same s4
      replace b1 := b1.same s4
      clear s4
      have b2 : Som S _ (fun zs => ¬ okT zs) _ := ⟨_, w4, fun z => by have := z.2.2 _ (List.mem_append_right _ (List.mem_singleton.mpr rfl)); have := this.1; dsimp only at this; omega⟩
      walk_at "go"
      intro t5 ht5
      walk_at "go"
      intro l5 hl5
      obtain ⟨w5, sw5⟩ := oneW (a := 3) (c := 2) d.has ht5 rfl hl5
      generalize upd (upd _ t5 _) l5 (.lst [.ref t5]) = J5 at w5 sw5 ⊢
      replace d := d.same sw5
      replace tb := tabs_same tb sw5
      replace wg := wg.same sw5
      replace b0 := b0.same sw5
      replace b1 := b1.same sw5
      replace b2 := b2.same sw5
      clear sw5 ht5 hl5
      refine g_catW wg w5 d.has (by omega) (by rw [one_len]; decide) fun J6 p6 s6 w6 => ?_
      clear w5
      replace d := d.same s6
      replace tb := tabs_same tb s6
      replace wg := wg.same s6
      replace b0 := b0.same s6
      replace b1 := b1.same s6
      replace b2 := b2.same s6
      clear s6
      have b3 : Som S _ (fun zs => ¬ okT zs) _ := ⟨_, w6, fun z => by have := z.2.2 _ (List.mem_append_right _ (List.mem_singleton.mpr rfl)); have := this.2.1; dsimp only at this; omega⟩
      walk_at "go"
      intro t7 ht7
      walk_at "go"
      intro l7 hl7
      obtain ⟨w7, sw7⟩ := oneW (a := 1) (c := 61) d.has ht7 rfl hl7
      generalize upd (upd _ t7 _) l7 (.lst [.ref t7]) = J7 at w7 sw7 ⊢
      replace d := d.same sw7
      replace tb := tabs_same tb sw7
      replace wg := wg.same sw7
      replace b0 := b0.same sw7
      replace b1 := b1.same sw7
      replace b2 := b2.same sw7
      replace b3 := b3.same sw7
      clear sw7 ht7 hl7
      walk_at "go"
      refine g_catW w7 wg d.has (by rw [one_len]; decide) (by omega) fun J8 p8 s8 w8 => ?_
      clear w7
      replace d := d.same s8
      replace tb := tabs_same tb s8
      replace wg := wg.same s8
      replace b0 := b0.same s8
      replace b1 := b1.same s8
      replace b2 := b2.same s8
      replace b3 := b3.same s8
      clear s8
      have b4 : Som S _ (fun zs => ¬ okT zs) _ := ⟨_, w8, fun z => by have := z.2.2 _ (List.mem_append_left _ (List.mem_singleton.mpr rfl)); have := this.2.2; dsimp only at this; omega⟩
      walk_at "go"
      intro t9 ht9
      walk_at "go"
      intro l9 hl9
      obtain ⟨w9, sw9⟩ := oneW (a := (0 - (1 + fh))) (c := 2) d.has ht9 rfl hl9
      generalize upd (upd _ t9 _) l9 (.lst [.ref t9]) = J9 at w9 sw9 ⊢
      replace d := d.same sw9
      replace tb := tabs_same tb sw9
      replace wg := wg.same sw9
      replace b0 := b0.same sw9
      replace b1 := b1.same sw9
      replace b2 := b2.same sw9
      replace b3 := b3.same sw9
      replace b4 := b4.same sw9
      clear sw9 ht9 hl9
      have b5 : Som S _ (fun zs => ¬ okT zs) _ := ⟨_, w9, fun z => by have := (z.2.2 _ (List.mem_singleton.mpr rfl)).1; dsimp only at this; omega⟩
      walk_at "go"
      intro t10 ht10
      walk_at "go"
      intro l10 hl10
      obtain ⟨w10, sw10⟩ := oneW (a := 1) (c := (60 + (1 + fh))) d.has ht10 rfl hl10
      generalize upd (upd _ t10 _) l10 (.lst [.ref t10]) = J10 at w10 sw10 ⊢
      replace d := d.same sw10
      replace tb := tabs_same tb sw10
      replace wg := wg.same sw10
      replace b0 := b0.same sw10
      replace b1 := b1.same sw10
      replace b2 := b2.same sw10
      replace b3 := b3.same sw10
      replace b4 := b4.same sw10
      replace b5 := b5.same sw10
      clear sw10 ht10 hl10
      have b6 : Som S _ (fun zs => ¬ okT zs) _ := ⟨_, w10, fun z => by have := (z.2.2 _ (List.mem_singleton.mpr rfl)).2.2; dsimp only at this; omega⟩
      walk_at "go"
      intro LN hLN
      have sN := same_new (o := .lst [V.ref l0, V.ref p1, V.ref p4, V.ref p6, V.ref p8, V.ref l9, V.ref l10]) hLN
      have eN := upd_same (H := J10) (a := LN) (o := .lst [V.ref l0, V.ref p1, V.ref p4, V.ref p6, V.ref p8, V.ref l9, V.ref l10])
      have nN := d.ne hLN
      generalize upd J10 LN (.lst [V.ref l0, V.ref p1, V.ref p4, V.ref p6, V.ref p8, V.ref l9, V.ref l10]) = J11 at sN eN
      replace d := d.same sN
      replace tb := tabs_same tb sN
      replace wg := wg.same sN
      replace b0 := b0.same sN
      replace b1 := b1.same sN
      replace b2 := b2.same sN
      replace b3 := b3.same sN
      replace b4 := b4.same sN
      replace b5 := b5.same sN
      replace b6 := b6.same sN
      clear sN hLN
      walk_at "go"
      refine use_drawn (n := 7) d (by decide) (by decide) fun J12 x7 f7 d7 x70 x71 => ?_
      replace eN := f7 _ _ nN eN
      replace tb := tabs_frm tb d f7
      replace wg := wg.frm f7
      replace b0 := b0.frm f7
      replace b1 := b1.frm f7
      replace b2 := b2.frm f7
      replace b3 := b3.frm f7
      replace b4 := b4.frm f7
      replace b5 := b5.frm f7
      replace b6 := b6.frm f7
      replace d := d7
      clear f7
      obtain ⟨x, hx, hx2⟩ := atI_mem (xs := [V.ref l0, V.ref p1, V.ref p4, V.ref p6, V.ref p8, V.ref l9, V.ref l10]) x70 x71
      refine g_ixL (SqL.of eN) hx2 ?_
      obtain ⟨LB, rfl, bB⟩ : ∃ LB, x = V.ref LB ∧ Som S J12 (fun zs => ¬ okT zs) LB := by
        simp only [List.mem_cons, List.not_mem_nil, or_false] at hx
        rcases hx with rfl | rfl | rfl | rfl | rfl | rfl | rfl
        · exact ⟨_, rfl, b0⟩
        · exact ⟨_, rfl, b1⟩
        · exact ⟨_, rfl, b2⟩
        · exact ⟨_, rfl, b3⟩
        · exact ⟨_, rfl, b4⟩
        · exact ⟨_, rfl, b5⟩
        · exact ⟨_, rfl, b6⟩
      clear b0 b1 b2 b3 b4 b5 b6 hx hx2 eN nN
      walk_at "go"
      refine g_repW (k := 4) wg d.has (by omega) (by decide) fun J13 p13 s13 w13 => ?_
      replace d := d.same s13
      replace tb := tabs_same tb s13
      replace wg := wg.same s13
      replace bB := bB.same s13
      clear s13
      walk_at "go"
      refine g_takW (n := 3) w13 d.has fun J14 p14 s14 w14 => ?_
      clear w13
      replace d := d.same s14
      replace tb := tabs_same tb s14
      replace wg := wg.same s14
      replace bB := bB.same s14
      clear s14
      have m0 : Som S J14 (fun zs => okT zs ∧ (2 < zs.length ∨ ∃ z ∈ zs, 8 < z.2.2)) p14 := ⟨_, w14, by
        have hl3 : ((List.replicate 4 good).flatten.take 3).length = 3 := by rw [List.length_take, rep_len]; omega
        refine ⟨⟨by omega, by omega, fun z hz => ?_⟩, .inl (by omega)⟩
        have := gok z (rep_mem (List.mem_of_mem_take hz)); omega⟩
      clear w14
      walk_at "go"
      intro t15 ht15
      walk_at "go"
      intro l15 hl15
      obtain ⟨w15, sw15⟩ := oneW (a := 1) (c := 9) d.has ht15 rfl hl15
      generalize upd (upd _ t15 _) l15 (.lst [.ref t15]) = J15 at w15 sw15 ⊢
      replace d := d.same sw15
      replace tb := tabs_same tb sw15
      replace wg := wg.same sw15
      replace bB := bB.same sw15
      replace m0 := m0.same sw15
      clear sw15 ht15 hl15
      have m1 : Som S J15 (fun zs => okT zs ∧ (2 < zs.length ∨ ∃ z ∈ zs, 8 < z.2.2)) l15 := ⟨_, w15, one_ok (by decide) (by decide) (by decide), .inr ⟨_, List.mem_singleton.mpr rfl, by show (8 : Int) < 9; decide⟩⟩
      clear w15
      walk_at "go"
      intro t16 ht16
      walk_at "go"
      intro l16 hl16
      obtain ⟨w16, sw16⟩ := oneW (a := 9) (c := 60) d.has ht16 rfl hl16
      generalize upd (upd _ t16 _) l16 (.lst [.ref t16]) = J16 at w16 sw16 ⊢
      replace d := d.same sw16
      replace tb := tabs_same tb sw16
      replace wg := wg.same sw16
      replace bB := bB.same sw16
      replace m0 := m0.same sw16
      replace m1 := m1.same sw16
      clear sw16 ht16 hl16
      walk_at "go"
      refine g_takW (n := 1) wg d.has fun J17 p17 s17 w17 => ?_
      replace d := d.same s17
      replace tb := tabs_same tb s17
      replace wg := wg.same s17
      replace bB := bB.same s17
      replace m0 := m0.same s17
      replace m1 := m1.same s17
      replace w16 := w16.same s17
      clear s17
      walk_at "go"
      refine g_catW w16 w17 d.has (by rw [one_len]; decide) (by rw [List.length_take]; omega) fun J18 p18 s18 w18 => ?_
      clear w16 w17
      replace d := d.same s18
      replace tb := tabs_same tb s18
      replace wg := wg.same s18
      replace bB := bB.same s18
      replace m0 := m0.same s18
      replace m1 := m1.same s18
      clear s18
      have m2 : Som S J18 (fun zs => okT zs ∧ (2 < zs.length ∨ ∃ z ∈ zs, 8 < z.2.2)) p18 := ⟨_, w18, by
        have hl2 : ([(t16, 9, 60)] ++ good.take 1).length = 2 := by rw [List.length_append, List.length_take]; show 1 + _ = 2; omega
        refine ⟨⟨by omega, by omega, fun z hz => ?_⟩, .inr ⟨_, List.mem_append_left _ (List.mem_singleton.mpr rfl), by show (8 : Int) < 60; decide⟩⟩
        rw [List.mem_append] at hz
        rcases hz with hz | hz
        · obtain ⟨e1, e2⟩ := one_mem hz; rw [e1, e2]; decide
        · have := gok z (List.mem_of_mem_take hz); omega⟩
      clear w18
      walk_at "go"
      intro t19 ht19
      walk_at "go"
      intro l19 hl19
      obtain ⟨w19, sw19⟩ := oneW (a := 1) (c := 1) d.has ht19 rfl hl19
      generalize upd (upd _ t19 _) l19 (.lst [.ref t19]) = J19 at w19 sw19 ⊢
      replace d := d.same sw19
      replace tb := tabs_same tb sw19
      replace wg := wg.same sw19
      replace bB := bB.same sw19
      replace m0 := m0.same sw19
      replace m1 := m1.same sw19
      replace m2 := m2.same sw19
      clear sw19 ht19 hl19
      walk_at "go"
      refine g_repW (k := 4) w19 d.has (by rw [one_len]; decide) (by decide) fun J20 p20 s20 w20 => ?_
      replace d := d.same s20
      replace tb := tabs_same tb s20
      replace wg := wg.same s20
      replace bB := bB.same s20
      replace m0 := m0.same s20
      replace m1 := m1.same s20
      replace m2 := m2.same s20
      clear s20 w19
      have m3 : Som S J20 (fun zs => okT zs ∧ (2 < zs.length ∨ ∃ z ∈ zs, 8 < z.2.2)) p20 := ⟨_, w20, ⟨by rw [rep_len, one_len]; decide, by rw [rep_len, one_len]; decide, fun z hz => by obtain ⟨e1, e2⟩ := one_mem (rep_mem hz); rw [e1, e2]; decide⟩, .inl (by rw [rep_len, one_len]; decide)⟩
      clear w20
      walk_at "go"
      intro LN hLN
      have sN := same_new (o := .lst [V.ref p14, V.ref l15, V.ref p18, V.ref p20]) hLN
      have eN := upd_same (H := J20) (a := LN) (o := .lst [V.ref p14, V.ref l15, V.ref p18, V.ref p20])
      have nN := d.ne hLN
      generalize upd J20 LN (.lst [V.ref p14, V.ref l15, V.ref p18, V.ref p20]) = J21 at sN eN
      replace d := d.same sN
      replace tb := tabs_same tb sN
      replace wg := wg.same sN
      replace bB := bB.same sN
      replace m0 := m0.same sN
      replace m1 := m1.same sN
      replace m2 := m2.same sN
      replace m3 := m3.same sN
      clear sN hLN
      walk_at "go"
      refine use_drawn (n := 4) d (by decide) (by decide) fun J22 x22 f22 d22 x220 x221 => ?_
      replace eN := f22 _ _ nN eN
      replace tb := tabs_frm tb d f22
      replace wg := wg.frm f22
      replace bB := bB.frm f22
      replace m0 := m0.frm f22
      replace m1 := m1.frm f22
      replace m2 := m2.frm f22
      replace m3 := m3.frm f22
      replace d := d22
      clear f22
      obtain ⟨x, hx, hx2⟩ := atI_mem (xs := [V.ref p14, V.ref l15, V.ref p18, V.ref p20]) x220 x221
      refine g_ixL (SqL.of eN) hx2 ?_
      obtain ⟨LM, rfl, bM⟩ : ∃ LM, x = V.ref LM ∧ Som S J22 (fun zs => okT zs ∧ (2 < zs.length ∨ ∃ z ∈ zs, 8 < z.2.2)) LM := by
        simp only [List.mem_cons, List.not_mem_nil, or_false] at hx
        rcases hx with rfl | rfl | rfl | rfl
        · exact ⟨_, rfl, m0⟩
        · exact ⟨_, rfl, m1⟩
        · exact ⟨_, rfl, m2⟩
        · exact ⟨_, rfl, m3⟩
      clear m0 m1 m2 m3 hx hx2 eN nN
      walk_at "go"
      refine ⟨_, S, 60, rfl, d, fun J23 v f23 d23 hv => ?_⟩
      replace tb := tabs_frm tb d f23
      replace wg := wg.frm f23
      replace bB := bB.frm f23
      replace bM := bM.frm f23
      replace d := d23
      clear f23
      walk_at "go"
      intro LN hLN
      have sN := same_new (o := .lst [V.int 0, V.int v]) hLN
      have eN := upd_same (H := J23) (a := LN) (o := .lst [V.int 0, V.int v])
      have nN := d.ne hLN
      generalize upd J23 LN (.lst [V.int 0, V.int v]) = J24 at sN eN
      replace d := d.same sN
      replace tb := tabs_same tb sN
      replace wg := wg.same sN
      replace bB := bB.same sN
      replace bM := bM.same sN
      clear sN hLN
      walk_at "go"
      refine use_drawn (n := 2) d (by decide) (by decide) fun J25 x25 f25 d25 x250 x251 => ?_
      replace eN := f25 _ _ nN eN
      replace tb := tabs_frm tb d f25
      replace wg := wg.frm f25
      replace bB := bB.frm f25
      replace bM := bM.frm f25
      replace d := d25
      clear f25
      obtain ⟨x, hx, hx2⟩ := atI_mem (xs := [V.int 0, V.int v]) x250 x251
      refine g_ixL (SqL.of eN) hx2 ?_
      obtain ⟨bt, rfl, nob⟩ : ∃ bt, x = V.int bt ∧ ¬ okB bt := by
        simp only [List.mem_cons, List.not_mem_nil, or_false] at hx
        rcases hx with rfl | rfl
        · exact ⟨_, rfl, fun z => absurd z.1 (by decide)⟩
        · exact ⟨_, rfl, fun z => by have := z.1; have := z.2; omega⟩
      clear hx hx2 eN nN
      walk_at "go"
      refine use_drawn (n := 20) d (by decide) (by decide) fun J26 low f26 d26 low0 low1 => ?_
      replace tb := tabs_frm tb d f26
      replace wg := wg.frm f26
      replace bB := bB.frm f26
      replace bM := bM.frm f26
      replace d := d26
      clear f26
      walk_at "go"
      refine g_lam tb fun K1 x1 t1 => ?_
      replace d := d.ext x1
      replace bB := bB.ext x1
      replace bM := bM.ext x1
      replace wg := wg.ext x1
      clear x1 tb
      refine g_kind ?_
      walk_at "go"
      intro w1 hw1
      have s2 := same_new (o := .tup [.int (low + 1), .int low]) hw1
      obtain ⟨zb, wb, nb⟩ := bB.same s2
      walk_at "go"
      refine st_bw (lo := low + 1) (hi := low) (b := bt) rfl (SqT.of upd_same) wb.wk (fun z => by have := z.2.1; omega) ⟨0, CW, "BadWindow", rfl, rfl, RW, rfl, fun K3 s3 => ?_⟩
      have s23 := s2.trans s3
      replace d := d.same s23
      replace t1 := tabs_same t1 s23
      replace bB := bB.same s23
      replace bM := bM.same s23
      replace wg := wg.same s23
      clear s23 s3 s2 hw1 wb nb
      walk_at "go"
      intro TL hTL
      have s4 := same_new (o := .lst [.str "BadWindow"]) hTL
      have bn : Bn K H S Pt LB LM LG TL ["BadWindow"] good (upd K3 TL (.lst [.str "BadWindow"])) := ⟨d.same s4, tabs_same t1 s4, bB.same s4, bM.same s4, wg.same s4, upd_same, d.ne hTL⟩
      have fT : noT H TL = none := d.fresh hTL
      have nTT : LB ≠ TL ∧ LM ≠ TL ∧ LG ≠ TL := by
        obtain ⟨_, a1, _⟩ := bB
        obtain ⟨_, a2, _⟩ := bM
        exact ⟨ne_of_none a1.at_ hTL, ne_of_none a2.at_ hTL, ne_of_none wg.at_ hTL⟩
      generalize upd K3 TL (.lst [.str "BadWindow"]) = K4 at bn
      clear s4 d t1 bB bM wg hTL K3 K1 zb
      walk_at "go"
      refine g_tyL bn.told ?_
      walk_at "go"
      -- BadBeat
      refine g_lam bn.tb fun K5 x5 t5 => ?_
      replace bn := bn.ext x5 t5
      clear x5 t5
      refine g_kind ?_
      walk_at "go"
      intro w1 hw1
      have s2 := same_new (o := .tup [.int 0, .int low]) hw1
      obtain ⟨zb, wb, nb⟩ := bn.bad.same s2
      walk_at "go"
      refine st_bb (lo := 0) (hi := low) (b := bt) rfl (SqT.of upd_same) wb.wk ⟨by decide, low0, by omega⟩ nob ⟨7, CT, "BadBeat", rfl, rfl, RT, rfl, fun K6 s6 => ?_⟩
      replace bn := bn.same (s2.trans s6)
      clear s2 s6 hw1 wb nb zb K5 K4
      walk_at "go"
      refine g_append bn.told (by decide) ?_
      replace bn := bn.put fT "BadBeat" nTT
      generalize upd K6 TL _ = K7 at bn ⊢
      clear K6
      walk_at "go"
      refine g_tyL bn.told ?_
      walk_at "go"
      -- BadTasks
      refine g_lam bn.tb fun K5 x5 t5 => ?_
      replace bn := bn.ext x5 t5
      clear x5 t5
      refine g_kind ?_
      walk_at "go"
      intro w1 hw1
      have s2 := same_new (o := .tup [.int 0, .int 1000]) hw1
      obtain ⟨zb, wb, nb⟩ := bn.bad.same s2
      walk_at "go"
      refine st_bt (lo := 0) (hi := 1000) (b := 1 + (i : Int)) rfl (SqT.of upd_same) wb.wk ⟨by decide, by decide, by decide⟩ ⟨by omega, by omega⟩ nb ⟨6, CB, "BadTasks", rfl, rfl, RB, rfl, fun K6 s6 => ?_⟩
      replace bn := bn.same (s2.trans s6)
      clear s2 s6 hw1 wb nb zb K5
      walk_at "go"
      refine g_append bn.told (by decide) ?_
      replace bn := bn.put fT "BadTasks" nTT
      generalize upd K6 TL _ = K8 at bn ⊢
      clear K6
      walk_at "go"
      refine g_tyL bn.told ?_
      walk_at "go"
      -- TooMuch: the tasks
      refine g_lam bn.tb fun K5 x5 t5 => ?_
      replace bn := bn.ext x5 t5
      clear x5 t5
      refine g_kind ?_
      walk_at "go"
      intro w1 hw1
      have s2 := same_new (o := .tup [.int 0, .int low]) hw1
      obtain ⟨zb, wb, ot, om⟩ := bn.much.same s2
      walk_at "go"
      refine st_tm (lo := 0) (hi := low) (b := 6) rfl (SqT.of upd_same) wb.wk ⟨by decide, low0, by omega⟩ ⟨by decide, by decide⟩ ot (fun z => ?_) fun K6 s6 => ⟨8, CM, "TooMuch", rfl, rfl, RM, rfl, fun K7 s7 => ?_⟩
      · rcases om with h | ⟨y, hy, h⟩
        · have := z.1; omega
        · have := z.2.1 y hy; omega
      replace bn := bn.same ((s2.trans s6).trans s7)
      clear s2 s6 s7 hw1 wb ot om zb K5 K6
      walk_at "go"
      refine g_append bn.told (by decide) ?_
      replace bn := bn.put fT "TooMuch" nTT
      generalize upd K7 TL _ = K9 at bn ⊢
      clear K7 K8
      walk_at "go"
      refine g_tyL bn.told ?_
      walk_at "go"
      -- TooMuch: the beat
      refine g_lam bn.tb fun K5 x5 t5 => ?_
      replace bn := bn.ext x5 t5
      clear x5 t5
      refine g_kind ?_
      walk_at "go"
      intro w1 hw1
      have s2 := same_new (o := .tup [.int 0, .int low]) hw1
      have ew := upd_same (H := K5) (a := w1) (o := .tup [.int 0, .int low])
      have nw := bn.d.ne hw1
      replace bn := bn.same s2
      generalize upd K5 w1 (.tup [.int 0, .int low]) = K6 at bn ew
      clear s2 hw1
      walk_at "go"
      refine use_drawn (n := 54) bn.d (by decide) (by decide) fun K7 y f7 d7 y0 y1 => ?_
      replace bn := bn.frm f7 d7
      replace ew := f7 _ _ nw ew
      clear f7 d7
      walk_at "go"
      refine st_tm (lo := 0) (hi := low) (b := 7 + y) rfl (SqT.of ew) bn.good.wk ⟨by decide, low0, by omega⟩ ⟨by omega, by omega⟩ okg (fun z => by have := z.2.2.1; omega) fun K8 s8 => ⟨8, CM, "TooMuch", rfl, rfl, RM, rfl, fun K10 s10 => ?_⟩
      replace bn := bn.same (s8.trans s10)
      clear s8 s10 ew nw K5 K6 K7 K8
      walk_at "go"
      refine g_append bn.told (by decide) ?_
      replace bn := bn.put fT "TooMuch" nTT
      generalize upd K10 TL _ = K11 at bn ⊢
      clear K10 K9
      walk_at "go"
      refine g_tyL bn.told ?_
      walk_at "go"
      -- TooMuch: the window
      refine g_lam bn.tb fun K5 x5 t5 => ?_
      replace bn := bn.ext x5 t5
      clear x5 t5
      refine g_kind ?_
      walk_at "go"
      refine use_drawn (n := 976) bn.d (by decide) (by decide) fun K7 y f7 d7 y0 y1 => ?_
      replace bn := bn.frm f7 d7
      clear f7 d7
      walk_at "go"
      intro w1 hw1
      have s2 := same_new (o := .tup [.int 0, .int (25 + y)]) hw1
      have ew := upd_same (H := K7) (a := w1) (o := .tup [.int 0, .int (25 + y)])
      replace bn := bn.same s2
      generalize upd K7 w1 (.tup [.int 0, .int (25 + y)]) = K6 at bn ew
      clear s2 hw1
      walk_at "go"
      refine st_tm (lo := 0) (hi := 25 + y) (b := 6) rfl (SqT.of ew) bn.good.wk ⟨by decide, by omega, by omega⟩ ⟨by decide, by decide⟩ okg (fun z => by have := z.2.2.2; omega) fun K8 s8 => ⟨8, CM, "TooMuch", rfl, rfl, RM, rfl, fun K10 s10 => ?_⟩
      replace bn := bn.same (s8.trans s10)
      clear s8 s10 ew K5 K6 K7 K8
      walk_at "go"
      refine g_append bn.told (by decide) ?_
      replace bn := bn.put fT "TooMuch" nTT
      generalize upd K10 TL _ = K12 at bn ⊢
      clear K10 K11
      walk_at "go"
      intro z hz
      have sz := same_new (o := .lst [V.str "BadWindow", V.str "BadBeat", V.str "BadTasks", V.str "TooMuch", V.str "TooMuch", V.str "TooMuch"]) hz
      have ez := upd_same (H := K12) (a := z) (o := .lst [V.str "BadWindow", V.str "BadBeat", V.str "BadTasks", V.str "TooMuch", V.str "TooMuch", V.str "TooMuch"])
      replace bn := bn.same sz
      refine g_neStrs bn.told ez (by decide +kernel) ?_
      generalize upd K12 z (.lst [V.str "BadWindow", V.str "BadBeat", V.str "BadTasks", V.str "TooMuch", V.str "TooMuch", V.str "TooMuch"]) = K13 at bn ⊢
      clear sz ez hz
      walk_at "go"
      -- the greatest that is searched
      refine g_lam bn.tb fun K5 x5 t5 => ?_
      replace bn := bn.ext x5 t5
      clear x5 t5
      refine g_kind ?_
      walk_at "go"
      intro w1 hw1
      have s2 := same_new (o := .tup [.int 0, .int 24]) hw1
      have ew := upd_same (H := K5) (a := w1) (o := .tup [.int 0, .int 24])
      replace bn := bn.same s2
      generalize upd K5 w1 (.tup [.int 0, .int 24]) = K6 at bn ew
      clear s2 hw1
      walk_at "go"
      intro t8 ht8
      walk_at "go"
      intro l8 hl8
      obtain ⟨w8, s8⟩ := oneW (a := 8) (c := 8) bn.d.has ht8 rfl hl8
      generalize upd (upd _ t8 _) l8 (.lst [.ref t8]) = K7 at w8 s8 ⊢
      replace bn := bn.same s8
      replace ew := s8 _ _ ew
      clear s8 ht8 hl8
      walk_at "go"
      refine g_I (show (0 : Int) < 2 by decide) ?_
      walk_at "go"
      have e12 : (1 + (i : Int) % 2) = ((1 + i % 2 : Nat) : Int) := by omega
      rw [e12]
      refine g_repW w8 bn.d.has (by rw [one_len]; decide) (by omega) fun K8 p9 s9 w9 => ?_
      replace bn := bn.same s9
      replace ew := s9 _ _ ew
      clear s9 w8
      have rl9 : ((List.replicate (1 + i % 2) [((t8, 8, 8) : Wk)]).flatten).length = 1 + i % 2 := by rw [rep_len, one_len, Nat.mul_one]
      have rm9 : ∀ z ∈ (List.replicate (1 + i % 2) [((t8, 8, 8) : Wk)]).flatten, z.2.1 = 8 ∧ z.2.2 = 8 := fun z hz => one_mem (rep_mem hz)
      walk_at "go"
      refine st_ok (lo := 0) (hi := 24) (b := 6) rfl (SqT.of ew) w9.wk ⟨by decide, by decide, by decide⟩ ⟨by decide, by decide⟩ ⟨by omega, by omega, fun z hz => by obtain ⟨e1, e2⟩ := rm9 z hz; rw [e1, e2]; decide⟩ ⟨by omega, fun z hz => by obtain ⟨e1, e2⟩ := rm9 z hz; rw [e2]; decide, by decide, by decide⟩ fun K9 t x rest s9 et hx => ?_
      replace bn := bn.same s9
      clear s9
      refine g_ixT (v := V.str x) (SqT.of et) (at_of (j := 0) rfl rfl) ?_
      walk_at "go"
      intro tp htp
      have sp := same_new (o := .tup [.str "steady", .str "bitten"]) htp
      replace bn := bn.same sp
      refine g_notInT (SqT.of upd_same) rfl rfl ?_
      generalize upd K9 tp _ = K10 at bn ⊢
      have ein : inV (V.str x) [.str "steady", .str "bitten"] = true := by rcases hx with rfl | rfl <;> decide +kernel
      rw [ein]
      walk_at "go"
      exact ⟨_, _, _, _, _, _, _, _, _, _, _, _, rfl, bn.d, bn.tb⟩
    · rintro σ H' ⟨v2, v3, v4, v5, v6, v7, v8, v9, v10, v11, v12, v13, rfl, d, tb⟩
      walk_at "go"
      exact q H'
end
end K15
namespace K15
open PySem PySem.Spec PyProof.Rows L2 Wd
theorem law_at {l : PySem.W.OpenLaw} {w : World} {K : PySem.W.Frag} {h : Heap} {mg : Str → Option Value} {fa : Addr} (X : K.In h) (G : h.Ns mainGlobals mg) (hfa : mg "law" = some (.ref fa))
    {f_is_number : Addr} {oc_is_number kV_is_number dc_is_number pm_is_number cd_is_number ct_is_number : Value} {od_is_number an_is_number : Option Addr} {sl_is_number : Array (Option Value)}
    {f_is_range : Addr} {oc_is_range kV_is_range dc_is_range pm_is_range cd_is_range ct_is_range : Value} {od_is_range an_is_range : Option Addr} {sl_is_range : Array (Option Value)}
    {f_check_window : Addr} {oc_check_window kV_check_window dc_check_window pm_check_window cd_check_window ct_check_window : Value} {od_check_window an_check_window : Option Addr} {sl_check_window : Array (Option Value)}
    {f_check_beat : Addr} {oc_check_beat kV_check_beat dc_check_beat pm_check_beat cd_check_beat ct_check_beat : Value} {od_check_beat an_check_beat : Option Addr} {sl_check_beat : Array (Option Value)}
    {f_check_tasks : Addr} {oc_check_tasks kV_check_tasks dc_check_tasks pm_check_tasks cd_check_tasks ct_check_tasks : Value} {od_check_tasks an_check_tasks : Option Addr} {sl_check_tasks : Array (Option Value)}
    {f_check_searched : Addr} {oc_check_searched kV_check_searched dc_check_searched pm_check_searched cd_check_searched ct_check_searched : Value} {od_check_searched an_check_searched : Option Addr} {sl_check_searched : Array (Option Value)}
    {f_waits_behind : Addr} {oc_waits_behind kV_waits_behind dc_waits_behind pm_waits_behind cd_waits_behind ct_waits_behind : Value} {od_waits_behind an_waits_behind : Option Addr} {sl_waits_behind : Array (Option Value)}
    {f_all_waits_behind : Addr} {oc_all_waits_behind kV_all_waits_behind dc_all_waits_behind pm_all_waits_behind cd_all_waits_behind ct_all_waits_behind : Value} {od_all_waits_behind an_all_waits_behind : Option Addr} {sl_all_waits_behind : Array (Option Value)}
    {f_is_patted : Addr} {oc_is_patted kV_is_patted dc_is_patted pm_is_patted cd_is_patted ct_is_patted : Value} {od_is_patted an_is_patted : Option Addr} {sl_is_patted : Array (Option Value)}
    {f_bite_word : Addr} {oc_bite_word kV_bite_word dc_bite_word pm_bite_word cd_bite_word ct_bite_word : Value} {od_bite_word an_bite_word : Option Addr} {sl_bite_word : Array (Option Value)}
    {f_path_to : Addr} {oc_path_to kV_path_to dc_path_to pm_path_to cd_path_to ct_path_to : Value} {od_path_to an_path_to : Option Addr} {sl_path_to : Array (Option Value)}
    {f_reports_along : Addr} {oc_reports_along kV_reports_along dc_reports_along pm_reports_along cd_reports_along ct_reports_along : Value} {od_reports_along an_reports_along : Option Addr} {sl_reports_along : Array (Option Value)}
    {f_steady : Addr} {oc_steady kV_steady dc_steady pm_steady cd_steady ct_steady : Value} {od_steady an_steady : Option Addr} {sl_steady : Array (Option Value)}
    {f_law_start : Addr} {oc_law_start kV_law_start dc_law_start pm_law_start cd_law_start ct_law_start : Value} {od_law_start an_law_start : Option Addr} {sl_law_start : Array (Option Value)}
    {f_law_drawn : Addr} {oc_law_drawn kV_law_drawn dc_law_drawn pm_law_drawn cd_law_drawn ct_law_drawn : Value} {od_law_drawn an_law_drawn : Option Addr} {sl_law_drawn : Array (Option Value)}
    {f_law_kind : Addr} {oc_law_kind kV_law_kind dc_law_kind pm_law_kind cd_law_kind ct_law_kind : Value} {od_law_kind an_law_kind : Option Addr} {sl_law_kind : Array (Option Value)}
    {f_law_far : Addr} {oc_law_far kV_law_far dc_law_far pm_law_far cd_law_far ct_law_far : Value} {od_law_far an_law_far : Option Addr} {sl_law_far : Array (Option Value)}
    {fa0 : Addr} {oc_law kV_law dc_law pm_law ct_law : Value} {od_law an_law : Option Addr} {sl_law : Array (Option Value)}
    {cc Pt : Addr} {occ : Value} {odc : Option Addr} {slc : Array (Option Value)} {vsc : Array Value}
    {t_GREATEST_HIGH : Tok}
    {t_GREATEST_BEAT : Tok}
    {t_MOST_TASKS : Tok}
    {t_LONGEST_TASK : Tok}
    {t_MOST_SEARCHED_TASKS : Tok}
    {t_LONGEST_SEARCHED_TASK : Tok}
    {t_GREATEST_SEARCHED_BEAT : Tok}
    {t_GREATEST_SEARCHED_HIGH : Tok}
    {CD C_0 C_1 C_2 C_3 C_4 C_5 C_6 C_7 C_8 : Addr}
    (a_is_number : PySem.W.nsIn K mainGlobals "is_number" = some (some (.ref f_is_number)))
    (l_is_number : K.lookup f_is_number = some ⟨oc_is_number, od_is_number, .func (PySem.W.fnOf "is_number" "is_number" (C8.fnArgs s_is_number) (C8.fnBody s_is_number) (C8.fnScope s_is_number) .none kV_is_number dc_is_number pm_is_number an_is_number cd_is_number ct_is_number), sl_is_number⟩)
    (c_is_number : PySem.W.codeIn K cd_is_number "is_number" = true)
    (k_is_number : PySem.W.keepIn K (.ref f_is_number) = true)
    (a_is_range : PySem.W.nsIn K mainGlobals "is_range" = some (some (.ref f_is_range)))
    (l_is_range : K.lookup f_is_range = some ⟨oc_is_range, od_is_range, .func (PySem.W.fnOf "is_range" "is_range" (C8.fnArgs s_is_range) (C8.fnBody s_is_range) (C8.fnScope s_is_range) .none kV_is_range dc_is_range pm_is_range an_is_range cd_is_range ct_is_range), sl_is_range⟩)
    (c_is_range : PySem.W.codeIn K cd_is_range "is_range" = true)
    (k_is_range : PySem.W.keepIn K (.ref f_is_range) = true)
    (a_check_window : PySem.W.nsIn K mainGlobals "check_window" = some (some (.ref f_check_window)))
    (l_check_window : K.lookup f_check_window = some ⟨oc_check_window, od_check_window, .func (PySem.W.fnOf "check_window" "check_window" (C8.fnArgs s_check_window) (C8.fnBody s_check_window) (C8.fnScope s_check_window) .none kV_check_window dc_check_window pm_check_window an_check_window cd_check_window ct_check_window), sl_check_window⟩)
    (c_check_window : PySem.W.codeIn K cd_check_window "check_window" = true)
    (k_check_window : PySem.W.keepIn K (.ref f_check_window) = true)
    (a_check_beat : PySem.W.nsIn K mainGlobals "check_beat" = some (some (.ref f_check_beat)))
    (l_check_beat : K.lookup f_check_beat = some ⟨oc_check_beat, od_check_beat, .func (PySem.W.fnOf "check_beat" "check_beat" (C8.fnArgs s_check_beat) (C8.fnBody s_check_beat) (C8.fnScope s_check_beat) .none kV_check_beat dc_check_beat pm_check_beat an_check_beat cd_check_beat ct_check_beat), sl_check_beat⟩)
    (c_check_beat : PySem.W.codeIn K cd_check_beat "check_beat" = true)
    (k_check_beat : PySem.W.keepIn K (.ref f_check_beat) = true)
    (a_check_tasks : PySem.W.nsIn K mainGlobals "check_tasks" = some (some (.ref f_check_tasks)))
    (l_check_tasks : K.lookup f_check_tasks = some ⟨oc_check_tasks, od_check_tasks, .func (PySem.W.fnOf "check_tasks" "check_tasks" (C8.fnArgs s_check_tasks) (C8.fnBody s_check_tasks) (C8.fnScope s_check_tasks) .none kV_check_tasks dc_check_tasks pm_check_tasks an_check_tasks cd_check_tasks ct_check_tasks), sl_check_tasks⟩)
    (c_check_tasks : PySem.W.codeIn K cd_check_tasks "check_tasks" = true)
    (k_check_tasks : PySem.W.keepIn K (.ref f_check_tasks) = true)
    (a_check_searched : PySem.W.nsIn K mainGlobals "check_searched" = some (some (.ref f_check_searched)))
    (l_check_searched : K.lookup f_check_searched = some ⟨oc_check_searched, od_check_searched, .func (PySem.W.fnOf "check_searched" "check_searched" (C8.fnArgs s_check_searched) (C8.fnBody s_check_searched) (C8.fnScope s_check_searched) .none kV_check_searched dc_check_searched pm_check_searched an_check_searched cd_check_searched ct_check_searched), sl_check_searched⟩)
    (c_check_searched : PySem.W.codeIn K cd_check_searched "check_searched" = true)
    (k_check_searched : PySem.W.keepIn K (.ref f_check_searched) = true)
    (a_waits_behind : PySem.W.nsIn K mainGlobals "waits_behind" = some (some (.ref f_waits_behind)))
    (l_waits_behind : K.lookup f_waits_behind = some ⟨oc_waits_behind, od_waits_behind, .func (PySem.W.fnOf "waits_behind" "waits_behind" (C8.fnArgs s_waits_behind) (C8.fnBody s_waits_behind) (C8.fnScope s_waits_behind) .none kV_waits_behind dc_waits_behind pm_waits_behind an_waits_behind cd_waits_behind ct_waits_behind), sl_waits_behind⟩)
    (c_waits_behind : PySem.W.codeIn K cd_waits_behind "waits_behind" = true)
    (k_waits_behind : PySem.W.keepIn K (.ref f_waits_behind) = true)
    (a_all_waits_behind : PySem.W.nsIn K mainGlobals "all_waits_behind" = some (some (.ref f_all_waits_behind)))
    (l_all_waits_behind : K.lookup f_all_waits_behind = some ⟨oc_all_waits_behind, od_all_waits_behind, .func (PySem.W.fnOf "all_waits_behind" "all_waits_behind" (C8.fnArgs s_all_waits_behind) (C8.fnBody s_all_waits_behind) (C8.fnScope s_all_waits_behind) .none kV_all_waits_behind dc_all_waits_behind pm_all_waits_behind an_all_waits_behind cd_all_waits_behind ct_all_waits_behind), sl_all_waits_behind⟩)
    (c_all_waits_behind : PySem.W.codeIn K cd_all_waits_behind "all_waits_behind" = true)
    (k_all_waits_behind : PySem.W.keepIn K (.ref f_all_waits_behind) = true)
    (a_is_patted : PySem.W.nsIn K mainGlobals "is_patted" = some (some (.ref f_is_patted)))
    (l_is_patted : K.lookup f_is_patted = some ⟨oc_is_patted, od_is_patted, .func (PySem.W.fnOf "is_patted" "is_patted" (C8.fnArgs s_is_patted) (C8.fnBody s_is_patted) (C8.fnScope s_is_patted) .none kV_is_patted dc_is_patted pm_is_patted an_is_patted cd_is_patted ct_is_patted), sl_is_patted⟩)
    (c_is_patted : PySem.W.codeIn K cd_is_patted "is_patted" = true)
    (k_is_patted : PySem.W.keepIn K (.ref f_is_patted) = true)
    (a_bite_word : PySem.W.nsIn K mainGlobals "bite_word" = some (some (.ref f_bite_word)))
    (l_bite_word : K.lookup f_bite_word = some ⟨oc_bite_word, od_bite_word, .func (PySem.W.fnOf "bite_word" "bite_word" (C8.fnArgs s_bite_word) (C8.fnBody s_bite_word) (C8.fnScope s_bite_word) .none kV_bite_word dc_bite_word pm_bite_word an_bite_word cd_bite_word ct_bite_word), sl_bite_word⟩)
    (c_bite_word : PySem.W.codeIn K cd_bite_word "bite_word" = true)
    (k_bite_word : PySem.W.keepIn K (.ref f_bite_word) = true)
    (a_path_to : PySem.W.nsIn K mainGlobals "path_to" = some (some (.ref f_path_to)))
    (l_path_to : K.lookup f_path_to = some ⟨oc_path_to, od_path_to, .func (PySem.W.fnOf "path_to" "path_to" (C8.fnArgs s_path_to) (C8.fnBody s_path_to) (C8.fnScope s_path_to) .none kV_path_to dc_path_to pm_path_to an_path_to cd_path_to ct_path_to), sl_path_to⟩)
    (c_path_to : PySem.W.codeIn K cd_path_to "path_to" = true)
    (k_path_to : PySem.W.keepIn K (.ref f_path_to) = true)
    (a_reports_along : PySem.W.nsIn K mainGlobals "reports_along" = some (some (.ref f_reports_along)))
    (l_reports_along : K.lookup f_reports_along = some ⟨oc_reports_along, od_reports_along, .func (PySem.W.fnOf "reports_along" "reports_along" (C8.fnArgs s_reports_along) (C8.fnBody s_reports_along) (C8.fnScope s_reports_along) .none kV_reports_along dc_reports_along pm_reports_along an_reports_along cd_reports_along ct_reports_along), sl_reports_along⟩)
    (c_reports_along : PySem.W.codeIn K cd_reports_along "reports_along" = true)
    (k_reports_along : PySem.W.keepIn K (.ref f_reports_along) = true)
    (a_steady : PySem.W.nsIn K mainGlobals "steady" = some (some (.ref f_steady)))
    (l_steady : K.lookup f_steady = some ⟨oc_steady, od_steady, .func (PySem.W.fnOf "steady" "steady" (C8.fnArgs s_steady) (C8.fnBody s_steady) (C8.fnScope s_steady) .none kV_steady dc_steady pm_steady an_steady cd_steady ct_steady), sl_steady⟩)
    (c_steady : PySem.W.codeIn K cd_steady "steady" = true)
    (k_steady : PySem.W.keepIn K (.ref f_steady) = true)
    (a_law_start : PySem.W.nsIn K mainGlobals "_law_start" = some (some (.ref f_law_start)))
    (l_law_start : K.lookup f_law_start = some ⟨oc_law_start, od_law_start, .func (PySem.W.fnOf "_law_start" "_law_start" (C8.fnArgs s_law_start) (C8.fnBody s_law_start) (C8.fnScope s_law_start) .none kV_law_start dc_law_start pm_law_start an_law_start cd_law_start ct_law_start), sl_law_start⟩)
    (c_law_start : PySem.W.codeIn K cd_law_start "_law_start" = true)
    (k_law_start : PySem.W.keepIn K (.ref f_law_start) = true)
    (a_law_drawn : PySem.W.nsIn K mainGlobals "_law_drawn" = some (some (.ref f_law_drawn)))
    (l_law_drawn : K.lookup f_law_drawn = some ⟨oc_law_drawn, od_law_drawn, .func (PySem.W.fnOf "_law_drawn" "_law_drawn" (C8.fnArgs s_law_drawn) (C8.fnBody s_law_drawn) (C8.fnScope s_law_drawn) .none kV_law_drawn dc_law_drawn pm_law_drawn an_law_drawn cd_law_drawn ct_law_drawn), sl_law_drawn⟩)
    (c_law_drawn : PySem.W.codeIn K cd_law_drawn "_law_drawn" = true)
    (k_law_drawn : PySem.W.keepIn K (.ref f_law_drawn) = true)
    (a_law_kind : PySem.W.nsIn K mainGlobals "_law_kind" = some (some (.ref f_law_kind)))
    (l_law_kind : K.lookup f_law_kind = some ⟨oc_law_kind, od_law_kind, .func (PySem.W.fnOf "_law_kind" "_law_kind" (C8.fnArgs s_law_kind) (C8.fnBody s_law_kind) (C8.fnScope s_law_kind) .none kV_law_kind dc_law_kind pm_law_kind an_law_kind cd_law_kind ct_law_kind), sl_law_kind⟩)
    (c_law_kind : PySem.W.codeIn K cd_law_kind "_law_kind" = true)
    (k_law_kind : PySem.W.keepIn K (.ref f_law_kind) = true)
    (a_law_far : PySem.W.nsIn K mainGlobals "_law_far" = some (some (.ref f_law_far)))
    (l_law_far : K.lookup f_law_far = some ⟨oc_law_far, od_law_far, .func (PySem.W.fnOf "_law_far" "_law_far" (C8.fnArgs s_law_far) (C8.fnBody s_law_far) (C8.fnScope s_law_far) .none kV_law_far dc_law_far pm_law_far an_law_far cd_law_far ct_law_far), sl_law_far⟩)
    (c_law_far : PySem.W.codeIn K cd_law_far "_law_far" = true)
    (k_law_far : PySem.W.keepIn K (.ref f_law_far) = true)
    (a_law : PySem.W.nsIn K mainGlobals "law" = some (some (.ref fa0)))
    (l_law : K.lookup fa0 = some ⟨oc_law, od_law, .func (PySem.W.fnOf "law" "law" (C8.fnArgs s_law) (C8.fnBody s_law) (C8.fnScope s_law) .none kV_law dc_law pm_law an_law (.ref cc) ct_law), sl_law⟩)
    (c_law : PySem.W.codeIn K (.ref cc) "law" = true)
    (k_law : PySem.W.keepIn K (.ref fa0) = true)
    (lc : K.lookup cc = some ⟨occ, odc, .fields vsc, slc⟩)
    (v11 : vsc[11]? = some (.ref Pt))
    (hch : PySem.W.codeHdIn K cc Pt = true)
    (nPt : K.lookup Pt = none)
    (z_isinstance : PySem.W.nsIn K mainGlobals "isinstance" = some none)
    (z_len : PySem.W.nsIn K mainGlobals "len" = some none)
    (z_int : PySem.W.nsIn K mainGlobals "int" = some none)
    (z_bool : PySem.W.nsIn K mainGlobals "bool" = some none)
    (z_range : PySem.W.nsIn K mainGlobals "range" = some none)
    (z_list : PySem.W.nsIn K mainGlobals "list" = some none)
    (z_tuple : PySem.W.nsIn K mainGlobals "tuple" = some none)
    (z_str : PySem.W.nsIn K mainGlobals "str" = some none)
    (z_max : PySem.W.nsIn K mainGlobals "max" = some none)
    (z_zip : PySem.W.nsIn K mainGlobals "zip" = some none)
    (z_ValueError : PySem.W.nsIn K mainGlobals "ValueError" = some none)
    (q_GREATEST_HIGH : PySem.W.nsIn K mainGlobals "GREATEST_HIGH" = some (some (.int 1000 t_GREATEST_HIGH)))
    (q_GREATEST_BEAT : PySem.W.nsIn K mainGlobals "GREATEST_BEAT" = some (some (.int 60 t_GREATEST_BEAT)))
    (q_MOST_TASKS : PySem.W.nsIn K mainGlobals "MOST_TASKS" = some (some (.int 4 t_MOST_TASKS)))
    (q_LONGEST_TASK : PySem.W.nsIn K mainGlobals "LONGEST_TASK" = some (some (.int 60 t_LONGEST_TASK)))
    (q_MOST_SEARCHED_TASKS : PySem.W.nsIn K mainGlobals "MOST_SEARCHED_TASKS" = some (some (.int 2 t_MOST_SEARCHED_TASKS)))
    (q_LONGEST_SEARCHED_TASK : PySem.W.nsIn K mainGlobals "LONGEST_SEARCHED_TASK" = some (some (.int 8 t_LONGEST_SEARCHED_TASK)))
    (q_GREATEST_SEARCHED_BEAT : PySem.W.nsIn K mainGlobals "GREATEST_SEARCHED_BEAT" = some (some (.int 6 t_GREATEST_SEARCHED_BEAT)))
    (q_GREATEST_SEARCHED_HIGH : PySem.W.nsIn K mainGlobals "GREATEST_SEARCHED_HIGH" = some (some (.int 24 t_GREATEST_SEARCHED_HIGH)))
    (aD : PySem.W.nsIn K mainGlobals "DogError" = some (some (.ref CD)))
    (aC0 : PySem.W.nsIn K mainGlobals "BadWindow" = some (some (.ref C_0)))
    (aC1 : PySem.W.nsIn K mainGlobals "BadPlan" = some (some (.ref C_1)))
    (aC2 : PySem.W.nsIn K mainGlobals "BadDelays" = some (some (.ref C_2)))
    (aC3 : PySem.W.nsIn K mainGlobals "BadWorks" = some (some (.ref C_3)))
    (aC4 : PySem.W.nsIn K mainGlobals "NoPats" = some (some (.ref C_4)))
    (aC5 : PySem.W.nsIn K mainGlobals "NoPlace" = some (some (.ref C_5)))
    (aC6 : PySem.W.nsIn K mainGlobals "BadTasks" = some (some (.ref C_6)))
    (aC7 : PySem.W.nsIn K mainGlobals "BadBeat" = some (some (.ref C_7)))
    (aC8 : PySem.W.nsIn K mainGlobals "TooMuch" = some (some (.ref C_8)))
    (bD : PySem.W.subIn K (.ref CD) (.type "BaseException") = some true)
    (hD : PySem.W.hasDictIn K CD = true)
    (tD : PySem.W.typeIn K (.ref CD) = some (.type "type"))
    (xn : PySem.W.specialIn K (.builtin "object.__class__") "__get__" = some (some (.builtin "getset_descriptor.__get__")))
    (xt : PySem.W.takesIn K (.builtin "object.__class__") = some true)
    (x0 : PySem.W.excIn K C_0 [.type "ValueError", .type "Exception", .type "BaseException", .type "object"] "ValueError.__new__" = true)
    (kk0 : PySem.W.keepIn K (.ref C_0) = true)
    (b0 : PySem.W.subIn K (.ref C_0) (.type "BaseException") = some true)
    (t0 : PySem.W.typeIn K (.ref C_0) = some (.type "type"))
    (hg0 : PySem.W.findIn K (.ref C_0) "__getattribute__" = some (some (.builtin "BaseException.__getattribute__")))
    (hk0 : PySem.W.findIn K (.ref C_0) "__getattr__" = some none)
    (hd0 : PySem.W.hasDictIn K C_0 = true)
    (ha0 : PySem.W.findIn K (.ref C_0) "__class__" = some (some (.builtin "object.__class__")))
    (hm0 : PySem.W.mroIn K C_0 (.type "object") = some true)
    (sD0 : PySem.W.subIn K (.ref C_0) (.ref CD) = some true)
    (kv0 : PySem.W.kitOne K (.ref C_0) (.type "ValueError") = some true)
    (ki0_0 : PySem.W.kitOne K (.ref C_0) (.ref C_0) = some true)
    (ki0_1 : PySem.W.kitOne K (.ref C_0) (.ref C_1) = some false)
    (ki0_2 : PySem.W.kitOne K (.ref C_0) (.ref C_2) = some false)
    (ki0_3 : PySem.W.kitOne K (.ref C_0) (.ref C_3) = some false)
    (ki0_4 : PySem.W.kitOne K (.ref C_0) (.ref C_4) = some false)
    (ki0_5 : PySem.W.kitOne K (.ref C_0) (.ref C_5) = some false)
    (ki0_6 : PySem.W.kitOne K (.ref C_0) (.ref C_6) = some false)
    (ki0_7 : PySem.W.kitOne K (.ref C_0) (.ref C_7) = some false)
    (ki0_8 : PySem.W.kitOne K (.ref C_0) (.ref C_8) = some false)
    (x6 : PySem.W.excIn K C_6 [.type "ValueError", .type "Exception", .type "BaseException", .type "object"] "ValueError.__new__" = true)
    (kk6 : PySem.W.keepIn K (.ref C_6) = true)
    (b6 : PySem.W.subIn K (.ref C_6) (.type "BaseException") = some true)
    (t6 : PySem.W.typeIn K (.ref C_6) = some (.type "type"))
    (hg6 : PySem.W.findIn K (.ref C_6) "__getattribute__" = some (some (.builtin "BaseException.__getattribute__")))
    (hk6 : PySem.W.findIn K (.ref C_6) "__getattr__" = some none)
    (hd6 : PySem.W.hasDictIn K C_6 = true)
    (ha6 : PySem.W.findIn K (.ref C_6) "__class__" = some (some (.builtin "object.__class__")))
    (hm6 : PySem.W.mroIn K C_6 (.type "object") = some true)
    (sD6 : PySem.W.subIn K (.ref C_6) (.ref CD) = some true)
    (kv6 : PySem.W.kitOne K (.ref C_6) (.type "ValueError") = some true)
    (ki6_0 : PySem.W.kitOne K (.ref C_6) (.ref C_0) = some false)
    (ki6_1 : PySem.W.kitOne K (.ref C_6) (.ref C_1) = some false)
    (ki6_2 : PySem.W.kitOne K (.ref C_6) (.ref C_2) = some false)
    (ki6_3 : PySem.W.kitOne K (.ref C_6) (.ref C_3) = some false)
    (ki6_4 : PySem.W.kitOne K (.ref C_6) (.ref C_4) = some false)
    (ki6_5 : PySem.W.kitOne K (.ref C_6) (.ref C_5) = some false)
    (ki6_6 : PySem.W.kitOne K (.ref C_6) (.ref C_6) = some true)
    (ki6_7 : PySem.W.kitOne K (.ref C_6) (.ref C_7) = some false)
    (ki6_8 : PySem.W.kitOne K (.ref C_6) (.ref C_8) = some false)
    (x7 : PySem.W.excIn K C_7 [.type "ValueError", .type "Exception", .type "BaseException", .type "object"] "ValueError.__new__" = true)
    (kk7 : PySem.W.keepIn K (.ref C_7) = true)
    (b7 : PySem.W.subIn K (.ref C_7) (.type "BaseException") = some true)
    (t7 : PySem.W.typeIn K (.ref C_7) = some (.type "type"))
    (hg7 : PySem.W.findIn K (.ref C_7) "__getattribute__" = some (some (.builtin "BaseException.__getattribute__")))
    (hk7 : PySem.W.findIn K (.ref C_7) "__getattr__" = some none)
    (hd7 : PySem.W.hasDictIn K C_7 = true)
    (ha7 : PySem.W.findIn K (.ref C_7) "__class__" = some (some (.builtin "object.__class__")))
    (hm7 : PySem.W.mroIn K C_7 (.type "object") = some true)
    (sD7 : PySem.W.subIn K (.ref C_7) (.ref CD) = some true)
    (kv7 : PySem.W.kitOne K (.ref C_7) (.type "ValueError") = some true)
    (ki7_0 : PySem.W.kitOne K (.ref C_7) (.ref C_0) = some false)
    (ki7_1 : PySem.W.kitOne K (.ref C_7) (.ref C_1) = some false)
    (ki7_2 : PySem.W.kitOne K (.ref C_7) (.ref C_2) = some false)
    (ki7_3 : PySem.W.kitOne K (.ref C_7) (.ref C_3) = some false)
    (ki7_4 : PySem.W.kitOne K (.ref C_7) (.ref C_4) = some false)
    (ki7_5 : PySem.W.kitOne K (.ref C_7) (.ref C_5) = some false)
    (ki7_6 : PySem.W.kitOne K (.ref C_7) (.ref C_6) = some false)
    (ki7_7 : PySem.W.kitOne K (.ref C_7) (.ref C_7) = some true)
    (ki7_8 : PySem.W.kitOne K (.ref C_7) (.ref C_8) = some false)
    (x8 : PySem.W.excIn K C_8 [.type "ValueError", .type "Exception", .type "BaseException", .type "object"] "ValueError.__new__" = true)
    (kk8 : PySem.W.keepIn K (.ref C_8) = true)
    (b8 : PySem.W.subIn K (.ref C_8) (.type "BaseException") = some true)
    (t8 : PySem.W.typeIn K (.ref C_8) = some (.type "type"))
    (hg8 : PySem.W.findIn K (.ref C_8) "__getattribute__" = some (some (.builtin "BaseException.__getattribute__")))
    (hk8 : PySem.W.findIn K (.ref C_8) "__getattr__" = some none)
    (hd8 : PySem.W.hasDictIn K C_8 = true)
    (ha8 : PySem.W.findIn K (.ref C_8) "__class__" = some (some (.builtin "object.__class__")))
    (hm8 : PySem.W.mroIn K C_8 (.type "object") = some true)
    (sD8 : PySem.W.subIn K (.ref C_8) (.ref CD) = some true)
    (kv8 : PySem.W.kitOne K (.ref C_8) (.type "ValueError") = some true)
    (ki8_0 : PySem.W.kitOne K (.ref C_8) (.ref C_0) = some false)
    (ki8_1 : PySem.W.kitOne K (.ref C_8) (.ref C_1) = some false)
    (ki8_2 : PySem.W.kitOne K (.ref C_8) (.ref C_2) = some false)
    (ki8_3 : PySem.W.kitOne K (.ref C_8) (.ref C_3) = some false)
    (ki8_4 : PySem.W.kitOne K (.ref C_8) (.ref C_4) = some false)
    (ki8_5 : PySem.W.kitOne K (.ref C_8) (.ref C_5) = some false)
    (ki8_6 : PySem.W.kitOne K (.ref C_8) (.ref C_6) = some false)
    (ki8_7 : PySem.W.kitOne K (.ref C_8) (.ref C_7) = some false)
    (ki8_8 : PySem.W.kitOne K (.ref C_8) (.ref C_8) = some true)
    (hT : h.get? Pt = some { cls := .none, data := .fields #[] }) :
    LamX.LawAtS l w K C8.CX0 8 63 "_law_script" mg fa h := by
  have e := hfa.symm.trans (PySem.W.mg_of X G a_law)
  cases e
  have D_is_number : C8.Def K mg "is_number" s_is_number f_is_number _ := ⟨⟨_, _, _, _, _, _, _, _, _, _, rfl, l_is_number, c_is_number⟩, PySem.W.mg_of X G a_is_number, k_is_number⟩
  have B_is_number := C8.Fun.binds (ps := ["value"]) D_is_number.fn rfl fun _ _ _ _ _ _ us hl => match us, hl with | [_], _ => rfl
  have D_is_range : C8.Def K mg "is_range" s_is_range f_is_range _ := ⟨⟨_, _, _, _, _, _, _, _, _, _, rfl, l_is_range, c_is_range⟩, PySem.W.mg_of X G a_is_range, k_is_range⟩
  have B_is_range := C8.Fun.binds (ps := ["least", "most", "limit"]) D_is_range.fn rfl fun _ _ _ _ _ _ us hl => match us, hl with | [_, _, _], _ => rfl
  have D_check_window : C8.Def K mg "check_window" s_check_window f_check_window _ := ⟨⟨_, _, _, _, _, _, _, _, _, _, rfl, l_check_window, c_check_window⟩, PySem.W.mg_of X G a_check_window, k_check_window⟩
  have B_check_window := C8.Fun.binds (ps := ["window"]) D_check_window.fn rfl fun _ _ _ _ _ _ us hl => match us, hl with | [_], _ => rfl
  have D_check_beat : C8.Def K mg "check_beat" s_check_beat f_check_beat _ := ⟨⟨_, _, _, _, _, _, _, _, _, _, rfl, l_check_beat, c_check_beat⟩, PySem.W.mg_of X G a_check_beat, k_check_beat⟩
  have B_check_beat := C8.Fun.binds (ps := ["beat"]) D_check_beat.fn rfl fun _ _ _ _ _ _ us hl => match us, hl with | [_], _ => rfl
  have D_check_tasks : C8.Def K mg "check_tasks" s_check_tasks f_check_tasks _ := ⟨⟨_, _, _, _, _, _, _, _, _, _, rfl, l_check_tasks, c_check_tasks⟩, PySem.W.mg_of X G a_check_tasks, k_check_tasks⟩
  have B_check_tasks := C8.Fun.binds (ps := ["tasks"]) D_check_tasks.fn rfl fun _ _ _ _ _ _ us hl => match us, hl with | [_], _ => rfl
  have D_check_searched : C8.Def K mg "check_searched" s_check_searched f_check_searched _ := ⟨⟨_, _, _, _, _, _, _, _, _, _, rfl, l_check_searched, c_check_searched⟩, PySem.W.mg_of X G a_check_searched, k_check_searched⟩
  have B_check_searched := C8.Fun.binds (ps := ["window", "beat", "tasks"]) D_check_searched.fn rfl fun _ _ _ _ _ _ us hl => match us, hl with | [_, _, _], _ => rfl
  have D_waits_behind : C8.Def K mg "waits_behind" s_waits_behind f_waits_behind _ := ⟨⟨_, _, _, _, _, _, _, _, _, _, rfl, l_waits_behind, c_waits_behind⟩, PySem.W.mg_of X G a_waits_behind, k_waits_behind⟩
  have B_waits_behind := C8.Fun.binds (ps := ["task", "wait"]) D_waits_behind.fn rfl fun _ _ _ _ _ _ us hl => match us, hl with | [_, _], _ => rfl
  have D_all_waits_behind : C8.Def K mg "all_waits_behind" s_all_waits_behind f_all_waits_behind _ := ⟨⟨_, _, _, _, _, _, _, _, _, _, rfl, l_all_waits_behind, c_all_waits_behind⟩, PySem.W.mg_of X G a_all_waits_behind, k_all_waits_behind⟩
  have B_all_waits_behind := C8.Fun.binds (ps := ["tasks", "waits"]) D_all_waits_behind.fn rfl fun _ _ _ _ _ _ us hl => match us, hl with | [_, _], _ => rfl
  have D_is_patted : C8.Def K mg "is_patted" s_is_patted f_is_patted _ := ⟨⟨_, _, _, _, _, _, _, _, _, _, rfl, l_is_patted, c_is_patted⟩, PySem.W.mg_of X G a_is_patted, k_is_patted⟩
  have B_is_patted := C8.Fun.binds (ps := ["beat", "gap", "waits"]) D_is_patted.fn rfl fun _ _ _ _ _ _ us hl => match us, hl with | [_, _, _], _ => rfl
  have D_bite_word : C8.Def K mg "bite_word" s_bite_word f_bite_word _ := ⟨⟨_, _, _, _, _, _, _, _, _, _, rfl, l_bite_word, c_bite_word⟩, PySem.W.mg_of X G a_bite_word, k_bite_word⟩
  have B_bite_word := C8.Fun.binds (ps := ["window", "beat", "gap", "waits"]) D_bite_word.fn rfl fun _ _ _ _ _ _ us hl => match us, hl with | [_, _, _, _], _ => rfl
  have D_path_to : C8.Def K mg "path_to" s_path_to f_path_to _ := ⟨⟨_, _, _, _, _, _, _, _, _, _, rfl, l_path_to, c_path_to⟩, PySem.W.mg_of X G a_path_to, k_path_to⟩
  have B_path_to := C8.Fun.binds (ps := ["ahead", "step"]) D_path_to.fn rfl fun _ _ _ _ _ _ us hl => match us, hl with | [_, _], _ => rfl
  have D_reports_along : C8.Def K mg "reports_along" s_reports_along f_reports_along _ := ⟨⟨_, _, _, _, _, _, _, _, _, _, rfl, l_reports_along, c_reports_along⟩, PySem.W.mg_of X G a_reports_along, k_reports_along⟩
  have B_reports_along := C8.Fun.binds (ps := ["tasks", "path"]) D_reports_along.fn rfl fun _ _ _ _ _ _ us hl => match us, hl with | [_, _], _ => rfl
  have D_steady : C8.Def K mg "steady" s_steady f_steady _ := ⟨⟨_, _, _, _, _, _, _, _, _, _, rfl, l_steady, c_steady⟩, PySem.W.mg_of X G a_steady, k_steady⟩
  have B_steady := C8.Fun.binds (ps := ["window", "beat", "tasks"]) D_steady.fn rfl fun _ _ _ _ _ _ us hl => match us, hl with | [_, _, _], _ => rfl
  have D_law_start : C8.Def K mg "_law_start" s_law_start f_law_start _ := ⟨⟨_, _, _, _, _, _, _, _, _, _, rfl, l_law_start, c_law_start⟩, PySem.W.mg_of X G a_law_start, k_law_start⟩
  have B_law_start := C8.Fun.binds (ps := ["_law_script"]) D_law_start.fn rfl fun _ _ _ _ _ _ us hl => match us, hl with | [_], _ => rfl
  have D_law_drawn : C8.Def K mg "_law_drawn" s_law_drawn f_law_drawn _ := ⟨⟨_, _, _, _, _, _, _, _, _, _, rfl, l_law_drawn, c_law_drawn⟩, PySem.W.mg_of X G a_law_drawn, k_law_drawn⟩
  have B_law_drawn := C8.Fun.binds (ps := ["_law_state", "_law_many"]) D_law_drawn.fn rfl fun _ _ _ _ _ _ us hl => match us, hl with | [_, _], _ => rfl
  have D_law_kind : C8.Def K mg "_law_kind" s_law_kind f_law_kind _ := ⟨⟨_, _, _, _, _, _, _, _, _, _, rfl, l_law_kind, c_law_kind⟩, PySem.W.mg_of X G a_law_kind, k_law_kind⟩
  have B_law_kind := C8.Fun.binds (ps := ["_law_work"]) D_law_kind.fn rfl fun _ _ _ _ _ _ us hl => match us, hl with | [_], _ => rfl
  have D_law_far : C8.Def K mg "_law_far" s_law_far f_law_far _ := ⟨⟨_, _, _, _, _, _, _, _, _, _, rfl, l_law_far, c_law_far⟩, PySem.W.mg_of X G a_law_far, k_law_far⟩
  have B_law_far := C8.Fun.binds (ps := ["_law_state", "_law_most"]) D_law_far.fn rfl fun _ _ _ _ _ _ us hl => match us, hl with | [_, _], _ => rfl
  have R : Refs K mg CD [C_0, C_1, C_2, C_3, C_4, C_5, C_6, C_7, C_8] :=
    ⟨PySem.W.mg_none_of X G z_isinstance, PySem.W.mg_none_of X G z_ValueError, PySem.W.mg_of X G aD, ⟨_, rfl, PySem.W.mg_of X G aC0⟩, ⟨_, rfl, PySem.W.mg_of X G aC1⟩, ⟨_, rfl, PySem.W.mg_of X G aC2⟩, ⟨_, rfl, PySem.W.mg_of X G aC3⟩, ⟨_, rfl, PySem.W.mg_of X G aC4⟩, ⟨_, rfl, PySem.W.mg_of X G aC5⟩, ⟨_, rfl, PySem.W.mg_of X G aC6⟩, ⟨_, rfl, PySem.W.mg_of X G aC7⟩, ⟨_, rfl, PySem.W.mg_of X G aC8⟩⟩
  have R0 : IsRef K CD [C_0, C_1, C_2, C_3, C_4, C_5, C_6, C_7, C_8] 0 C_0 := by
    refine ⟨rfl, ⟨hg0, hk0, b0, hd0, ha0, xn, xt, hm0⟩, PySem.W.exm_ref bD hD tD sD0, kv0, fun j C' e => ?_⟩
    match j, e with
    | 0, e => cases e; exact ki0_0
    | 1, e => cases e; exact ki0_1
    | 2, e => cases e; exact ki0_2
    | 3, e => cases e; exact ki0_3
    | 4, e => cases e; exact ki0_4
    | 5, e => cases e; exact ki0_5
    | 6, e => cases e; exact ki0_6
    | 7, e => cases e; exact ki0_7
    | 8, e => cases e; exact ki0_8
  have R6 : IsRef K CD [C_0, C_1, C_2, C_3, C_4, C_5, C_6, C_7, C_8] 6 C_6 := by
    refine ⟨rfl, ⟨hg6, hk6, b6, hd6, ha6, xn, xt, hm6⟩, PySem.W.exm_ref bD hD tD sD6, kv6, fun j C' e => ?_⟩
    match j, e with
    | 0, e => cases e; exact ki6_0
    | 1, e => cases e; exact ki6_1
    | 2, e => cases e; exact ki6_2
    | 3, e => cases e; exact ki6_3
    | 4, e => cases e; exact ki6_4
    | 5, e => cases e; exact ki6_5
    | 6, e => cases e; exact ki6_6
    | 7, e => cases e; exact ki6_7
    | 8, e => cases e; exact ki6_8
  have R7 : IsRef K CD [C_0, C_1, C_2, C_3, C_4, C_5, C_6, C_7, C_8] 7 C_7 := by
    refine ⟨rfl, ⟨hg7, hk7, b7, hd7, ha7, xn, xt, hm7⟩, PySem.W.exm_ref bD hD tD sD7, kv7, fun j C' e => ?_⟩
    match j, e with
    | 0, e => cases e; exact ki7_0
    | 1, e => cases e; exact ki7_1
    | 2, e => cases e; exact ki7_2
    | 3, e => cases e; exact ki7_3
    | 4, e => cases e; exact ki7_4
    | 5, e => cases e; exact ki7_5
    | 6, e => cases e; exact ki7_6
    | 7, e => cases e; exact ki7_7
    | 8, e => cases e; exact ki7_8
  have R8 : IsRef K CD [C_0, C_1, C_2, C_3, C_4, C_5, C_6, C_7, C_8] 8 C_8 := by
    refine ⟨rfl, ⟨hg8, hk8, b8, hd8, ha8, xn, xt, hm8⟩, PySem.W.exm_ref bD hD tD sD8, kv8, fun j C' e => ?_⟩
    match j, e with
    | 0, e => cases e; exact ki8_0
    | 1, e => cases e; exact ki8_1
    | 2, e => cases e; exact ki8_2
    | 3, e => cases e; exact ki8_3
    | 4, e => cases e; exact ki8_4
    | 5, e => cases e; exact ki8_5
    | 6, e => cases e; exact ki8_6
    | 7, e => cases e; exact ki8_7
    | 8, e => cases e; exact ki8_8
  have T : Txt K mg C_0 C_7 C_6 C_8 := ⟨PySem.W.mg_none_of X G z_isinstance, PySem.W.mg_none_of X G z_len, PySem.W.mg_none_of X G z_int, PySem.W.mg_none_of X G z_bool, PySem.W.mg_none_of X G z_range, PySem.W.mg_none_of X G z_list, PySem.W.mg_none_of X G z_tuple, PySem.W.mg_none_of X G z_str, PySem.W.mg_none_of X G z_max, PySem.W.mg_none_of X G z_zip, ⟨_, PySem.W.mg_of X G q_GREATEST_HIGH⟩, ⟨_, PySem.W.mg_of X G q_GREATEST_BEAT⟩, ⟨_, PySem.W.mg_of X G q_MOST_TASKS⟩, ⟨_, PySem.W.mg_of X G q_LONGEST_TASK⟩, ⟨_, PySem.W.mg_of X G q_MOST_SEARCHED_TASKS⟩, ⟨_, PySem.W.mg_of X G q_LONGEST_SEARCHED_TASK⟩, ⟨_, PySem.W.mg_of X G q_GREATEST_SEARCHED_BEAT⟩, ⟨_, PySem.W.mg_of X G q_GREATEST_SEARCHED_HIGH⟩, PySem.W.mg_of X G aC0, x0, kk0, b0, t0, PySem.W.mg_of X G aC7, x7, kk7, b7, t7, PySem.W.mg_of X G aC6, x6, kk6, b6, t6, PySem.W.mg_of X G aC8, x8, kk8, b8, t8⟩
  refine ⟨PySem.W.fnOf "law" "law" (C8.fnArgs s_law) (C8.fnBody s_law) (C8.fnScope s_law) .none kV_law dc_law pm_law an_law (.ref cc) ct_law, [(cc, Pt)], sp_law K Pt, fun p hp => by rw [List.mem_singleton.mp hp]; exact hT, fun p hp => by rw [List.mem_singleton.mp hp]; exact nPt, fun p hp => by rw [List.mem_singleton.mp hp]; exact PySem.W.codeHd_of_K X hch, fun s u => .of_eq rfl,
    fun H a ns hl _ ht hs => ⟨a, ns, rfl, hs, hl, ht _ (List.mem_singleton.mpr rfl), fun _ => rfl⟩, fun base KB GB tb => ?_⟩
  have g0 := ok_is_number (P := l.prog) (w := w) (base := base) T D_is_number B_is_number
  have g1 := ok_is_range T D_is_range B_is_range g0
  have g2 := ok_check_window T D_check_window B_check_window g1
  have g3 := ok_check_beat T D_check_beat B_check_beat g0
  have g4 := ok_check_tasks T D_check_tasks B_check_tasks g1
  have g5 := ok_check_searched (P := l.prog) (w := w) (base := base) T D_check_searched B_check_searched
  have g6 := ok_waits_behind (P := l.prog) (w := w) (base := base) T D_waits_behind B_waits_behind
  have g7 := ok_all_waits T D_all_waits_behind B_all_waits_behind g6
  have g8 := ok_is_patted (P := l.prog) (w := w) (base := base) T D_is_patted B_is_patted
  have g9 := ok_bite_word T D_bite_word B_bite_word g8
  have g10 := ok_path_to (P := l.prog) (w := w) (base := base) T D_path_to B_path_to
  have g11 := ok_reports (P := l.prog) (w := w) (base := base) T D_reports_along B_reports_along
  have g12 := ok_steady T D_steady B_steady g2 g3 g4 g5 g7 g9 g8 g10 g11
  have h1 := ok_start (P := l.prog) (w := w) (base := base) T D_law_start B_law_start
  have h2 := ok_drawn (P := l.prog) (w := w) (base := base) T D_law_drawn B_law_drawn
  have h3 := ok_far T D_law_far B_law_far h2
  exact ok_law T R R0 R7 R6 R8 (tb _ (List.mem_singleton.mpr rfl)) l_law c_law D_law_kind B_law_kind h1 h2 h3 g12
end K15
open PySem PySem.W PyProof.Rows
set_option maxRecDepth 100000 in
set_option maxHeartbeats 0 in
theorem PySem.Challenge.cw_windowdog_k15_tasks_refused_holds : PySem.Challenge.rw_windowdog_k15_tasks_refused.Holds := by
  w_on; o_law; k_head; (case hw => w_witness2)
  k_fill
  refine LamX.walk_ofTs (l := PySem.Challenge.rw_windowdog_k15_tasks_refused) (n := 63) (k := 8) (x := "_law_script") (CX := fun _ => C8.CX0) rfl (by decide) rfl ⟨rfl, by decide, by decide⟩ (fun w h Y => PySem.W.km_in_of Y) ?F (fun _ _ _ _ _ z => z)
  case F =>
    intro w mg fa h Y KX G hmg
    refine' K15.law_at KX G hmg ?a_is_number ?l_is_number ?c_is_number ?k_is_number ?a_is_range ?l_is_range ?c_is_range ?k_is_range ?a_check_window ?l_check_window ?c_check_window ?k_check_window ?a_check_beat ?l_check_beat ?c_check_beat ?k_check_beat ?a_check_tasks ?l_check_tasks ?c_check_tasks ?k_check_tasks ?a_check_searched ?l_check_searched ?c_check_searched ?k_check_searched ?a_waits_behind ?l_waits_behind ?c_waits_behind ?k_waits_behind ?a_all_waits_behind ?l_all_waits_behind ?c_all_waits_behind ?k_all_waits_behind ?a_is_patted ?l_is_patted ?c_is_patted ?k_is_patted ?a_bite_word ?l_bite_word ?c_bite_word ?k_bite_word ?a_path_to ?l_path_to ?c_path_to ?k_path_to ?a_reports_along ?l_reports_along ?c_reports_along ?k_reports_along ?a_steady ?l_steady ?c_steady ?k_steady ?a_law_start ?l_law_start ?c_law_start ?k_law_start ?a_law_drawn ?l_law_drawn ?c_law_drawn ?k_law_drawn ?a_law_kind ?l_law_kind ?c_law_kind ?k_law_kind ?a_law_far ?l_law_far ?c_law_far ?k_law_far ?a_law ?l_law ?c_law ?k_law ?lc ?v11 ?hch ?nPt ?z_isinstance ?z_len ?z_int ?z_bool ?z_range ?z_list ?z_tuple ?z_str ?z_max ?z_zip ?z_ValueError ?q_GREATEST_HIGH ?q_GREATEST_BEAT ?q_MOST_TASKS ?q_LONGEST_TASK ?q_MOST_SEARCHED_TASKS ?q_LONGEST_SEARCHED_TASK ?q_GREATEST_SEARCHED_BEAT ?q_GREATEST_SEARCHED_HIGH ?aD ?aC0 ?aC1 ?aC2 ?aC3 ?aC4 ?aC5 ?aC6 ?aC7 ?aC8 ?bD ?hD ?tD ?xn ?xt ?x0 ?kk0 ?b0 ?t0 ?hg0 ?hk0 ?hd0 ?ha0 ?hm0 ?sD0 ?kv0 ?ki0_0 ?ki0_1 ?ki0_2 ?ki0_3 ?ki0_4 ?ki0_5 ?ki0_6 ?ki0_7 ?ki0_8 ?x6 ?kk6 ?b6 ?t6 ?hg6 ?hk6 ?hd6 ?ha6 ?hm6 ?sD6 ?kv6 ?ki6_0 ?ki6_1 ?ki6_2 ?ki6_3 ?ki6_4 ?ki6_5 ?ki6_6 ?ki6_7 ?ki6_8 ?x7 ?kk7 ?b7 ?t7 ?hg7 ?hk7 ?hd7 ?ha7 ?hm7 ?sD7 ?kv7 ?ki7_0 ?ki7_1 ?ki7_2 ?ki7_3 ?ki7_4 ?ki7_5 ?ki7_6 ?ki7_7 ?ki7_8 ?x8 ?kk8 ?b8 ?t8 ?hg8 ?hk8 ?hd8 ?ha8 ?hm8 ?sD8 ?kv8 ?ki8_0 ?ki8_1 ?ki8_2 ?ki8_3 ?ki8_4 ?ki8_5 ?ki8_6 ?ki8_7 ?ki8_8 ?hT
    (case a_is_number => k_is)
    (case l_is_number => k_is)
    (case c_is_number => k_is)
    (case k_is_number => k_is)
    (case a_is_range => k_is)
    (case l_is_range => k_is)
    (case c_is_range => k_is)
    (case k_is_range => k_is)
    (case a_check_window => k_is)
    (case l_check_window => k_is)
    (case c_check_window => k_is)
    (case k_check_window => k_is)
    (case a_check_beat => k_is)
    (case l_check_beat => k_is)
    (case c_check_beat => k_is)
    (case k_check_beat => k_is)
    (case a_check_tasks => k_is)
    (case l_check_tasks => k_is)
    (case c_check_tasks => k_is)
    (case k_check_tasks => k_is)
    (case a_check_searched => k_is)
    (case l_check_searched => k_is)
    (case c_check_searched => k_is)
    (case k_check_searched => k_is)
    (case a_waits_behind => k_is)
    (case l_waits_behind => k_is)
    (case c_waits_behind => k_is)
    (case k_waits_behind => k_is)
    (case a_all_waits_behind => k_is)
    (case l_all_waits_behind => k_is)
    (case c_all_waits_behind => k_is)
    (case k_all_waits_behind => k_is)
    (case a_is_patted => k_is)
    (case l_is_patted => k_is)
    (case c_is_patted => k_is)
    (case k_is_patted => k_is)
    (case a_bite_word => k_is)
    (case l_bite_word => k_is)
    (case c_bite_word => k_is)
    (case k_bite_word => k_is)
    (case a_path_to => k_is)
    (case l_path_to => k_is)
    (case c_path_to => k_is)
    (case k_path_to => k_is)
    (case a_reports_along => k_is)
    (case l_reports_along => k_is)
    (case c_reports_along => k_is)
    (case k_reports_along => k_is)
    (case a_steady => k_is)
    (case l_steady => k_is)
    (case c_steady => k_is)
    (case k_steady => k_is)
    (case a_law_start => k_is)
    (case l_law_start => k_is)
    (case c_law_start => k_is)
    (case k_law_start => k_is)
    (case a_law_drawn => k_is)
    (case l_law_drawn => k_is)
    (case c_law_drawn => k_is)
    (case k_law_drawn => k_is)
    (case a_law_kind => k_is)
    (case l_law_kind => k_is)
    (case c_law_kind => k_is)
    (case k_law_kind => k_is)
    (case a_law_far => k_is)
    (case l_law_far => k_is)
    (case c_law_far => k_is)
    (case k_law_far => k_is)
    (case a_law => k_is)
    (case l_law => k_is)
    (case c_law => k_is)
    (case k_law => k_is)
    (case lc => k_is)
    (case v11 => exact rfl)
    (case hch => kernel_rfl)
    (case nPt => kernel_rfl)
    (case z_isinstance => k_is)
    (case z_len => k_is)
    (case z_int => k_is)
    (case z_bool => k_is)
    (case z_range => k_is)
    (case z_list => k_is)
    (case z_tuple => k_is)
    (case z_str => k_is)
    (case z_max => k_is)
    (case z_zip => k_is)
    (case z_ValueError => k_is)
    (case q_GREATEST_HIGH => k_is)
    (case q_GREATEST_BEAT => k_is)
    (case q_MOST_TASKS => k_is)
    (case q_LONGEST_TASK => k_is)
    (case q_MOST_SEARCHED_TASKS => k_is)
    (case q_LONGEST_SEARCHED_TASK => k_is)
    (case q_GREATEST_SEARCHED_BEAT => k_is)
    (case q_GREATEST_SEARCHED_HIGH => k_is)
    (case aD => k_is)
    (case aC0 => k_is)
    (case aC1 => k_is)
    (case aC2 => k_is)
    (case aC3 => k_is)
    (case aC4 => k_is)
    (case aC5 => k_is)
    (case aC6 => k_is)
    (case aC7 => k_is)
    (case aC8 => k_is)
    (case bD => k_is)
    (case hD => k_is)
    (case tD => k_is)
    (case xn => k_is)
    (case xt => k_is)
    (case x0 => k_exc)
    (case kk0 => k_is)
    (case b0 => k_is)
    (case t0 => k_is)
    (case hg0 => k_is)
    (case hk0 => k_is)
    (case hd0 => k_is)
    (case ha0 => k_is)
    (case hm0 => k_is)
    (case sD0 => k_is)
    (case kv0 => kernel_rfl)
    (case ki0_0 => kernel_rfl)
    (case ki0_1 => kernel_rfl)
    (case ki0_2 => kernel_rfl)
    (case ki0_3 => kernel_rfl)
    (case ki0_4 => kernel_rfl)
    (case ki0_5 => kernel_rfl)
    (case ki0_6 => kernel_rfl)
    (case ki0_7 => kernel_rfl)
    (case ki0_8 => kernel_rfl)
    (case x6 => k_exc)
    (case kk6 => k_is)
    (case b6 => k_is)
    (case t6 => k_is)
    (case hg6 => k_is)
    (case hk6 => k_is)
    (case hd6 => k_is)
    (case ha6 => k_is)
    (case hm6 => k_is)
    (case sD6 => k_is)
    (case kv6 => kernel_rfl)
    (case ki6_0 => kernel_rfl)
    (case ki6_1 => kernel_rfl)
    (case ki6_2 => kernel_rfl)
    (case ki6_3 => kernel_rfl)
    (case ki6_4 => kernel_rfl)
    (case ki6_5 => kernel_rfl)
    (case ki6_6 => kernel_rfl)
    (case ki6_7 => kernel_rfl)
    (case ki6_8 => kernel_rfl)
    (case x7 => k_exc)
    (case kk7 => k_is)
    (case b7 => k_is)
    (case t7 => k_is)
    (case hg7 => k_is)
    (case hk7 => k_is)
    (case hd7 => k_is)
    (case ha7 => k_is)
    (case hm7 => k_is)
    (case sD7 => k_is)
    (case kv7 => kernel_rfl)
    (case ki7_0 => kernel_rfl)
    (case ki7_1 => kernel_rfl)
    (case ki7_2 => kernel_rfl)
    (case ki7_3 => kernel_rfl)
    (case ki7_4 => kernel_rfl)
    (case ki7_5 => kernel_rfl)
    (case ki7_6 => kernel_rfl)
    (case ki7_7 => kernel_rfl)
    (case ki7_8 => kernel_rfl)
    (case x8 => k_exc)
    (case kk8 => k_is)
    (case b8 => k_is)
    (case t8 => k_is)
    (case hg8 => k_is)
    (case hk8 => k_is)
    (case hd8 => k_is)
    (case ha8 => k_is)
    (case hm8 => k_is)
    (case sD8 => k_is)
    (case kv8 => kernel_rfl)
    (case ki8_0 => kernel_rfl)
    (case ki8_1 => kernel_rfl)
    (case ki8_2 => kernel_rfl)
    (case ki8_3 => kernel_rfl)
    (case ki8_4 => kernel_rfl)
    (case ki8_5 => kernel_rfl)
    (case ki8_6 => kernel_rfl)
    (case ki8_7 => kernel_rfl)
    (case ki8_8 => kernel_rfl)
    (case hT => exact PySem.W.km_tabs_of Y _ (by k_mem))
