import PyProof.Rows.All
import Wide.All
import OpenK.AllK
import Wide.FinOn
import KE.KStateDown
import Lean
import HandS.Base
import HandS.Call
import HandS.List
import HandS.Comp
import HandS.Ends
import HandS.Dict
import HandS.Iter
import HandS.Exc
import HandS.TryOnly
import HandS.ExcOwn
import HandS.Words
import HandS.WordsList
import HandS.WordsDict
import HandS.WordsExc
import HandS.Wide
import HandS.IsInst
import HandS.ExcIs
import HandS.Defaults
import HandS.More
import HandS.Star
import HandS.ClsMeth
import HandS.MakeKw
import HandS.MakeKwOnly
import HandS.Conv
import HandS.TupMul
import HandS.TupLe
import HandS.Flow
import HandS.Zip
import HandS.CallLocal
import HandS.Head0
import HandS.Head1
import HandS.Head2
import HandS.HeadEnd
import HandS.HeadHook1
import HandS.HeadHook2
import PyProof.ReprLen
import HandS.TupAny
import HandS.Codes
import PySem.Challenge.RW_sampleweave_k13_gains_turned
set_option Elab.async false
set_option linter.all false
set_option maxRecDepth 100000
set_option maxHeartbeats 0
namespace L2
open PySem PySem.Spec PyProof.Rows
/-! ## Own words, 1: defs that are called where no repr is under way -/
/-- as FnOk, but called only while no guard (a repr under way) is around -/
structure FnG (P : Program) (w : World) (K : PySem.W.Frag) (mg : Str → Option Value) (base : Heap) (CX : CXT) (k : Nat) (f : Addr) (fd : FuncData) (ps : List Str) (sp : Sp) : Prop where
  size : ∀ vs H Q E, sp vs H Q E → vs.length = ps.length
  goes : ∀ (A : Around) (outer : List Env) (s : Shared) (H : Hp) (args : Args) (us : List Value) (vs : List V) (Q : VK) (E : XK), Room k A → A.guards = some [] → Env0 P w K mg base A outer s H →
    BindsTo s fd args (ps.zip us) → Vals vs us → sp vs H Q E → codeAny (model P w) A (.call (.ref f) args) (CR CX outer P w H s Q E) s
section
variable {P : Program} {w : World} {K : PySem.W.Frag} {mg : Str → Option Value} {base : Heap} {CX : CXT} {k : Nat} {f : Addr} {fd : FuncData} {ps N : List Str} {sp : Sp} {x qual : Str} {params : Arguments} {body : List Stmt} {scope : Scope} {dvs : List V} {kws : List (Str × V)}
/-- a def's body, where the guards are known -/
theorem FunD.okG (F : FunD K x qual params body scope dvs kws f fd) (S : FnScope N ps scope) (size : ∀ vs H Q E, sp vs H Q E → vs.length = ps.length)
    (does : ∀ (cdv : Value) (A : Around) (outer : List Env) (s : Shared) (H : Hp) (vs : List V) (Q : VK) (E : XK), Room k (A.deeper (envOfC qual scope s.heap.objs.size f cdv)) → A.guards = some [] → sp vs H Q E →
      ∃ t, PSs (cxOf CX P w K mg base N qual scope f cdv A outer s H E) body t ∧ t { nx := fun _ H' => Q .non H', rt := Q } (start N vs) H) : FnG P w K mg base CX (k + 1) f fd ps sp := by
  obtain ⟨oc, od, dV, kV, doc, pm, an, cdv, ct, osl, rfl, lk, hcd, _, _⟩ := F.ex
  refine ⟨size, fun A outer s H args us vs Q E room guard env bind rel prom => ?_⟩
  have only : StX.Bnd CX P w K mg base (PySem.W.fnOf x qual params body scope dV kV doc pm an cdv ct) args ps A outer s H E (fun vs' H' => vs' = vs ∧ H' = H) :=
    fun A' Ex Q' h' => bind _ _ _ _ (h' s H vs us env Un.refl rfl (fun _ _ z => z) rel (size _ _ _ _ prom) ⟨rfl, rfl⟩)
  refine StX.run_bnd (k := k) lk hcd S room env only fun s2 H2 vs2 same room2 => ?_
  obtain ⟨rfl, rfl⟩ := same
  exact does cdv A outer s2 H2 vs2 Q E room2 guard prom
/-- a plain def is one of these too -/
theorem FnOk.toG (F : FnOk P w K mg base CX k f fd ps sp) : FnG P w K mg base CX k f fd ps sp := ⟨F.len, fun A outer s H args us vs Q E room _ env bind rel prom => F.run A outer s H args us vs Q E room env bind rel prom⟩
end
section
variable {X : Cx} {CX : CXT} {k i : Nat} {f : Addr} {fd : FuncData} {ps : List Str} {sp : Sp} {dvs : List V} {ds : List Value} {E : XK} {x : Str} {p pos : Pos} {e : Expr} {es : List Expr} {t : TA}
theorem goes_fn {pins : List (Addr × Obj)} {σ : St} {H : Hp} {s : Shared} {Q : VK} {us : List Value} {vs : List V} (F : FnG X.prog X.w X.K X.mg X.base CX k f fd ps sp) (room : Room k X.A) (guard : X.A.guards = some []) (hb : Binds X.K fd ps ds) (hd : Vals dvs ds)
    (hx : Passes CX X E) (I : Inv X pins σ H s) (rel : Vals vs us) (prom : sp (vs ++ dvs) H Q E) : wpAny (model X.prog X.w) X.A (call (.ref f) us) (EP X pins σ Q) X.xe s := by
  have both := rel.append hd
  have many : (us ++ ds).length = ps.length := both.length.symm.trans (F.size _ _ _ _ prom)
  refine wpAny_call (codeAny_mono (F.goes X.A X.stack s H ⟨us, []⟩ (us ++ ds) (vs ++ dvs) Q E room guard I.env0 (hb s us I.kIn many) both prom) ?_)
  rintro (_ | u | _ | _ | _ ) s' z
  all_goals first
    | exact hx pins σ H s _ s' I z
    | exact I.after z
    | exact z.elim
theorem pe_callG (F : FnG X.prog X.w X.K X.mg X.base CX k f fd ps sp) (room : Room k X.A) (guard : X.A.guards = some []) (hg : Gl X x) (hm : X.mg x = some (.ref f)) (hk : PySem.W.keepIn X.K (.ref f) = true) (hb : Binds X.K fd ps ds) (hd : Vals dvs ds)
    (hx : Passes CX X E) (ha : PA X (e :: es) t) (hdb : (x == ("__debug__" : Str)) = false := by decide) (he : starEach (e :: es) X.env = (false, eval e X.env) :: starEach es X.env := by rfl)
    (hpl : (backTo pos (starEach es X.env)).any (·.1) = false := by rfl) : PE X (.Call (.Name x p) (e :: es) [] pos) (tCall sp dvs E t) := by
  refine ⟨fun pins s σ H Q I h => wpAny_Call_Name_kw (ld_glob I hg hm ?_ hdb)⟩
  exact PySem.W.callWith_K (h₀ := X.base) I.ok.mod.kin hk (thn (ha.run pos pins s σ H _ I h) fun us s1 ⟨vs, H1, I1, r, q⟩ => ⟨I1.kIn, goes_fn F room guard hb hd hx I1 r q⟩) he hpl
end
/-- the law's call, its def being one of these -/
theorem law_goes {P : Program} {w : World} {K : PySem.W.Frag} {mg mb : Str → Option Value} {CX : CXT} {k : Nat} {fa a : Addr} {fd : FuncData} {x : Str} {sp : Sp} {s₁ : Shared} {vs : List Value} {ns : List Int}
    (inK : K.In s₁.heap) (glob : s₁.heap.Ns mainGlobals mg) (blt : s₁.heap.Ns builtinsNs mb) (boot : ∀ x : Str, x ≠ "__name__" → mb x = bootBuiltins x) (lim : s₁.heap.NoLimit) (gens : s₁.gens = #[])
    (scr : s₁.heap.get? a = some { cls := .type "list", data := .seq vs.toArray }) (nums : IntsAre vs ns) (few : ns.length ≤ sizeLine) (room : Room k callerA)
    (F : ∀ base : Heap, K.In base → base.Ns mainGlobals mg → FnG P w K mg base CX k fa fd [x] sp) (bind : ∀ (s : Shared) (u : Value), BindsTo s fd ⟨[u], []⟩ [(x, u)])
    (prom : ∀ H : Hp, Only H → SqL K H a (ns.map V.int) → sp [.ref a] H (fun v _ => v = .bl true) fun _ _ _ => False) (none_out : ∀ H e s', CX [] H s₁ (fun _ _ _ => False) e s' → False) :
    codeAny (model P w) callerA (.call (.ref fa) ⟨[.ref a], []⟩) (fun r s' => r = .ok (.ret (.bool true)) ∧ OldK s₁.heap s'.heap ∧ s'.os = s₁.os ∧ AllBare s'.gens) s₁ := by
  have rel := vals_ints nums
  have from_heap : ∀ H : Hp, (∀ b, H b = none ∨ (b = a ∧ K.lookup a = none ∧ H b = some (.frz { cls := .type "list", data := .seq vs.toArray } (.lst (ns.map V.int))))) → SqL K H a (ns.map V.int) →
      codeAny (model P w) callerA (.call (.ref fa) ⟨[.ref a], []⟩) (fun r s' => r = .ok (.ret (.bool true)) ∧ OldK s₁.heap s'.heap ∧ s'.os = s₁.os ∧ AllBare s'.gens) s₁ := by
    intro H which seen
    have small : Only H := fun b => (which b).imp id fun z => ⟨_, _, z.2.2⟩
    have space : ∀ {b : Addr} {m : Str → Option Value}, s₁.heap.Ns b m → (hidT s₁.heap H).Ns b m := by
      rintro b m ⟨o, es, ep, e, d, r⟩
      refine ⟨o, es, ep, hidT_get e ((which b).resolve_right fun ⟨eb, _⟩ => ?_), d, r⟩
      rw [eb, scr] at e
      cases e
      cases d
    have written : K.In (hidT s₁.heap H) := fun b o e => hidT_get (inK b o e) ((which b).resolve_right fun ⟨eb, n, _⟩ => by
      rw [eb, n] at e
      cases e)
    have fits : HOk P w H s₁.heap := fun b u z => by
      rcases which b with n | ⟨rfl, _, n⟩
      · rw [n] at z
        cases z
      · rw [n] at z
        cases z
        exact ⟨scr, by rw [List.length_map]; exact few, vs, _, rel, scr⟩
    obtain ⟨mc, c1, c2⟩ := lim
    have env : Env0 P w K mg (hidT s₁.heap H) callerA [] s₁ H :=
      ⟨rfl, ⟨written, space glob, ⟨mb, space blt, boot⟩, mc, space c1, c2⟩, fun _ _ e => of_hidT e, Nat.le_of_eq (hidT_size _ _), trivial, fun _ z => (List.not_mem_nil z).elim, fits, .of_eq gens⟩
    refine codeAny_mono ((F _ written (space glob)).goes callerA [] s₁ H ⟨[.ref a], []⟩ [.ref a] [.ref a] _ _ room rfl env (bind s₁ (.ref a)) (.cons rfl .nil) (prom H small seen)) ?_
    intro res s' z
    match res, z with
    | .error e, z => exact (none_out H e s' z).elim
    | .ok .next, z => exact z.elim
    | .ok .brk, z => exact z.elim
    | .ok .cont, z => exact z.elim
    | .ok (.ret u), z =>
      obtain ⟨v, H', os, bare, un, fits', rv, (rfl : v = V.bl true)⟩ := z
      obtain rfl : u = Value.bool true := rv
      refine ⟨rfl, OldK.of_keep fun b o e => ?_, os, bare⟩
      rcases which b with n | ⟨_, _, n⟩
      · exact un.keep b o e n (fun z => (List.not_mem_nil z).elim) List.not_mem_nil
      · obtain ⟨e1, _⟩ := fits b _ n
        obtain ⟨e2, _⟩ := fits' b _ (un.frzs b _ _ n)
        rw [e] at e1
        cases e1
        exact e2
  by_cases own : K.lookup a = none
  · refine from_heap (fun b => if b = a then some (.frz { cls := .type "list", data := .seq vs.toArray } (.lst (ns.map V.int))) else none) (fun b => ?_) (.inl (.inr ⟨_, if_pos rfl⟩))
    by_cases eb : b = a
    · exact .inr ⟨eb, own, if_pos eb⟩
    · exact .inl (if_neg eb)
  · obtain ⟨o, own⟩ := Option.ne_none_iff_exists'.mp own
    have e := inK a o own
    rw [scr] at e
    cases e
    exact from_heap (fun _ => none) (fun _ => .inl rfl) (.inr ⟨_, vs.toArray, _, own, rfl, rfl, rfl, by rw [List.size_toArray, nums.length]; exact few, by simpa using rel⟩)
theorem walk_goes {l : PySem.W.OpenLaw} {n k : Nat} {q : Program} {loose : List Str} {XP : (Str → Option Value) → Heap → Prop} {YP : World → Heap → Prop} {d : DefRec} {CX : CXT} {x : Str}
    (most : l.most = some n) (few : n ≤ sizeLine) (nodef : d.params.defaults = []) (room : Room k callerA)
    (F : ∀ (w : World) (mg : Str → Option Value) (fa : Addr) (h : Heap), YP w h → h.Ns mainGlobals mg → mg d.name = some (.ref fa) →
      ∃ (K : PySem.W.Frag) (fd : FuncData) (sp : Sp), K.In h ∧ (∀ (s : Shared) (u : Value), BindsTo s fd ⟨[u], []⟩ [(x, u)]) ∧
        (∀ (H : Hp) (a : Addr) (ns : List Int), ns.length ≤ n → Only H → SqL K H a (ns.map V.int) → sp [.ref a] H (fun v _ => v = .bl true) fun _ _ _ => False) ∧
        ∀ base : Heap, K.In base → base.Ns mainGlobals mg → FnG l.prog w K mg base CX k fa fd [x] sp)
    (none_out : ∀ (H : Hp) (s : Shared) (e : Value) (s' : Shared), CX [] H s (fun _ _ _ => False) e s' → False) : PySem.W.WalkO q loose XP YP l.row.toRowW d [] (fun f vs => PySem.call f vs) := by
  refine Att.attach_call most nodef ?_
  intro w s₀ s₁ mg mb fa o pm cd doc a vs ns G Y ho hd hcd named obj nums len gens
  obtain ⟨K, fd, sp, inK, bind, prom, does⟩ := F w mg fa _ Y G.T.g named
  exact law_goes inK G.T.g G.T.b G.T.builtins G.T.nolimit gens obj nums (Nat.le_trans len few) room does bind (fun H hO hS => prom H a ns len hO hS) fun H e s' => none_out H s₁ e s'
end L2
namespace L2
open PySem PySem.Spec PyProof.Rows
/-! ## Own words, 2: repr of data; a base class's def called by the class's name -/
section
variable {X : Cx}
/-- repr(x), x a list or a tuple of data -/
def rReprD (K : PySem.W.Frag) : List V → Hp → VK → Prop := fun xs H Q => ∃ (a : Addr) (d : PyData) (S : Str), xs = [.ref a] ∧ Dp K H (.ref a) d ∧ SeqAt.shaped d = true ∧ d.showable = true ∧ d.shown.length ≤ sizeLine ∧ d.shown = S ∧ Q (.str S) H
theorem call_reprD (guard : X.A.guards = some []) (units : X.A.units + 66 < cLine) : CallR X (.builtin "repr") (rReprD X.K) := by
  intro pins s σ H xs us Q I r h
  obtain ⟨a, d, S, rfl, dp, sh, sw, sz, rfl, q⟩ := h
  obtain ⟨u, rfl, ru⟩ := vals1 r
  obtain rfl : u = Value.ref a := ru
  obtain ⟨as, rd⟩ := Dp.reads I d _ _ dp rfl
  have dep := SeqAt.depth_of_shaped sh
  exact repr_of_reads' rd sw (PyData.noDict_hsm (PyData.hasDict_of_canLay d (SeqAt.canLay_of_shaped sh))) guard (by omega) (fun _ _ e => e) (fun h' u tk hk => ⟨.str d.shown, H, I.kept (t' := tk) hk, ⟨u, rfl⟩, q⟩) sz
/-- C.m(e, ..), C a class of one's own by name, m a def of its body -/
structure BaseM (K : PySem.W.Frag) (C : Addr) (m : Str) (f : Addr) : Prop where
  rd : PySem.W.readsIn K C (.type "type") = true
  ga : PySem.W.specialIn K (.ref C) "__getattribute__" = some (some (.builtin "type.__getattribute__"))
  at_ : PySem.W.findCls K (.ref C) (.type "type") m = some (.val (.ref f))
  kp : PySem.W.keepIn K (.ref f) = true
variable {CX : CXT} {k : Nat} {f C : Addr} {fd : FuncData} {ps : List Str} {sp : Sp} {dvs : List V} {ds : List Value} {E : XK} {x m : Str} {p pos apos : Pos} {e o : Expr} {es : List Expr} {ta : TE} {t : TA}
def tBase (C : Addr) (sp : Sp) (dvs : List V) (E : XK) (ta : TE) (t : TA) : TE := fun σ H Q => ta σ H fun x H1 => x = .ref C ∧ t σ H1 fun vs H2 => sp (vs ++ dvs) H2 Q E
theorem pe_base {pl : Sem Bool} (ho : PE X o ta) (b : BaseM X.K C m f) (F : FnOk X.prog X.w X.K X.mg X.base CX k f fd ps sp) (room : Room k X.A) (hb : Binds X.K fd ps ds) (hd : Vals dvs ds) (hx : Passes CX X E) (ha : PA X (e :: es) t)
    (hst : starEach (e :: es) X.env = (false, eval e X.env) :: starEach es X.env := by rfl) (hpl : (backTo pos (starEach es X.env)).any (·.1) = false := by rfl)
    (ht : eval (.Call (.Attribute o m apos) (e :: es) [] pos) X.env = (do
      let ov ← eval o X.env
      standAt apos.atName
      let (f, first) ← holding [ov] (getMethod ov m pl)
      callWith pos f first (backTo pos (starEach (e :: es) X.env)) (backToKw pos (keywordEach [] X.env))) := by rfl) :
    PE X (.Call (.Attribute o m apos) (e :: es) [] pos) (tBase C sp dvs E ta t) := by
  refine ⟨fun pins s σ H Q I h => ?_⟩
  refine PySem.W.methodCall_KW (pl := pl) (thn (ho.run pins s σ H _ I h) fun u s1 ⟨x, H1, I1, rx, ex, q⟩ => ?_) ht
  subst ex
  obtain rfl : u = Value.ref C := rx
  refine PySem.W.method_cls I1.kIn b.ga (PySem.W.cls_value I1.kIn b.rd b.at_ rfl ?_)
  have I2 := I1.tok (s1.toks + 1)
  exact PySem.W.callWith_K (first := []) (h₀ := X.base) I.ok.mod.kin b.kp (thn (ha.run pos pins _ σ H1 _ I2 q) fun us s2 ⟨vs, H2, I3, r, q2⟩ => ⟨I3.kIn, run_fn F room hb hd hx I3 r q2⟩) hst hpl
end
/-! ### how long a repr is -/
theorem shown_sum {B : Nat} : ∀ ds : List PyData, (∀ d ∈ ds, d.shown.length ≤ B) → ((PyData.shownAll ds).map (·.length)).sum ≤ B * ds.length
  | [], _ => by rw [PyData.shownAll]; exact Nat.zero_le _
  | d :: ds, h => by
    have h1 := h d List.mem_cons_self
    have h2 := shown_sum ds fun z hz => h z (List.mem_cons_of_mem _ hz)
    rw [PyData.shownAll, List.map_cons, List.sum_cons, List.length_cons, Nat.mul_succ]
    omega
theorem shown_list {B : Nat} {ds : List PyData} (h : ∀ d ∈ ds, d.shown.length ≤ B) : (PyData.shown (.list ds)).length ≤ (B + 2) * ds.length + 3 := by
  have h1 := shown_sum ds h
  have h2 := listText_len_le (PyData.shownAll ds)
  rw [PyData.shownAll_length] at h2
  rw [PyData.shown, Nat.add_mul]
  omega
theorem shown_tuple {B : Nat} {ds : List PyData} (h : ∀ d ∈ ds, d.shown.length ≤ B) : (PyData.shown (.tuple ds)).length ≤ (B + 2) * ds.length + 3 := by
  have h1 := shown_sum ds h
  have h2 := tupleText_len_le (PyData.shownAll ds)
  rw [PyData.shownAll_length] at h2
  rw [PyData.shown, Nat.add_mul]
  omega
theorem shown_num {i : Int} (h : i.natAbs.log2 < 1920) : (PyData.shown (.int i)).length ≤ 1921 := by
  exact int_text_len_1921 h
theorem log2_of {i : Int} {b : Nat} (h : i.natAbs < 2 ^ b) (h0 : 0 < b) (h1 : b ≤ 1920) : i.natAbs.log2 < 1920 := Nat.lt_of_lt_of_le (PySem.Flt.log2_lt_of h0 h) h1
end L2
namespace L2
open PySem PySem.Spec PyProof.Rows
/-! ## Own words, 3: a method called in a try; a local that holds one of some defs -/
section
variable {X : Cx} {CX : CXT} {k i : Nat} {f C : Addr} {fd : FuncData} {ps : List Str} {sp : Sp} {E : St → XK} {x m : Str} {p pos apos : Pos} {e o : Expr} {es : List Expr} {ta : TE} {t : TA}
def tMethT (C : Addr) (m : Str) (sp : Sp) (E : St → XK) (ta : TE) (t : TA) : TE := fun σ H Q => ta σ H fun x H1 => ∃ a dx fs, x = .ref a ∧ H1 a = some (.ins C dx fs) ∧ fs.lookup m = none ∧ t σ H1 fun vs H2 => sp (x :: vs) H2 Q (E σ)
theorem pe_methT {pl : Sem Bool} (ho : PE X o ta) (c : Cls X.K C) (hm : Meth X.K C m f) (F : FnOk X.prog X.w X.K X.mg X.base CX k f fd ps sp) (room : Room k X.A) (hb : Binds X.K fd ps []) (hx : ∀ σ, PassesAt CX X σ (E σ)) (ha : PA X (e :: es) t)
    (hst : starEach (e :: es) X.env = (false, eval e X.env) :: starEach es X.env := by rfl) (hpl : (backTo pos (starEach es X.env)).any (·.1) = false := by rfl)
    (ht : eval (.Call (.Attribute o m apos) (e :: es) [] pos) X.env = (do
      let ov ← eval o X.env
      standAt apos.atName
      let (f, first) ← holding [ov] (getMethod ov m pl)
      callWith pos f first (backTo pos (starEach (e :: es) X.env)) (backToKw pos (keywordEach [] X.env))) := by rfl) :
    PE X (.Call (.Attribute o m apos) (e :: es) [] pos) (tMethT C m sp E ta t) := by
  refine ⟨fun pins s σ H Q I h => ?_⟩
  refine PySem.W.methodCall_KW (pl := pl) (thn (ho.run pins s σ H _ I h) fun u s1 ⟨x, H1, I1, rx, a, dx, fs, ex, ea, l, q⟩ => ?_) ht
  subst ex
  obtain rfl : u = Value.ref a := rx
  refine getmeth_ok I1 ea c hm l (PySem.W.callWith_K (first := [.ref a]) (h₀ := X.base) I.ok.mod.kin hm.kp (thn (ha.run pos pins s1 σ H1 _ I1 q) fun us s2 ⟨vs, H2, I2, r, q2⟩ => ⟨I2.kIn, ?_⟩) hst hpl)
  exact run_fnS (us := .ref a :: us) (vs := .ref a :: vs) F room hb (hx σ) I2 (.cons rfl r) q2
/-- the i-th slot holds one of these defs, all of one promise -/
def tOneOf (i : Nat) (fs : List Addr) (sp : Sp) (t : TA) : TE := fun σ H Q => ∃ f, f ∈ fs ∧ σ[i]? = some (some (.ref f)) ∧ t σ H fun vs H1 => sp vs H1 Q E0
theorem pe_oneOf {fs : List Addr} (F : ∀ f, f ∈ fs → ∃ fd ps, FnG X.prog X.w X.K X.mg X.base CX0 k f fd ps sp ∧ PySem.W.keepIn X.K (.ref f) = true ∧ Binds X.K fd ps []) (room : Room k X.A) (guard : X.A.guards = some []) (hN : X.N[i]? = some x) (hv : Vis X.env.scope x) (ha : PA X (e :: es) t)
    (hdb : (x == ("__debug__" : Str)) = false := by decide) (hcd : (x == ("__classdict__" : Str)) = false := by decide) (he : starEach (e :: es) X.env = (false, eval e X.env) :: starEach es X.env := by rfl)
    (hpl : (backTo pos (starEach es X.env)).any (·.1) = false := by rfl) : PE X (.Call (.Name x p) (e :: es) [] pos) (tOneOf i fs sp t) := by
  refine ⟨fun pins s σ H Q I h => ?_⟩
  obtain ⟨f, hf, hs, q0⟩ := h
  obtain ⟨fd, ps, G, kp, hb⟩ := F f hf
  have look := (pe_var (pos := p) hN hv hdb hcd).run pins s σ H (fun v H1 => v = .ref f ∧ H1 = H) I ⟨.ref f, hs, rfl, rfl⟩
  refine wpAny_Call_Name_kw (thn look fun u s1 ⟨v, H1, I1, r1, ev, eH⟩ => ?_)
  subst ev eH
  obtain rfl : u = Value.ref f := r1
  refine PySem.W.callWith_K (h₀ := X.base) I.ok.mod.kin kp (thn (ha.run pos pins s1 σ _ _ I1 q0) fun us s2 ⟨vs, H2, I2, r, q⟩ => ⟨I2.kIn, ?_⟩) he hpl
  exact goes_fn (dvs := []) (E := E0) G room guard hb .nil pass0 I2 r (by rw [List.append_nil]; exact q)
end
end L2
namespace L2
open PySem PySem.Spec PyProof.Rows
section
variable {X : Cx} {CX : CXT} {k n : Nat} {f : Addr} {fd : FuncData} {ps ks : List Str} {sp : Sp} {E : XK} {x : Str} {p pos : Pos} {kws : List Keyword} {tk : TA} {g : List Value → List Value → List Value} {gV : List V → List V → List V}
/-- f(k = v, ..): keywords alone -/
theorem pe_callK0 (F : FnOk X.prog X.w X.K X.mg X.base CX k f fd ps sp) (hr : Room k X.A) (hg : Gl X x) (hm : X.mg x = some (.ref f)) (hk : PySem.W.keepIn X.K (.ref f) = true) (hb : KBinds X.K fd ps ks g gV) (hx : Passes CX X E) (hkw : PK X kws tk)
    (hall : (backToKw pos (keywordEach kws X.env)).all (·.1.isSome) = true := by rfl) (hks : (backToKw pos (keywordEach kws X.env)).filterMap (·.1) = ks := by rfl) (hdb : (x == ("__debug__" : Str)) = false := by decide)
    (hpl : ((backTo pos (starEach [] X.env)).any (·.1) || (backToKw pos (keywordEach kws X.env)).any (·.1.isNone)) = false := by rfl) :
    PE X (.Call (.Name x p) [] kws pos) (tCallK sp gV E tNil tk) := by
  refine ⟨fun pins s σ H Q I h => ?_⟩
  refine wpAny_Call_Name_kw (ld_glob I hg hm ?_ hdb)
  refine PySem.W.callWith_KW0 (h₀ := X.base) I.ok.mod.kin hk hall ?_ hpl
  refine thn (hkw.run pos pins s σ H _ I h) fun ws s2 ⟨zs, H2, I2, rz, q2⟩ => ⟨I2.kIn, ?_⟩
  rw [hks]
  exact run_fnk (us := []) (vs := []) F hr hb hx I2 .nil rz q2
end
end L2
namespace L2
open PySem PySem.Spec PyProof.Rows
/-- isinstance(e, c), e what the suite holds; which class it is of is asked at the reading -/
theorem call_isE2 {X : Cx} {a D : Addr} {oe : Obj} {cls : Value} {d : Option Addr} {pn : List (Addr × Obj)} (C : ExcC X.K D) (hz : Zc cls d oe) (hf : ∃ vs, oe.data = .fields vs) :
    CallR (X.suite a ((a, oe) :: pn)) (.builtin "isinstance") (fun xs H Q => cls = .ref D ∧ d = none ∧ rIsE X.K D a xs H Q) := by
  intro pins s σ H xs us Q I r h
  obtain ⟨rfl, rfl, h⟩ := h
  exact call_isE C hz hf pins s σ H xs us Q I r h
end L2
namespace Sw
open PySem PySem.Spec PyProof.Rows L2
/-! ### 1. the text by places -/
def top (i : Nat) : Stmt := PySem.Challenge.pw_sampleweave_k13_gains_turned.main.body.getD i (.Pass ⟨0, 0, 0, 0⟩)
abbrev FnP (K : PySem.W.Frag) (x : Str) (st : Stmt) (f : Addr) (fd : FuncData) : Prop := FunD K x x (defArgs st) (defBody st) (defScope st) [] [] f fd
abbrev sWhole : Stmt := top 6
abbrev sWithin : Stmt := top 7
abbrev sNeed : Stmt := top 8
abbrev sFiring : Stmt := top 10
abbrev sSteps : Stmt := top 13
abbrev sRamp : Stmt := top 14
abbrev sNodeInit : Stmt := inClass (top 18) 0
abbrev sCell : Stmt := top 21
abbrev sPot : Stmt := top 22
abbrev sDraw : Stmt := top 23
abbrev sNumber : Stmt := top 24
/-! ### 2. pots -/
/-- all but what stands at p is as it was -/
def Kept (p : Addr) (H H' : Hp) : Prop := ∀ b o, b ≠ p → H b = some o → H' b = some o
theorem Kept.refl {p : Addr} {H : Hp} : Kept p H H := fun _ _ _ h => h
theorem Kept.trans {p : Addr} {H H1 H2 : Hp} (a : Kept p H H1) (b : Kept p H1 H2) : Kept p H H2 := fun c o n h => b c o n (a c o n h)
theorem Kept.upd {p : Addr} {H H1 : Hp} {o : HO} (a : Kept p H H1) : Kept p H (upd H1 p o) := fun c o n h => by
  rw [upd_ne n]
  exact a c o n h
theorem Kept.new {p q : Addr} {H H1 : Hp} {o : HO} (a : Kept p H H1) (h : H1 q = none) : Kept p H (L2.upd H1 q o) := fun c o n e => by
  have e1 := a c o n e
  rw [upd_ne (ne_of_none e1 h)]
  exact e1
theorem Kept.same {p : Addr} {H H1 : Hp} (a : Same H H1) : Kept p H H1 := fun c o _ e => a c o e
/-- behind a heap in which nothing stood at p -/
theorem Same.kept {p : Addr} {H0 H H1 : Hp} (s : Same H0 H) (h : H0 p = none) (k : Kept p H H1) : Same H0 H1 := fun b o e =>
  k b o (fun z => by rw [z, h] at e; cases e) (s b o e)
theorem Same.new {H H1 : Hp} {q : Addr} {o : HO} (a : Same H H1) (h : H1 q = none) : Same H (upd H1 q o) := fun c u e => by
  have e1 := a c u e
  rw [upd_ne (ne_of_none e1 h)]
  exact e1
/-- a pot: two numbers from 0 on, the second one small -/
def PotAt (H : Hp) (p : Addr) : Prop := ∃ a b : Int, 0 ≤ a ∧ 0 ≤ b ∧ b < 2147483647 ∧ H p = some (.lst [.int a, .int b])
theorem PotAt.keep {H H1 : Hp} {p : Addr} (h : PotAt H p) (s : Same H H1) : PotAt H1 p := by
  obtain ⟨a, b, h1, h2, h3, h4⟩ := h
  exact ⟨a, b, h1, h2, h3, s _ _ h4⟩
/-! ### 3. promises -/
def spCell (K : PySem.W.Frag) : Sp := fun vs H Q _ => ∃ (a : Addr) (ns : List Int) (k : Nat), vs = [.ref a, .int (k : Int)] ∧ SqL K H a (ns.map V.int) ∧ ∀ c : Int, Q (.int c) H
def spPot : Sp := fun vs H Q _ => ∃ c : Int, vs = [.int c] ∧ ∀ (p : Addr) (H' : Hp), H p = none → Same H H' → PotAt H' p → Q (.ref p) H'
def spDraw : Sp := fun vs H Q _ => ∃ (p : Addr) (m : Int), vs = [.ref p, .int m] ∧ PotAt H p ∧ 0 < m ∧ m < 2 ^ 64 ∧ ∀ (d : Int) (H' : Hp), 0 ≤ d → d < m → Kept p H H' → PotAt H' p → Q (.int d) H'
def spNumber : Sp := fun vs H Q _ => ∃ p : Addr, vs = [.ref p] ∧ PotAt H p ∧ ∀ (d : Int) (H' : Hp), -(10 ^ 56) < d → d < 10 ^ 56 → Kept p H H' → PotAt H' p → Q (.int d) H'
section
variable {P : Program} {w : World} {K : PySem.W.Frag} {mg : Str → Option Value} {base : Heap} {f f1 f2 f3 f4 f5 f6 C CW CN : Addr} {fd fd1 fd2 fd3 fd4 fd5 fd6 : FuncData}
theorem scCell : FnScope ["_law_script", "_law_k"] ["_law_script", "_law_k"] (defScope sCell) := ⟨rfl, rfl, rfl, by decide +kernel, rfl, by decide +kernel, by decide +kernel⟩
theorem ok_cell (F : FnP K "_law_cell" sCell f fd) (gLen : mg "len" = none) : FnOk P w K mg base CX0 1 f fd ["_law_script", "_law_k"] (spCell K) := by
  refine F.ok scCell (fun vs H Q E h => ?_) (fun cdv A outer s H vs Q E hr h => ?_)
  · obtain ⟨a, ns, k, rfl, _⟩ := h
    rfl
  · obtain ⟨a, ns, k, rfl, hS, kk⟩ := h
    refine ⟨_, PSs.nox (pss_one (ps_ret (pe_ifExp (pt_cmpR op_lt (pv 1) (pe_callB call_len_seq (by rfl) gLen PySem.boot_len (pa_cons (pv 0) pa_nil)) (nomark _)) (pe_ix ix_list (pv 0) (pv 1) (fun _ _ => rfl)) pe_int))), ?_⟩
    refine ⟨_, rfl, _, rfl, a, _, rfl, .inl hS, _, _, rfl, rfl, _, rfl, ?_⟩
    refine ite2 (fun h => ?_) (fun _ => kk 0)
    have h1 := of_decide_eq_true h
    rw [List.length_map] at h1
    have h2 : k < ns.length := by omega
    refine ⟨_, rfl, _, rfl, a, _, _, V.int (ns[k]), rfl, rfl, hS, atI_nat ?_, kk _⟩
    rw [List.getElem?_map, List.getElem?_eq_getElem h2]
    rfl
theorem scPot : FnScope ["_law_cell_here"] ["_law_cell_here"] (defScope sPot) := ⟨rfl, rfl, rfl, by decide +kernel, rfl, by decide +kernel, by decide +kernel⟩
theorem ok_pot (F : FnP K "_law_pot" sPot f fd) (gMax : mg "max" = none) : FnOk P w K mg base CX0 1 f fd ["_law_cell_here"] spPot := by
  refine F.ok scPot (fun vs H Q E h => ?_) (fun cdv A outer s H vs Q E hr h => ?_)
  · obtain ⟨c, rfl, _⟩ := h
    rfl
  · obtain ⟨c, rfl, kk⟩ := h
    refine ⟨_, PSs.nox (pss_one (ps_ret (pe_lst (pa_cons (pe_callB (call_max2 rfl) (by rfl) gMax (by decide +kernel) (pa_cons pe_int (pa_cons (pe_op op_sub (pv 0) (pe_op op_pow pe_int pe_int)) pa_nil)))
      (pa_cons (pe_op op_mod (pe_op op_add (pe_op op_mul (pe_op op_mod (pv 0) pe_int) pe_int) pe_int) pe_int) pa_nil))))), ?_⟩
    refine ⟨_, rfl, _, _, rfl, rfl, ⟨by decide, by decide, by decide⟩, _, _, rfl, rfl, _, _, rfl, ?_⟩
    have q0 := Int.emod_nonneg c (show (2147483629 : Int) ≠ 0 by decide)
    have q1 := Int.emod_lt_of_pos c (show (0 : Int) < 2147483629 by decide)
    refine ⟨_, rfl, _, _, rfl, rfl, (by show (0 : Int) < _; decide), _, _, rfl, rfl, .inr ⟨by decide, by decide⟩, _, _, rfl, rfl, _, _, rfl, rfl, (by show (0 : Int) < _; decide), ?_⟩
    refine ⟨(by show 2 ≤ sizeLine; decide), fun p hp => kk p _ hp (Same.new (Same.refl _) hp) ⟨_, _, ?_, ?_, ?_, upd_same⟩⟩
    · split
      · omega
      · decide
    · exact Int.emod_nonneg _ (by decide)
    · exact Int.emod_lt_of_pos _ (by decide)
theorem scDraw : FnScope ["_law_pot_here", "_law_many", "_law_digit"] ["_law_pot_here", "_law_many"] (defScope sDraw) := ⟨rfl, rfl, rfl, by decide +kernel, rfl, by decide +kernel, by decide +kernel⟩
theorem div_wide {i m : Int} (h0 : 0 < m) (h1 : m < 2 ^ 64) : CDivW i m := wide_div (b := 64) h0 (by omega) (by decide) (by decide)
theorem ok_draw (F : FnP K "_law_draw" sDraw f fd) : FnOk P w K mg base CX0 1 f fd ["_law_pot_here", "_law_many"] spDraw := by
  refine F.ok scDraw (fun vs H Q E h => ?_) (fun cdv A outer s H vs Q E hr h => ?_)
  · obtain ⟨p, m, rfl, _⟩ := h
    rfl
  · obtain ⟨p, m, rfl, ⟨a, b, a0, b0, b1, hp⟩, m0, m1, kk⟩ := h
    refine ⟨_, PSs.nox (pss_cons (ps_if (pt_cmpR op_gt (pe_ix ix_list (pv 0) pe_int (fun _ _ => rfl)) pe_int (nomark _))
        (pss_cons (ps_set (i := 2) scDraw.nd rfl (Or.inl rfl) (pe_op op_mod (pe_ix ix_list (pv 0) pe_int (fun _ _ => rfl)) (pv 1)))
          (pss_cons (ps_asg (pe_op op_fdivW (pe_ix ix_list (pv 0) pe_int (fun _ _ => rfl)) (pv 1)) (pg_sub (pv 0) pe_int set_list (by intro _; rfl)))
            (pss_one (ps_ret (pv 2))))) pss_nil)
      (pss_cons (ps_asg (pe_op op_mod (pe_op op_add (pe_op op_mul (pe_ix ix_list (pv 0) pe_int (fun _ _ => rfl)) pe_int) pe_int) pe_int) (pg_sub (pv 0) pe_int set_list (by intro _; rfl)))
        (pss_one (ps_ret (pe_op op_mod (pe_op op_fdiv (pe_op op_mod (pe_op op_mul (pe_ix ix_list (pv 0) pe_int (fun _ _ => rfl)) (pe_ix ix_list (pv 0) pe_int (fun _ _ => rfl))) pe_int) pe_int) (pv 1)))))), ?_⟩
    refine ⟨_, rfl, p, _, _, _, rfl, rfl, SqL.of hp, atI_nat (j := 0) rfl, _, _, rfl, rfl, _, rfl, ?_⟩
    refine ite2 (fun h => ?_) (fun _ => ?_)
    · refine ⟨_, rfl, p, _, _, _, rfl, rfl, SqL.of hp, atI_nat (j := 0) rfl, _, rfl, _, _, rfl, rfl, m0, ?_⟩
      refine ⟨_, rfl, p, _, _, _, rfl, rfl, SqL.of hp, atI_nat (j := 0) rfl, _, rfl, _, _, rfl, rfl, div_wide m0 m1, ?_⟩
      refine ⟨_, rfl, p, _, _, 0, rfl, rfl, hp, rfl, ?_⟩
      refine ⟨_, rfl, kk _ _ (Int.emod_nonneg _ (by omega)) (Int.emod_lt_of_pos _ m0) (Kept.upd Kept.refl) ⟨_, _, Int.ediv_nonneg a0 (by omega), b0, b1, upd_same⟩⟩
    · refine ⟨_, rfl, p, _, _, _, rfl, rfl, SqL.of hp, atI_nat (j := 1) rfl, _, _, rfl, rfl, .inr ⟨by decide, by decide⟩, _, _, rfl, rfl, _, _, rfl, rfl, (by show (0 : Int) < _; decide), ?_⟩
      refine ⟨_, rfl, p, _, _, 1, rfl, rfl, hp, rfl, ?_⟩
      have c0 := Int.emod_nonneg (b * 39373 + 8191) (show (2147483587 : Int) ≠ 0 by decide)
      have c1 := Int.emod_lt_of_pos (b * 39373 + 8191) (show (0 : Int) < 2147483587 by decide)
      have hq : (upd H p (.lst ([V.int a, V.int b].set 1 (V.int ((b * 39373 + 8191) % 2147483587))))) p = some (.lst [V.int a, V.int ((b * 39373 + 8191) % 2147483587)]) := upd_same
      refine ⟨_, rfl, p, _, _, _, rfl, rfl, SqL.of hq, atI_nat (j := 1) rfl, _, rfl, p, _, _, _, rfl, rfl, SqL.of hq, atI_nat (j := 1) rfl, _, _, rfl, rfl, .inl ⟨by omega, by omega⟩, ?_⟩
      refine ⟨_, _, rfl, rfl, (by show (0 : Int) < _; decide), _, _, rfl, rfl, ⟨by decide, by decide⟩, _, rfl, _, _, rfl, rfl, m0, ?_⟩
      exact kk _ _ (Int.emod_nonneg _ (by omega)) (Int.emod_lt_of_pos _ m0) (Kept.upd Kept.refl) ⟨_, _, a0, c0, by omega, hq⟩
theorem scNumber : FnScope ["_law_pot_here", "_law_way", "_law_found", "_law_k"] ["_law_pot_here"] (defScope sNumber) := ⟨rfl, rfl, rfl, by decide +kernel, rfl, by decide +kernel, by decide +kernel⟩
def tabM : List V := [.int 21, .int 21, .int 21, .int 3, .int 201, .int 2001, .int (10 ^ 9)]
def tabO : List V := [.int 10, .int 10, .int 5, .int 1, .int 100, .int 1000, .int 500000000]
theorem tab_at {d : Int} (h0 : 0 < d) (h8 : d < 8) : ∃ m o : Int, atI tabM (d - 1) = some (.int m) ∧ atI tabO (d - 1) = some (.int o) ∧ 0 < m ∧ m ≤ 10 ^ 9 ∧ 0 ≤ o ∧ o ≤ 10 ^ 9 := by
  have : d = 1 ∨ d = 2 ∨ d = 3 ∨ d = 4 ∨ d = 5 ∨ d = 6 ∨ d = 7 := by omega
  rcases this with rfl | rfl | rfl | rfl | rfl | rfl | rfl
  all_goals exact ⟨_, _, rfl, rfl, by decide, by decide, by decide, by decide⟩
theorem ten_step {x d : Int} {i : Nat} (h0 : 0 ≤ x) (h1 : x < 10 ^ (14 * i)) (d0 : 0 ≤ d) (d1 : d < 10 ^ 14) : x * 10 ^ 14 + d < 10 ^ (14 * (i + 1)) := by
  rw [show 14 * (i + 1) = 14 * i + 14 by omega, Int.pow_add]
  generalize hy : (10 : Int) ^ (14 * i) = y at *
  omega
theorem ok_number (F : FnP K "_law_number" sNumber f fd) (FD : FnP K "_law_draw" sDraw f1 fd1) (gDraw : mg "_law_draw" = some (.ref f1)) (gRange : mg "range" = none) : FnOk P w K mg base CX0 2 f fd ["_law_pot_here"] spNumber := by
  have GD : FnOk P w K mg base CX0 1 f1 fd1 ["_law_pot_here", "_law_many"] spDraw := ok_draw FD
  have bD : Binds K fd1 ["_law_pot_here", "_law_many"] [] := FD.bindsN fun _ _ _ _ _ _ us hl => match us, hl with | [_, _], _ => rfl
  refine F.ok scNumber (fun vs H Q E h => ?_) (fun cdv A outer s H vs Q E hr h => ?_)
  · obtain ⟨p, rfl, _⟩ := h
    rfl
  · obtain ⟨p, rfl, hp, kk⟩ := h
    refine ⟨_, PSs.nox (pss_cons (ps_set (i := 1) scNumber.nd rfl (Or.inl rfl) (pe_call GD hr rfl gDraw FD.kp bD .nil pass0 (pa_cons (pv 0) (pa_cons pe_int pa_nil))))
      (pss_cons (ps_if (pt_cmpR op_eq (pv 1) pe_int (nomark _))
        (pss_cons (ps_set (i := 2) scNumber.nd rfl (Or.inl rfl) pe_int)
          (pss_cons (ps_for PassesOwn.never rfl (pi_range1 rfl gRange (pa_cons pe_int pa_nil)) (pg_name (i := 3) scNumber.nd rfl (Or.inl rfl))
              (pss_one (ps_set (i := 2) scNumber.nd rfl (Or.inl rfl) (pe_op op_add (pe_op op_mul (pv 2) (pe_op op_pow pe_int pe_int)) (pe_call GD hr rfl gDraw FD.kp bD .nil pass0 (pa_cons (pv 0) (pa_cons (pe_op op_pow pe_int pe_int) pa_nil)))))))
            (pss_one (ps_ret (pe_op op_mul (pv 2) (pe_op op_sub pe_int (pe_op op_mul pe_int (pe_call GD hr rfl gDraw FD.kp bD .nil pass0 (pa_cons (pv 0) (pa_cons pe_int pa_nil))))))))))
        pss_nil)
      (pss_one (ps_ret (pe_op op_sub (pe_call GD hr rfl gDraw FD.kp bD .nil pass0 (pa_cons (pv 0) (pa_cons (pe_ix ix_list
          (pe_lst (pa_cons pe_int (pa_cons pe_int (pa_cons pe_int (pa_cons pe_int (pa_cons pe_int (pa_cons pe_int (pa_cons (pe_op op_pow pe_int pe_int) pa_nil)))))))) (pe_op op_sub (pv 1) pe_int) (fun _ _ => rfl)) pa_nil)))
        (pe_ix ix_list (pe_lst (pa_cons pe_int (pa_cons pe_int (pa_cons pe_int (pa_cons pe_int (pa_cons pe_int (pa_cons pe_int (pa_cons pe_int pa_nil)))))))) (pe_op op_sub (pv 1) pe_int) (fun _ _ => rfl))))))), ?_⟩
    refine ⟨_, rfl, p, 8, rfl, hp, by decide, by decide, fun d H1 d0 d8 k1 hp1 => ?_⟩
    refine ⟨_, rfl, rfl, _, rfl, ?_⟩
    refine ite2 (fun h => ?_) (fun h => ?_)
    · refine ⟨4, rfl, by decide, by decide, for_range (n := 4) (fun i σ H' => ∃ (x : Int) (v : Option V), σ = [some (.ref p), some (.int d), some (.int x), v] ∧ 0 ≤ x ∧ x < 10 ^ (14 * i) ∧ Kept p H H' ∧ PotAt H' p)
        ⟨0, none, rfl, by decide, by decide, k1, hp1⟩ ?_ ?_⟩
      · rintro i σ H' hi ⟨x, v, rfl, x0, x1, k2, hp2⟩
        refine ⟨_, rfl, _, _, rfl, rfl, ⟨by decide, by decide, by decide⟩, _, _, rfl, rfl, .inr ⟨by decide, by decide⟩, ?_⟩
        refine ⟨_, rfl, _, _, rfl, rfl, ⟨by decide, by decide, by decide⟩, p, _, rfl, hp2, by decide, by decide, fun e H3 e0 e1 k3 hp3 => ?_⟩
        exact ⟨_, _, rfl, rfl, x * 10 ^ 14 + e, _, rfl, by omega, ten_step x0 x1 e0 e1, k2.trans k3, hp3⟩
      · rintro σ H' ⟨x, v, rfl, x0, x1, k2, hp2⟩
        refine ⟨_, rfl, _, rfl, p, 2, rfl, hp2, by decide, by decide, fun e H3 e0 e1 k3 hp3 => ?_⟩
        refine ⟨_, _, rfl, rfl, .inl ⟨by decide, by decide⟩, _, _, rfl, rfl, _, _, rfl, rfl, .inr ⟨by omega, by omega⟩, ?_⟩
        have : e = 0 ∨ e = 1 := by omega
        have x2 : x < 10 ^ 56 := x1
        refine kk _ _ ?_ ?_ (k2.trans k3) hp3
        · rcases this with rfl | rfl <;> omega
        · rcases this with rfl | rfl <;> omega
    · have dn : d ≠ 0 := fun z => h (decide_eq_true (by rw [z]))
      obtain ⟨m, o, e1, e2, m0, m1, o0, o1⟩ := tab_at (d := d) (by omega) d8
      refine ⟨_, rfl, _, _, rfl, rfl, ⟨by decide, by decide, by decide⟩, (by show 7 ≤ sizeLine; decide), fun l hl => ?_⟩
      refine ⟨_, rfl, _, _, rfl, rfl, l, _, _, _, rfl, rfl, SqL.of upd_same, e1, ?_⟩
      have hp2 : PotAt (upd H1 l (.lst tabM)) p := hp1.keep (Same.new (Same.refl _) hl)
      refine ⟨p, m, rfl, hp2, m0, by omega, fun e H3 e0 e1' k3 hp3 => ?_⟩
      refine ⟨(by show 7 ≤ sizeLine; decide), fun l2 hl2 => ?_⟩
      refine ⟨_, rfl, _, _, rfl, rfl, l2, _, _, _, rfl, rfl, SqL.of upd_same, e2, _, _, rfl, rfl, ?_⟩
      exact kk _ _ (by omega) (by omega) (((k1.new hl).trans k3).new hl2) (hp3.keep (Same.new (Same.refl _) hl2))
end
/-! ### is_whole, is_whole_within -/
def NoInt (K : PySem.W.Frag) (H : Hp) (v : V) : Prop := (∃ b, v = .bl b) ∨ ∃ T : String, TyX K H v (.type T) ∧ kitB T "int" = some false
def OddV (K : PySem.W.Frag) (H : Hp) (v : V) : Prop := (∃ i : Int, v = .int i ∧ (i < 0 ∨ 400 < i)) ∨ NoInt K H v
def spWhole (K : PySem.W.Frag) : Sp := fun vs H Q _ => ∃ v : V, vs = [v] ∧ ((∃ i : Int, v = .int i ∧ Q (.bl true) H) ∨ (NoInt K H v ∧ Q (.bl false) H))
def spWithin (K : PySem.W.Frag) : Sp := fun vs H Q _ => ∃ (v : V) (lo hi : Int), vs = [v, .int lo, .int hi] ∧ ((∃ i : Int, v = .int i ∧ Q (.bl (decide (lo ≤ i ∧ i ≤ hi))) H) ∨ (NoInt K H v ∧ Q (.bl false) H))
section
variable {P : Program} {w : World} {K : PySem.W.Frag} {mg : Str → Option Value} {base : Heap} {f f1 f2 f3 f4 f5 f6 C CW CN : Addr} {fd fd1 fd2 fd3 fd4 fd5 fd6 : FuncData}
theorem scWhole : FnScope ["thing"] ["thing"] (defScope sWhole) := ⟨rfl, rfl, rfl, by decide +kernel, rfl, by decide +kernel, by decide +kernel⟩
theorem ok_whole (F : FnP K "is_whole" sWhole f fd) (gIs : mg "isinstance" = none) (gInt : mg "int" = none) (gBool : mg "bool" = none) : FnOk P w K mg base CX0 1 f fd ["thing"] (spWhole K) := by
  refine F.ok scWhole (fun vs H Q E h => ?_) (fun cdv A outer s H vs Q E hr h => ?_)
  · obtain ⟨v, rfl, _⟩ := h
    rfl
  · obtain ⟨v, rfl, h⟩ := h
    refine ⟨_, PSs.nox (pss_one (ps_ret (pe_and (pe_callB call_isi (by rfl) gIs boot_isinstance (pa_cons (pv 0) (pa_cons (pe_bltn (v := .ty "int") rfl gInt PyProof.Rows.boot_int rfl) pa_nil)))
      (pe_one (pe_not (pe_callB call_isi (by rfl) gIs boot_isinstance (pa_cons (pv 0) (pa_cons (pe_bltn (v := .ty "bool") rfl gBool PyProof.Rows.boot_bool rfl) pa_nil)))))))), ?_⟩
    rcases h with ⟨i, rfl, k⟩ | ⟨⟨b, rfl⟩ | ⟨T, ty, ki⟩, k⟩
    · refine ⟨_, rfl, _, _, _, _, true, rfl, ClsV.ty _, TyX.base (TyOf.int i), kit_ty (by decide +kernel), _, rfl, iteT ?_⟩
      exact ⟨_, rfl, _, _, _, _, false, rfl, ClsV.ty _, TyX.base (TyOf.int i), kit_ty (by decide +kernel), _, rfl, k⟩
    · refine ⟨_, rfl, _, _, _, _, true, rfl, ClsV.ty _, TyX.base (TyOf.bl b), kit_ty (by decide +kernel), _, rfl, iteT ?_⟩
      exact ⟨_, rfl, _, _, _, _, true, rfl, ClsV.ty _, TyX.base (TyOf.bl b), kit_ty (by decide +kernel), _, rfl, k⟩
    · exact ⟨_, rfl, _, _, _, _, false, rfl, ClsV.ty _, ty, kit_ty ki, _, rfl, iteF k⟩
theorem scWithin : FnScope ["thing", "least", "most"] ["thing", "least", "most"] (defScope sWithin) := ⟨rfl, rfl, rfl, by decide +kernel, rfl, by decide +kernel, by decide +kernel⟩
theorem ok_within (F : FnP K "is_whole_within" sWithin f fd) (GI : FnOk P w K mg base CX0 1 f1 fd1 ["thing"] (spWhole K)) (gI : mg "is_whole" = some (.ref f1)) (kI : PySem.W.keepIn K (.ref f1) = true) (bI : Binds K fd1 ["thing"] []) : FnOk P w K mg base CX0 2 f fd ["thing", "least", "most"] (spWithin K) := by
  refine F.ok scWithin (fun vs H Q E h => ?_) (fun cdv A outer s H vs Q E hr h => ?_)
  · obtain ⟨v, lo, hi, rfl, _⟩ := h
    rfl
  · obtain ⟨v, lo, hi, rfl, h⟩ := h
    refine ⟨_, PSs.nox (pss_one (ps_ret (pe_and (pe_call GI hr rfl gI kI bI .nil pass0 (pa_cons (pv 0) pa_nil)) (pe_one (pe_chain op_le op_le (pv 1) (pv 0) (pv 2)))))), ?_⟩
    rcases h with ⟨i, rfl, k⟩ | ⟨no, k⟩
    · refine ⟨_, rfl, _, rfl, .inl ⟨i, rfl, _, rfl, iteT ?_⟩⟩
      refine ⟨_, rfl, _, rfl, _, _, rfl, rfl, _, rfl, ?_⟩
      refine ite2 (fun h => ?_) (fun h => ?_)
      · refine ⟨_, rfl, _, _, rfl, rfl, ?_⟩
        have e : decide (lo ≤ i ∧ i ≤ hi) = decide (i ≤ hi) := decide_eq_decide.mpr ⟨fun z => z.2, fun z => ⟨of_decide_eq_true h, z⟩⟩
        rw [e] at k
        exact k
      · have e : decide (lo ≤ i ∧ i ≤ hi) = false := decide_eq_false fun z => h (decide_eq_true z.1)
        rw [e] at k
        exact k
    · exact ⟨_, rfl, _, rfl, .inr ⟨no, _, rfl, iteF k⟩⟩
end
/-! ### the mathematics of ramps -/
def rampAt (x y : Int) (m i : Nat) : Int := x + (y - x) * ((i : Int) + 1) / (m : Int)
def rampL (x y : Int) (m n : Nat) : List V := (List.range n).map fun i => V.int (rampAt x y m i)
theorem rampL_succ (x y : Int) (m n : Nat) : rampL x y m (n + 1) = rampL x y m n ++ [V.int (rampAt x y m n)] := by
  unfold rampL
  rw [List.range_succ, List.map_append]
  rfl
theorem rampL_length (x y : Int) (m n : Nat) : (rampL x y m n).length = n := by
  unfold rampL
  rw [List.length_map, List.length_range]
theorem walk_hi {A d m : Int} (m0 : 0 < m) (h : m ≤ A % m + d % m) : (A + d) / m = A / m + d / m + 1 ∧ (A + d) % m = A % m + d % m - m := by
  have e1 := Int.emod_add_mul_ediv A m
  have e2 := Int.emod_add_mul_ediv d m
  have a1 := Int.emod_lt_of_pos A m0
  have d1 := Int.emod_lt_of_pos d m0
  refine (Int.ediv_emod_unique m0).mpr ⟨?_, by omega, by omega⟩
  rw [Int.mul_add, Int.mul_add, Int.mul_one]
  omega
theorem walk_lo {A d m : Int} (m0 : 0 < m) (h : ¬ m ≤ A % m + d % m) : (A + d) / m = A / m + d / m ∧ (A + d) % m = A % m + d % m := by
  have e1 := Int.emod_add_mul_ediv A m
  have e2 := Int.emod_add_mul_ediv d m
  have a1 := Int.emod_nonneg A (show m ≠ 0 by omega)
  have d1 := Int.emod_nonneg d (show m ≠ 0 by omega)
  refine (Int.ediv_emod_unique m0).mpr ⟨?_, by omega, by omega⟩
  rw [Int.mul_add]
  omega
theorem mul_next (d : Int) (i : Nat) : d * ((i : Int) + 1) = d * (i : Int) + d := by rw [Int.mul_add, Int.mul_one]
def spRamp (K : PySem.W.Frag) (C : Addr) : Sp := fun vs H Q E => ∃ (x y : Int) (v : V), vs = [.int x, .int y, v] ∧
  ((∃ m : Nat, v = .int (m : Int) ∧ m ≤ 400 ∧ ∀ l, H l = none → Q (.ref l) (upd H l (.lst (rampL x y m m)))) ∨ (OddV K H v ∧ E (.ref C) none H))
section
variable {P : Program} {w : World} {K : PySem.W.Frag} {mg : Str → Option Value} {base : Heap} {f f1 f2 f3 f4 f5 f6 C CW CN : Addr} {fd fd1 fd2 fd3 fd4 fd5 fd6 : FuncData}
/-- an own error class without __init__ -/
structure ExcT (K : PySem.W.Frag) (mg : Str → Option Value) (x : Str) (C : Addr) : Prop where
  g : mg x = some (.ref C)
  x : PySem.W.excIn K C [.type "ValueError", .type "Exception", .type "BaseException", .type "object"] "ValueError.__new__" = true
  k : PySem.W.keepIn K (.ref C) = true
  b : PySem.W.subIn K (.ref C) (.type "BaseException") = some true
  t : PySem.W.typeIn K (.ref C) = some (.type "type")
def spSteps (K : PySem.W.Frag) (C : Addr) : Sp := fun vs H Q E => ∃ v : V, vs = [v] ∧ ((∃ m : Nat, v = .int (m : Int) ∧ m ≤ 400 ∧ Q .non H) ∨ (OddV K H v ∧ E (.ref C) none H))
theorem scSteps : FnScope ["steps"] ["steps"] (defScope sSteps) := ⟨rfl, rfl, rfl, by decide +kernel, rfl, by decide +kernel, by decide +kernel⟩
theorem ok_steps (F : FnP K "check_steps" sSteps f fd) (GW : FnOk P w K mg base CX0 2 f1 fd1 ["thing", "least", "most"] (spWithin K)) (gW : mg "is_whole_within" = some (.ref f1)) (kW : PySem.W.keepIn K (.ref f1) = true) (bW : Binds K fd1 ["thing", "least", "most"] [])
    (gMost : ∃ t, mg "MOST_STEPS" = some (.int 400 t)) (T : ExcT K mg "NoSteps" C) : FnOk P w K mg base (L2.CX P w) 3 f fd ["steps"] (spSteps K C) := by
  obtain ⟨tM, gM⟩ := gMost
  refine F.ok scSteps (fun vs H Q E h => ?_) (fun cdv A outer s H vs Q E hr h => ?_)
  · obtain ⟨v, rfl, _⟩ := h
    rfl
  · obtain ⟨v, rfl, h⟩ := h
    refine ⟨_, (pss_one (ps_if (pt_not (pt_val (pe_call GW hr rfl gW kW bW .nil pass0 (pa_cons (pv 0) (pa_cons pe_int (pa_cons (pe_glob (v := .int 400) rfl gM ⟨_, rfl⟩) pa_nil))))))
        (pss_one (ps_raise rfl (takes_of rfl rfl rfl rfl) (pmk_own PySem.F.excBase_ValueError T.x T.g T.k (raises_own T.b T.t) rfl))) pss_nil)), ?_⟩
    rcases h with ⟨m, rfl, hm, kk⟩ | ⟨od, kE⟩
    · refine ⟨_, rfl, _, _, _, rfl, .inl ⟨(m : Int), rfl, ?_⟩⟩
      have e : decide ((0 : Int) ≤ (m : Int) ∧ (m : Int) ≤ 400) = true := decide_eq_true (by omega)
      rw [e]
      exact ⟨_, rfl, iteF kk⟩
    · rcases od with ⟨i, rfl, hi⟩ | no
      · refine ⟨_, rfl, _, _, _, rfl, .inl ⟨i, rfl, ?_⟩⟩
        have e : decide ((0 : Int) ≤ i ∧ i ≤ 400) = false := decide_eq_false (by omega)
        rw [e]
        exact ⟨_, rfl, iteT kE⟩
      · exact ⟨_, rfl, _, _, _, rfl, .inr ⟨no, _, rfl, iteT kE⟩⟩
theorem scRamp : FnScope ["first", "last", "steps", "k"] ["first", "last", "steps"] (defScope sRamp) := ⟨rfl, rfl, rfl, by decide +kernel, rfl, by decide +kernel, by decide +kernel⟩
theorem ok_ramp (F : FnP K "ramp" sRamp f fd) (GW : FnOk P w K mg base (L2.CX P w) 3 f1 fd1 ["steps"] (spSteps K C)) (gW : mg "check_steps" = some (.ref f1)) (kW : PySem.W.keepIn K (.ref f1) = true) (bW : Binds K fd1 ["steps"] [])
    (gRange : mg "range" = none) : FnOk P w K mg base (L2.CX P w) 4 f fd ["first", "last", "steps"] (spRamp K C) := by
  refine F.ok scRamp (fun vs H Q E h => ?_) (fun cdv A outer s H vs Q E hr h => ?_)
  · obtain ⟨x, y, v, rfl, _⟩ := h
    rfl
  · obtain ⟨x, y, v, rfl, h⟩ := h
    refine ⟨_, pss_cons (ps_expr (pe_call (E := E) GW hr rfl gW kW bW .nil (passes_call (takes_of rfl rfl rfl rfl) (fun _ _ _ _ e => e)) (pa_cons (pv 2) pa_nil)))
      (PSs.nox (pss_one (ps_ret (pe_lc (own := [("k", 3)]) (g := gName 3) (tt := tYes) rfl scRamp.nd (pi_range2 rfl gRange (pa_cons pe_int (pa_cons (pe_op op_add (pv 2) pe_int) pa_nil)))
        (blkOk_by (N := ["first", "last", "steps", "k"]) (sc := defScope sRamp) (by decide +kernel)) (fun _ _ _ _ _ => pg_name (i := 3) scRamp.nd rfl (Or.inl rfl)) (fun _ _ _ _ _ => pts_nil)
        (fun _ _ _ _ _ => pe_op op_add (pv 0) (pe_op op_fdiv (pe_op op_mul (pe_op op_sub (pv 1) (pv 0)) (pv 3)) (pv 2))))))), ?_⟩
    rcases h with ⟨m, rfl, hm, kk⟩ | ⟨od, kE⟩
    · refine ⟨_, rfl, _, rfl, .inl ⟨m, rfl, hm, ?_⟩⟩
      refine ⟨_, rfl, _, _, rfl, rfl, _, _, rfl, ⟨by omega, by omega, by omega, by omega⟩, fun D hD => ?_⟩
      have en : ((m : Int) + 1 - 1).toNat = m := by omega
      rw [en]
      refine lc_range (fun i H' => H' = upd H D (.lst (rampL x y m i))) rfl (fun i H' hi e => ?_) (fun H' e => ?_)
      · subst e
        have hL : (upd H D (.lst (rampL x y m i))) D = some (.lst (rampL x y m i)) := upd_same
        have sz : (rampL x y m i).length < sizeLine := by
          rw [rampL_length]
          exact Nat.lt_of_lt_of_le (show i < 401 by omega) (by decide)
        refine ⟨rfl, ?_⟩
        unfold tYes
        refine iteT ?_
        refine ⟨_, rfl, _, rfl, _, rfl, _, _, rfl, rfl, _, rfl, _, _, rfl, rfl, .inr ⟨by omega, by omega⟩, _, rfl, _, _, rfl, rfl, ⟨by omega, by omega⟩, _, _, rfl, rfl, _, hL, sz, ?_⟩
        rw [upd_upd, rampL_succ]
        unfold rampAt
        rw [show (1 : Int) + (i : Int) = (i : Int) + 1 by omega]
      · subst e
        exact kk D hD
    · exact ⟨_, rfl, _, rfl, .inr ⟨od, kE⟩⟩
end
/-! ### lists of ints as data -/
theorem dp_ints {K : PySem.W.Frag} {H : Hp} : ∀ ns : List Int, DpAll K H (ns.map V.int) (ns.map PyData.int)
  | [] => .nil
  | n :: ns => .cons (.int n) (dp_ints ns)
theorem lay_ints : ∀ ns : List Int, PyData.canLayAll0 (ns.map PyData.int) = true
  | [] => rfl
  | n :: ns => by
    rw [List.map_cons, PyData.canLayAll0, lay_ints ns]
    rfl
theorem depth_ints : ∀ ns : List Int, PyData.depthAll (ns.map PyData.int) = 0
  | [] => by rw [List.map_nil, PyData.depthAll]
  | n :: ns => by
    rw [List.map_cons, PyData.depthAll, depth_ints ns, PyData.depth]
    rfl
theorem shaped_ints (ns : List Int) : SeqAt.shaped (.list (ns.map PyData.int)) = true := by
  unfold SeqAt.shaped
  rw [PyData.canLay0, lay_ints, PyData.depth, depth_ints]
  rfl
theorem eqv_ints (ns : List Int) : PyData.eqv (.list (ns.map PyData.int)) (.list (ns.map PyData.int)) = true := by
  refine SeqAt.eqv_refl _ ?_
  rw [PyData.canLay0]
  exact lay_ints ns
theorem dp_at {K : PySem.W.Frag} {H : Hp} {a : Addr} {ns : List Int} (h : H a = some (.lst (ns.map V.int))) : Dp K H (.ref a) (.list (ns.map PyData.int)) := .lst (SqL.of h) (dp_ints ns)
theorem noint {K : PySem.W.Frag} {H : Hp} {v : V} {T : String} (h : TyX K H v (.type T)) (k : kitB T "int" = some false) : OddV K H v := .inr (.inr ⟨T, h, k⟩)
theorem kitT : kitB "tuple" "int" = some false := by decide +kernel
theorem kitL : kitB "list" "int" = some false := by decide +kernel
theorem kitD : kitB "dict" "int" = some false := by decide +kernel
theorem kitN : kitB "NoneType" "int" = some false := by decide +kernel
theorem kitS : kitB "str" "int" = some false := by decide +kernel
/-! ### need, Node.__init__, run_firing -/
abbrev FnM (K : PySem.W.Frag) (x q : Str) (st : Stmt) (f : Addr) (fd : FuncData) : Prop := FunD K x q (defArgs st) (defBody st) (defScope st) [] [] f fd
theorem Same.tup {K : PySem.W.Frag} {H H1 : Hp} {a : Addr} {xs : List V} (s : Same H H1) (h : SqT K H a xs) : SqT K H1 a xs := by
  rcases h with (h | ⟨o, h⟩) | h
  · exact .inl (.inl (s _ _ h))
  · exact .inl (.inr ⟨o, s _ _ h⟩)
  · exact .inr h
theorem Kept.at {p b : Addr} {H H1 : Hp} {o u : HO} (k : Kept p H H1) (hp : H p = some u) (hb : H b = some o) (n : o ≠ u) : H1 b = some o := k b o (fun z => n (by rw [z, hp] at hb; exact (Option.some.inj hb).symm)) hb
theorem Kept.tup {K : PySem.W.Frag} {p a : Addr} {H H1 : Hp} {xs : List V} (k : Kept p H H1) (hp : PotAt H p) (h : SqT K H a xs) : SqT K H1 a xs := by
  obtain ⟨x, y, _, _, _, hp⟩ := hp
  rcases h with (h | ⟨o, h⟩) | h
  · exact .inl (.inl (k.at hp h (fun z => by cases z)))
  · exact .inl (.inr ⟨o, k.at hp h (fun z => by cases z)⟩)
  · exact .inr h
/-- an instance of the class at C, with these fields -/
def InsAt (H : Hp) (p C : Addr) (fs : List (Str × V)) : Prop := ∃ dx, H p = some (.ins C dx fs)
theorem InsAt.keep {H H1 : Hp} {p C : Addr} {fs : List (Str × V)} (h : InsAt H p C fs) (s : Same H H1) : InsAt H1 p C fs := by
  obtain ⟨dx, h⟩ := h
  exact ⟨dx, s _ _ h⟩
theorem InsAt.kept {H H1 : Hp} {p q C : Addr} {fs : List (Str × V)} (h : InsAt H p C fs) (k : Kept q H H1) (hq : PotAt H q) : InsAt H1 p C fs := by
  obtain ⟨dx, h⟩ := h
  obtain ⟨x, y, _, _, _, hq⟩ := hq
  exact ⟨dx, k.at hq h (fun z => by cases z)⟩
def spNeed : Sp := fun vs H Q _ => ∃ v : V, vs = [.bl true, v] ∧ Q .non H
/-- what all sorts keep -/
def nodeF (tm : Addr) (l b : Int) (fs : List (Str × V)) : List (Str × V) := putF "begin_at" (.int b) (putF "late_by" (.int l) (putF "made" (.ref tm) fs))
def spNodeInit (K : PySem.W.Frag) (C : Addr) : Sp := fun vs H Q _ => ∃ (p t dx : Addr) (fs : List (Str × V)) (xs : List V) (l b : Int), vs = [.ref p, .ref t, .int l, .int b] ∧ H p = some (.ins C dx fs) ∧ SqT K H t xs ∧ (0 ≤ l ∧ l ≤ 99) ∧ (0 ≤ b ∧ b ≤ 9999) ∧
  fs.length < 900 ∧ xs.length ≤ 1000 ∧ ∀ tm, H tm = none → Q .non (upd (upd H tm (.tup (xs ++ [.int l, .int b]))) p (.ins C dx (nodeF tm l b fs)))
structure NodeC (K : PySem.W.Frag) (C : Addr) : Prop where
  cl : Cls K C
  nM : NoAttr K C "made"
  nL : NoAttr K C "late_by"
  nB : NoAttr K C "begin_at"
theorem putF_le (f : Str) (v : V) : ∀ fs : List (Str × V), (putF f v fs).length ≤ fs.length + 1
  | [] => Nat.le_refl _
  | (g, x) :: r => by
    unfold putF
    split
    · exact Nat.le_succ _
    · exact Nat.succ_le_succ (putF_le f v r)
section
variable {P : Program} {w : World} {K : PySem.W.Frag} {mg : Str → Option Value} {base : Heap} {f f1 f2 f3 f4 f5 f6 C CW CN : Addr} {fd fd1 fd2 fd3 fd4 fd5 fd6 : FuncData}
theorem scNeed : FnScope ["holds", "field"] ["holds", "field"] (defScope sNeed) := ⟨rfl, rfl, rfl, by decide +kernel, rfl, by decide +kernel, by decide +kernel⟩
theorem ok_need (F : FnP K "need" sNeed f fd) : FnOk P w K mg base CX0 1 f fd ["holds", "field"] spNeed := by
  refine F.ok scNeed (fun vs H Q E h => ?_) (fun cdv A outer s H vs Q E hr h => ?_)
  · obtain ⟨v, rfl, _⟩ := h
    rfl
  · obtain ⟨v, rfl, k⟩ := h
    refine ⟨_, PSs.nox (pss_one (ps_if (pt_not (pt_val (pv 0))) pss_never pss_nil)), ?_⟩
    exact ⟨_, rfl, _, rfl, iteF k⟩
theorem scNodeInit : FnScope ["self", "arguments", "late", "begin"] ["self", "arguments", "late", "begin"] (defScope sNodeInit) := ⟨rfl, rfl, rfl, by decide +kernel, rfl, by decide +kernel, by decide +kernel⟩
theorem ok_nodeInit (F : FnM K "__init__" "Node.__init__" sNodeInit f fd) (GN : FnOk P w K mg base CX0 1 f1 fd1 ["holds", "field"] spNeed) (gN : mg "need" = some (.ref f1)) (kN : PySem.W.keepIn K (.ref f1) = true) (bN : Binds K fd1 ["holds", "field"] [])
    (GW : FnOk P w K mg base CX0 2 f2 fd2 ["thing", "least", "most"] (spWithin K)) (gW : mg "is_whole_within" = some (.ref f2)) (kW : PySem.W.keepIn K (.ref f2) = true) (bW : Binds K fd2 ["thing", "least", "most"] [])
    (gML : ∃ t, mg "MOST_LATE" = some (.int 99 t)) (gMB : ∃ t, mg "MOST_BEGIN" = some (.int 9999 t)) (T : NodeC K C) : FnOk P w K mg base CX0 3 f fd ["self", "arguments", "late", "begin"] (spNodeInit K C) := by
  obtain ⟨tL, gL⟩ := gML
  obtain ⟨tB, gB⟩ := gMB
  refine F.ok scNodeInit (fun vs H Q E h => ?_) (fun cdv A outer s H vs Q E hr h => ?_)
  · obtain ⟨p, t, dx, fs, xs, l, b, rfl, _⟩ := h
    rfl
  · obtain ⟨p, t, dx, fs, xs, l, b, rfl, hp, ht, hl, hb, hfs, hxs, k⟩ := h
    have hr1 : Room 1 _ := hr.mono (by decide)
    refine ⟨_, PSs.nox (pss_cons (ps_expr (pe_call GN hr1 rfl gN kN bN .nil pass0 (pa_cons (pe_call GW hr rfl gW kW bW .nil pass0 (pa_cons (pv 2) (pa_cons pe_int (pa_cons (pe_glob (v := .int 99) rfl gL ⟨_, rfl⟩) pa_nil)))) (pa_cons pe_str pa_nil))))
      (pss_cons (ps_expr (pe_call GN hr1 rfl gN kN bN .nil pass0 (pa_cons (pe_call GW hr rfl gW kW bW .nil pass0 (pa_cons (pv 3) (pa_cons pe_int (pa_cons (pe_glob (v := .int 9999) rfl gB ⟨_, rfl⟩) pa_nil)))) (pa_cons pe_str pa_nil))))
      (pss_cons (ps_fld (pv 0) (pe_tup (StX.pa_star (pv 1) (pa_cons (pv 2) (pa_cons (pv 3) pa_nil)))) rfl)
      (pss_cons (ps_fld (pv 0) (pv 2) rfl) (pss_one (ps_fld (pv 0) (pv 3) rfl)))))), ?_⟩
    refine ⟨_, rfl, _, 0, 99, rfl, .inl ⟨l, rfl, ?_⟩⟩
    rw [show decide ((0 : Int) ≤ l ∧ l ≤ 99) = true from decide_eq_true hl]
    refine ⟨_, rfl, ?_⟩
    refine ⟨_, rfl, _, 0, 9999, rfl, .inl ⟨b, rfl, ?_⟩⟩
    rw [show decide ((0 : Int) ≤ b ∧ b ≤ 9999) = true from decide_eq_true hb]
    refine ⟨_, rfl, ?_⟩
    refine ⟨_, rfl, t, xs, rfl, .inl ht, _, rfl, _, rfl, ?_, fun tm htm => ?_⟩
    · rw [List.length_append]
      exact Nat.le_trans (Nat.add_le_add_right hxs _) (by show 1000 + 2 ≤ sizeLine; decide)
    have npt : p ≠ tm := ne_of_none hp htm
    have l1 := putF_le "made" (.ref tm) fs
    have l2 := putF_le "late_by" (.int l) (putF "made" (.ref tm) fs)
    refine ⟨_, rfl, p, C, dx, _, rfl, (by rw [upd_ne npt]; exact hp), T.cl, T.nM, by omega, ?_⟩
    refine ⟨_, rfl, _, rfl, p, C, dx, _, rfl, upd_same, T.cl, T.nL, by omega, ?_⟩
    refine ⟨_, rfl, _, rfl, p, C, dx, _, rfl, upd_same, T.cl, T.nB, by omega, ?_⟩
    rw [upd_upd, upd_upd]
    exact k tm htm
end
/-! ### run_firing, for an instance of the class at C whose gives() is 1 and whose work keeps spW -/
def spGives1 (C : Addr) : Sp := fun vs H Q _ => ∃ (p dx : Addr) (fs : List (Str × V)), vs = [.ref p] ∧ H p = some (.ins C dx fs) ∧ Q (.int 1) H
/-- what a firing tells: a tuple of (mutes, behind) and the list of what is given, all of it new but what is behind -/
def Told (H : Hp) (Q : VK) (m : Int) (bh gv : V) : Hp → Prop := fun H1 => ∀ (q t : Addr) (H2 : Hp), Same H1 H2 → H q = none → H2 q = some (.tup [.ref t, gv]) → H2 t = some (.tup [.int m, bh]) → Q (.ref q) H2
def spFiring (K : PySem.W.Frag) (C : Addr) (spW : Sp) : Sp := fun vs H Q _ => ∃ (p tm : Addr) (fs : List (Str × V)) (m : Int) (kept rows : V), vs = [.ref p, .ref tm, rows] ∧ InsAt H p C fs ∧ fs.lookup ("gives" : Str) = none ∧ fs.lookup ("work" : Str) = none ∧ SqT K H tm [.int m, kept] ∧
  ((0 < m ∧ ∀ (l : Addr) (H1 : Hp), Same H H1 → H l = none → H1 l = some (.lst [.int 0]) → Told H Q (m - 1) kept (.ref l) H1) ∨
   (¬ 0 < m ∧ spW [.ref p, kept, rows] H (fun v H1 => ∃ (z : Addr) (bh gv : V), v = .ref z ∧ Same H H1 ∧ SqT K H1 z [bh, gv] ∧ Told H Q m bh gv H1) E0))
/-- what is promised of more is promised of less -/
def Wide1 (sp : Sp) : Prop := ∀ (vs : List V) (H : Hp) (Q Q' : VK) (E : XK), (∀ v H', Q v H' → Q' v H') → sp vs H Q E → sp vs H Q' E
section
variable {P : Program} {w : World} {K : PySem.W.Frag} {mg : Str → Option Value} {base : Heap} {f f1 f2 f3 f4 f5 f6 C CW CN : Addr} {fd fd1 fd2 fd3 fd4 fd5 fd6 : FuncData}
theorem scFiring : FnScope ["node", "memory", "rows", "mutes", "kept", "behind", "given"] ["node", "memory", "rows"] (defScope sFiring) := ⟨rfl, rfl, rfl, by decide +kernel, rfl, by decide +kernel, by decide +kernel⟩
theorem ok_firing {spW : Sp} {k : Nat} (F : FnP K "run_firing" sFiring f fd) (c : Cls K C) (GG : FnOk P w K mg base CX0 1 f1 fd1 ["self"] (spGives1 C)) (mG : Meth K C "gives" f1) (bG : Binds K fd1 ["self"] [])
    (GW : FnOk P w K mg base CX0 (k + 1) f2 fd2 ["self", "kept", "rows"] spW) (mW : Meth K C "work" f2) (bW : Binds K fd2 ["self", "kept", "rows"] []) (wd : Wide1 spW) : FnOk P w K mg base CX0 (k + 2) f fd ["node", "memory", "rows"] (spFiring K C spW) := by
  refine F.ok scFiring (fun vs H Q E h => ?_) (fun cdv A outer s H vs Q E hr h => ?_)
  · obtain ⟨p, tm, fs, m, kept, rows, rfl, _⟩ := h
    rfl
  · obtain ⟨p, tm, fs, m, kept, rows, rfl, hp, nG, nW, hm, h⟩ := h
    have hr1 : Room 1 _ := hr.mono (by omega)
    refine ⟨_, PSs.nox (pss_cons (ps_asg (pv 1) (pg_tup rfl (pgs_cons (pg_name (i := 3) scFiring.nd rfl (Or.inl rfl)) (pgs_cons (pg_name (i := 4) scFiring.nd rfl (Or.inl rfl)) pgs_nil))))
      (pss_cons (ps_if (pt_cmpR op_gt (pv 3) pe_int (nomark _))
        (pss_one (ps_ret (pe_tup (pa_cons (pe_tup (pa_cons (pe_op op_sub (pv 3) pe_int) (pa_cons (pv 4) pa_nil))) (pa_cons (pe_op op_rep (pe_lst (pa_cons pe_int pa_nil)) (pe_meth0 (pv 0) c mG GG hr1 bG .nil pass0)) pa_nil))))) pss_nil)
      (pss_cons (ps_asg (pe_meth (pv 0) c mW GW hr bW .nil pass0 (pa_cons (pv 4) (pa_cons (pv 2) pa_nil))) (pg_tup rfl (pgs_cons (pg_name (i := 5) scFiring.nd rfl (Or.inl rfl)) (pgs_cons (pg_name (i := 6) scFiring.nd rfl (Or.inl rfl)) pgs_nil))))
      (pss_one (ps_ret (pe_tup (pa_cons (pe_tup (pa_cons (pv 3) (pa_cons (pv 5) pa_nil))) (pa_cons (pv 6) pa_nil)))))))), ?_⟩
    refine ⟨_, rfl, tm, _, rfl, hm, rfl, _, _, rfl, _, _, rfl, rfl, ?_⟩
    refine ⟨_, rfl, _, _, rfl, rfl, _, rfl, ?_⟩
    rcases h with ⟨m0, h⟩ | ⟨m0, h⟩
    · refine ite2 (fun _ => ?_) (fun z => absurd (decide_eq_true m0) z)
      refine ⟨_, rfl, _, _, rfl, rfl, _, rfl, (by show 2 ≤ sizeLine; decide), fun t ht => ?_⟩
      refine ⟨(by show 1 ≤ sizeLine; decide), fun l0 hl0 => ?_⟩
      have s2 := Same.new (o := .lst [V.int 0]) (Same.new (o := .tup [V.int (m - 1), kept]) (Same.refl H) ht) hl0
      obtain ⟨dx, hp2⟩ := hp.keep s2
      refine ⟨_, rfl, p, dx, fs, rfl, hp2, nG, p, dx, fs, rfl, hp2, ?_⟩
      refine ⟨l0, 1, _, rfl, rfl, upd_same, by decide, by decide, by show 1 * 1 ≤ sizeLine; decide, fun l hl => ?_⟩
      refine ⟨(by show 2 ≤ sizeLine; decide), fun q hq => ?_⟩
      have s3 := Same.new (o := .lst [V.int 0]) s2 hl
      have ht1 : (upd H t (.tup [V.int (m - 1), kept])) t = some (.tup [V.int (m - 1), kept]) := upd_same
      have ht2 := Same.new (o := .lst [V.int 0]) (Same.new (o := .lst [V.int 0]) (Same.refl _) hl0) hl _ _ ht1
      refine h l _ s3 (s2.free hl) upd_same q t _ (Same.new (Same.refl _) hq) (s3.free hq) upd_same ?_
      exact Same.new (Same.refl _) hq _ _ ht2
    · refine ite2 (fun z => absurd (of_decide_eq_true z) m0) (fun _ => ?_)
      obtain ⟨dx, hp2⟩ := hp
      refine ⟨_, rfl, p, dx, fs, rfl, hp2, nW, _, rfl, _, rfl, ?_⟩
      refine wd _ _ _ _ _ (fun v H1 hv => ?_) h
      obtain ⟨z, bh, gv, rfl, s1, hz, told⟩ := hv
      refine ⟨z, _, rfl, hz, rfl, _, _, rfl, _, _, rfl, rfl, ?_⟩
      refine ⟨_, rfl, _, rfl, (by show 2 ≤ sizeLine; decide), fun t ht => ?_⟩
      refine ⟨_, rfl, (by show 2 ≤ sizeLine; decide), fun q hq => ?_⟩
      have s2 := Same.new (o := .tup [V.int m, bh]) (Same.refl H1) ht
      refine told q t _ (Same.new s2 hq) ((s1.trans s2).free hq) upd_same ?_
      exact Same.new (Same.refl _) hq _ _ upd_same
end
end Sw
namespace Sw
open PySem PySem.Spec PyProof.Rows L2
abbrev sGainInit : Stmt := inClass (top 19) 0
abbrev sGainGives : Stmt := inClass (top 19) 2
abbrev sGainFresh : Stmt := inClass (top 19) 5
abbrev sGainFire : Stmt := inClass (top 19) 6
abbrev sGainWork : Stmt := inClass (top 19) 7
abbrev sGainFactor : Stmt := inClass (top 19) 8
abbrev sGainTurned : Stmt := inClass (top 19) 9
/-! ### Gain -/
def Num (n : Int) : Prop := -(10 ^ 56) < n ∧ n < 10 ^ 56
theorem Num.lt {n : Int} (h : Num n) : n.natAbs < 2 ^ 200 := by
  unfold Num at h
  omega
theorem Num.mul {x y : Int} (h : Num x) (h' : Num y) : CMulW x y := wide_mul h.lt h'.lt (by decide) (by decide) (by decide)
/-- the fields of a gain -/
structure GainFs (fs : List (Str × V)) (by_ b : Int) : Prop where
  by_ : fs.lookup ("by" : Str) = some (.int by_)
  be : fs.lookup ("begin_at" : Str) = some (.int b)
  no : ∀ m : Str, m ≠ "by" → m ≠ "begin_at" → m ≠ "late_by" → m ≠ "made" → fs.lookup m = none
theorem nodeF_be (tm : Addr) (l b : Int) (fs : List (Str × V)) : (nodeF tm l b fs).lookup ("begin_at" : Str) = some (.int b) := by
  unfold nodeF
  rw [lookup_putF, if_pos rfl]
theorem nodeF_no {tm : Addr} {l b : Int} {fs : List (Str × V)} {m : Str} (h1 : m ≠ "begin_at") (h2 : m ≠ "late_by") (h3 : m ≠ "made") : (nodeF tm l b fs).lookup m = fs.lookup m := by
  unfold nodeF
  rw [lookup_putF, if_neg h1, lookup_putF, if_neg h2, lookup_putF, if_neg h3]
theorem gainFs_mk (tm : Addr) (l b by_ : Int) : GainFs (putF "by" (.int by_) (nodeF tm l b [])) by_ b := by
  refine ⟨?_, ?_, fun m h1 h2 h3 h4 => ?_⟩
  · rw [lookup_putF, if_pos rfl]
  · rw [lookup_putF, if_neg (by decide +kernel), nodeF_be]
  · rw [lookup_putF, if_neg h1, nodeF_no h2 h3 h4]
    rfl
/-- a gain's memory: m mute firings to come, where the factor stands, the factors that come next -/
def MemAt (K : PySem.W.Frag) (H : Hp) (v : V) (m st : Int) (cs : List Int) : Prop := ∃ q t c : Addr, v = .ref q ∧ SqT K H q [.int m, .ref t] ∧ SqT K H t [.int st, .ref c] ∧ SqT K H c (cs.map V.int)
theorem MemAt.keep {K : PySem.W.Frag} {H H1 : Hp} {v : V} {m st : Int} {cs : List Int} (h : MemAt K H v m st cs) (s : Same H H1) : MemAt K H1 v m st cs := by
  obtain ⟨q, t, c, e, h1, h2, h3⟩ := h
  exact ⟨q, t, c, e, Same.tup s h1, Same.tup s h2, Same.tup s h3⟩
theorem MemAt.kept {K : PySem.W.Frag} {H H1 : Hp} {p : Addr} {v : V} {m st : Int} {cs : List Int} (h : MemAt K H v m st cs) (k : Kept p H H1) (hp : PotAt H p) : MemAt K H1 v m st cs := by
  obtain ⟨q, t, c, e, h1, h2, h3⟩ := h
  exact ⟨q, t, c, e, k.tup hp h1, k.tup hp h2, k.tup hp h3⟩
def spGainInit (K : PySem.W.Frag) (C : Addr) : Sp := fun vs H Q _ => ∃ (p dx : Addr) (by_ l b : Int), vs = [.ref p, .int by_, .int l, .int b] ∧ H p = some (.ins C dx []) ∧ (0 ≤ l ∧ l ≤ 99) ∧ (0 ≤ b ∧ b ≤ 9999) ∧
  ∀ (fs : List (Str × V)) (H' : Hp), GainFs fs by_ b → Kept p H H' → H' p = some (.ins C dx fs) → Q .non H'
def spGainFresh (K : PySem.W.Frag) (C : Addr) : Sp := fun vs H Q _ => ∃ (p : Addr) (fs : List (Str × V)) (by_ b : Int), vs = [.ref p] ∧ InsAt H p C fs ∧ GainFs fs by_ b ∧ ∀ (v : V) (H' : Hp), Same H H' → MemAt K H' v b by_ [] → Q v H'
/-- where the factor stands behind a firing -/
def stHd (st : Int) (cs : List Int) : Int := cs.headD st
def spGainWork (K : PySem.W.Frag) : Sp := fun vs H Q _ => ∃ (p : V) (kt ct rt r0 : Addr) (st x : Int) (cs : List Int), vs = [p, .ref kt, .ref rt] ∧ SqT K H kt [.int st, .ref ct] ∧ SqT K H ct (cs.map V.int) ∧ SqL K H rt [.ref r0] ∧ SqL K H r0 [.int x] ∧
  Num x ∧ Num (stHd st cs) ∧ cs.length ≤ 1000 ∧ ∀ (z t c l : Addr) (H' : Hp), Same H H' → SqT K H' z [.ref t, .ref l] → SqT K H' t [.int (stHd st cs), .ref c] → SqT K H' c (cs.tail.map V.int) → H l = none → H' l = some (.lst [.int (x * stHd st cs)]) → Q (.ref z) H'
def spGainFactor (K : PySem.W.Frag) : Sp := fun vs H Q _ => ∃ (p v : V) (m st : Int) (cs : List Int), vs = [p, v] ∧ MemAt K H v m st cs ∧ Q (.int st) H
def spGainTurned (K : PySem.W.Frag) (CS : Addr) : Sp := fun vs H Q E => ∃ (p v z : V) (m st y : Int) (cs : List Int), vs = [p, v, .int y, z] ∧ MemAt K H v m st cs ∧
  ((∃ n : Nat, z = .int (n : Int) ∧ n ≤ 400 ∧ ∀ (u : V) (H' : Hp), Same H H' → MemAt K H' u m (if n = 0 then y else st) ((List.range n).map (rampAt st y n)) → Q u H') ∨ (OddV K H z ∧ E (.ref CS) none H))
theorem wide_gainWork {K : PySem.W.Frag} : Wide1 (spGainWork K) := by
  rintro vs H Q Q' E hq ⟨p, kt, ct, rt, r0, st, x, cs, e, h1, h2, h3, h4, h5, h6, h7, k⟩
  exact ⟨p, kt, ct, rt, r0, st, x, cs, e, h1, h2, h3, h4, h5, h6, h7, fun z t c l H' a1 a2 a3 a4 a5 a6 => hq _ _ (k z t c l H' a1 a2 a3 a4 a5 a6)⟩
section
variable {P : Program} {w : World} {K : PySem.W.Frag} {mg : Str → Option Value} {base : Heap} {f f1 f2 f3 f4 f5 f6 C CW CN : Addr} {fd fd1 fd2 fd3 fd4 fd5 fd6 : FuncData}
theorem scGives : FnScope ["self"] ["self"] (defScope sGainGives) := ⟨rfl, rfl, rfl, by decide +kernel, rfl, by decide +kernel, by decide +kernel⟩
theorem ok_gives (F : FnM K "gives" "Gain.gives" sGainGives f fd) : FnOk P w K mg base CX0 1 f fd ["self"] (spGives1 C) := by
  refine F.ok scGives (fun vs H Q E h => ?_) (fun cdv A outer s H vs Q E hr h => ?_)
  · obtain ⟨p, dx, fs, rfl, _⟩ := h
    rfl
  · obtain ⟨p, dx, fs, rfl, hp, k⟩ := h
    exact ⟨_, PSs.nox (pss_one (ps_ret pe_int)), k⟩
theorem scGainInit : FnScope ["self", "by", "late", "begin"] ["self", "by", "late", "begin"] (defScope sGainInit) := ⟨rfl, rfl, rfl, by decide +kernel, rfl, by decide +kernel, by decide +kernel⟩
theorem ok_gainInit {kws : List (Str × V)} (F : FunD K "__init__" "Gain.__init__" (defArgs sGainInit) (defBody sGainInit) (defScope sGainInit) [] kws f fd) (GN : FnOk P w K mg base CX0 1 f1 fd1 ["holds", "field"] spNeed) (gN : mg "need" = some (.ref f1)) (kN : PySem.W.keepIn K (.ref f1) = true) (bN : Binds K fd1 ["holds", "field"] [])
    (GI : FnOk P w K mg base CX0 1 f2 fd2 ["thing"] (spWhole K)) (gI : mg "is_whole" = some (.ref f2)) (kI : PySem.W.keepIn K (.ref f2) = true) (bI : Binds K fd2 ["thing"] [])
    (GB : FnOk P w K mg base CX0 3 f3 fd3 ["self", "arguments", "late", "begin"] (spNodeInit K C)) (gB : mg "Node" = some (.ref CN)) (mB : BaseM K CN "__init__" f3) (bB : Binds K fd3 ["self", "arguments", "late", "begin"] [])
    (T : NodeC K C) (nBy : NoAttr K C "by") : FnOk P w K mg base CX0 4 f fd ["self", "by", "late", "begin"] (spGainInit K C) := by
  refine F.ok scGainInit (fun vs H Q E h => ?_) (fun cdv A outer s H vs Q E hr h => ?_)
  · obtain ⟨p, dx, by_, l, b, rfl, _⟩ := h
    rfl
  · obtain ⟨p, dx, by_, l, b, rfl, hp, hl, hb, k⟩ := h
    have hr1 : Room 1 _ := hr.mono (by decide)
    refine ⟨_, PSs.nox (pss_cons (ps_expr (pe_call GN hr1 rfl gN kN bN .nil pass0 (pa_cons (pe_call GI hr1 rfl gI kI bI .nil pass0 (pa_cons (pv 1) pa_nil)) (pa_cons pe_str pa_nil))))
      (pss_cons (ps_expr (pe_base (pe_glob (v := .ref CN) rfl gB rfl) mB GB hr bB .nil pass0 (pa_cons (pv 0) (pa_cons (pe_tup (pa_cons (pv 1) pa_nil)) (pa_cons (pv 2) (pa_cons (pv 3) pa_nil))))))
      (pss_one (ps_fld (pv 0) (pv 1) rfl)))), ?_⟩
    refine ⟨_, rfl, _, rfl, .inl ⟨by_, rfl, _, rfl, ?_⟩⟩
    refine ⟨rfl, _, rfl, _, rfl, (by show 1 ≤ sizeLine; decide), fun t ht => ?_⟩
    have hp1 := Same.new (o := .tup [V.int by_]) (Same.refl _) ht _ _ hp
    refine ⟨_, rfl, _, rfl, p, t, dx, [], [.int by_], l, b, rfl, hp1, .inl (.inl upd_same), hl, hb, by decide, by show 1 ≤ 1000; decide, fun tm htm => ?_⟩
    refine ⟨_, rfl, _, rfl, p, C, dx, _, rfl, upd_same, T.cl, nBy, ?_, ?_⟩
    · unfold nodeF
      have l1 := putF_le "made" (.ref tm) []
      have l2 := putF_le "late_by" (.int l) (putF "made" (.ref tm) [])
      have l3 := putF_le "begin_at" (.int b) (putF "late_by" (.int l) (putF "made" (.ref tm) []))
      have l0 : ([] : List (Str × V)).length = 0 := rfl
      omega
    · rw [upd_upd]
      exact k _ _ (gainFs_mk tm l b by_) (Kept.upd (Kept.new (Kept.new Kept.refl ht) htm)) upd_same
theorem scGainFresh : FnScope ["self"] ["self"] (defScope sGainFresh) := ⟨rfl, rfl, rfl, by decide +kernel, rfl, by decide +kernel, by decide +kernel⟩
theorem ok_gainFresh (F : FnM K "fresh" "Gain.fresh" sGainFresh f fd) (T : NodeC K C) (nBy : NoAttr K C "by") : FnOk P w K mg base CX0 1 f fd ["self"] (spGainFresh K C) := by
  refine F.ok scGainFresh (fun vs H Q E h => ?_) (fun cdv A outer s H vs Q E hr h => ?_)
  · obtain ⟨p, fs, by_, b, rfl, _⟩ := h
    rfl
  · obtain ⟨p, fs, by_, b, rfl, ⟨dx, hp⟩, hf, k⟩ := h
    refine ⟨_, PSs.nox (pss_one (ps_ret (pe_tup (pa_cons (pe_fld (pv 0) rfl) (pa_cons (pe_tup (pa_cons (pe_fld (pv 0) rfl) (pa_cons (pe_tup pa_nil) pa_nil))) pa_nil))))), ?_⟩
    refine ⟨_, rfl, p, C, dx, _, _, rfl, hp, T.cl, T.nB, hf.be, ?_⟩
    refine ⟨_, rfl, p, C, dx, _, _, rfl, hp, T.cl, nBy, hf.by_, (by show 0 ≤ sizeLine; decide), fun c hc => ?_⟩
    refine ⟨(by show 2 ≤ sizeLine; decide), fun t ht => ?_⟩
    refine ⟨(by show 2 ≤ sizeLine; decide), fun q hq => ?_⟩
    refine k _ _ (Same.new (Same.new (Same.new (Same.refl _) hc) ht) hq) ⟨q, t, c, rfl, .inl (.inl upd_same), .inl (.inl (Same.new (Same.refl _) hq _ _ upd_same)), .inl (.inl ?_)⟩
    exact Same.new (Same.new (Same.refl _) ht) hq _ _ upd_same
theorem scGainFire : FnScope ["self", "memory", "rows"] ["self", "memory", "rows"] (defScope sGainFire) := ⟨rfl, rfl, rfl, by decide +kernel, rfl, by decide +kernel, by decide +kernel⟩
theorem ok_gainFire {sp : Sp} {k : Nat} (F : FnM K "fire" "Gain.fire" sGainFire f fd) (GF : FnOk P w K mg base CX0 k f1 fd1 ["node", "memory", "rows"] (spFiring K C sp)) (gF : mg "run_firing" = some (.ref f1)) (kF : PySem.W.keepIn K (.ref f1) = true) (bF : Binds K fd1 ["node", "memory", "rows"] []) :
    FnOk P w K mg base CX0 (k + 1) f fd ["self", "memory", "rows"] (spFiring K C sp) := by
  refine F.ok scGainFire (fun vs H Q E h => ?_) (fun cdv A outer s H vs Q E hr h => ?_)
  · obtain ⟨p, tm, fs, m, kept, rows, rfl, _⟩ := h
    rfl
  · obtain ⟨p, tm, fs, m, kept, rows, rfl, h⟩ := h
    refine ⟨_, PSs.nox (pss_one (ps_ret (pe_call GF hr rfl gF kF bF .nil pass0 (pa_cons (pv 0) (pa_cons (pv 1) (pa_cons (pv 2) pa_nil)))))), ?_⟩
    exact ⟨_, rfl, _, rfl, _, rfl, p, tm, fs, m, kept, rows, rfl, h⟩
theorem scGainWork : FnScope ["self", "kept", "rows", "stands", "coming"] ["self", "kept", "rows"] (defScope sGainWork) := ⟨rfl, rfl, rfl, by decide +kernel, rfl, by decide +kernel, by decide +kernel⟩
theorem ok_gainWork (F : FnM K "work" "Gain.work" sGainWork f fd) : FnOk P w K mg base CX0 1 f fd ["self", "kept", "rows"] (spGainWork K) := by
  refine F.ok scGainWork (fun vs H Q E h => ?_) (fun cdv A outer s H vs Q E hr h => ?_)
  · obtain ⟨p, kt, ct, rt, r0, st, x, cs, rfl, _⟩ := h
    rfl
  · obtain ⟨p, kt, ct, rt, r0, st, x, cs, rfl, h1, h2, h3, h4, nx, ns, lc, k⟩ := h
    refine ⟨_, PSs.nox (pss_cons (ps_asg (pv 1) (pg_tup rfl (pgs_cons (pg_name (i := 3) scGainWork.nd rfl (Or.inl rfl)) (pgs_cons (pg_name (i := 4) scGainWork.nd rfl (Or.inl rfl)) pgs_nil))))
      (pss_cons (ps_if (pt_truth (pv 4) (by intro _; rfl)) (pss_one (ps_set (i := 3) scGainWork.nd rfl (Or.inl rfl) (pe_ix ix_tup (pv 4) pe_int (fun _ _ => rfl)))) pss_nil)
      (pss_one (ps_ret (pe_tup (pa_cons (pe_tup (pa_cons (pv 3) (pa_cons (pe_slice sl_tupA (pv 4) (po_some pe_int) po_none) pa_nil)))
        (pa_cons (pe_lst (pa_cons (pe_op op_mulW (pe_ix ix_list (pe_ix ix_list (pv 2) pe_int (fun _ _ => rfl)) pe_int (fun _ _ => rfl)) (pv 3)) pa_nil)) pa_nil))))))), ?_⟩
    refine ⟨_, rfl, kt, _, rfl, h1, rfl, _, _, rfl, _, _, rfl, rfl, ?_⟩
    -- the rest, wherever the factor stands
    have rest : ∀ (H1 : Hp) (c : Addr), Same H H1 → SqT K H1 c (cs.tail.map V.int) → ∀ t, H1 t = none → ∀ l, (upd H1 t (.tup [.int (stHd st cs), .ref c])) l = none → ∀ z, (upd (upd H1 t (.tup [.int (stHd st cs), .ref c])) l (.lst [.int (x * stHd st cs)])) z = none →
        Q (.ref z) (upd (upd (upd H1 t (.tup [.int (stHd st cs), .ref c])) l (.lst [.int (x * stHd st cs)])) z (.tup [.ref t, .ref l])) := by
      intro H1 c s1 hc t ht l hl z hz
      have s2 := Same.new (o := .tup [.int (stHd st cs), .ref c]) s1 ht
      have s3 := Same.new (o := .lst [.int (x * stHd st cs)]) s2 hl
      refine k z t c l _ (Same.new s3 hz) (.inl (.inl upd_same)) (.inl (.inl ?_)) ?_ (s2.free hl) ?_
      · exact Same.new (Same.new (Same.refl _) hl) hz _ _ upd_same
      · exact Same.tup (Same.new (Same.new (Same.new (Same.refl _) ht) hl) hz) hc
      · exact Same.new (Same.refl _) hz _ _ upd_same
    cases cs with
    | nil =>
      refine ⟨_, rfl, false, .inr (.inl ⟨_, h2, rfl⟩), iteF ?_⟩
      refine ⟨_, rfl, _, rfl, _, rfl, ct, _, rfl, h2, fun _ => ?_, fun z => ?_⟩
      · refine ⟨(by show 2 ≤ sizeLine; decide), fun t ht => ?_⟩
        refine ⟨_, rfl, rt, _, _, _, rfl, rfl, Same.seq (Same.new (Same.refl _) ht) h3, atI_nat (j := 0) rfl, r0, _, _, _, rfl, rfl, Same.seq (Same.new (Same.refl _) ht) h4, atI_nat (j := 0) rfl, _, rfl, _, _, rfl, rfl, nx.mul ns, (by show 1 ≤ sizeLine; decide), fun l hl => ?_⟩
        exact ⟨(by show 2 ≤ sizeLine; decide), fun z hz => rest H ct (Same.refl _) h2 t ht l hl z hz⟩
      · exact absurd ⟨rfl, rfl⟩ z
    | cons c0 cr =>
      refine ⟨_, rfl, true, .inr (.inl ⟨_, h2, rfl⟩), iteT ?_⟩
      refine ⟨_, rfl, ct, _, _, _, rfl, rfl, h2, atI_nat (j := 0) rfl, ?_⟩
      have e1 : HT.sIx ((c0 :: cr).map V.int).length 0 (some 1) = 1 := by
        show HT.sIx ((c0 :: cr).map V.int).length 0 (some ((1 : Nat) : Int)) = 1
        rw [HT.sIx_nat, List.length_map, List.length_cons]
        omega
      refine ⟨_, rfl, _, rfl, _, rfl, ct, _, rfl, h2, fun z => ?_, fun _ c hc => ?_⟩
      · have z1 := z.1
        rw [e1] at z1
        cases z1
      · have ec : cutV ((c0 :: cr).map V.int) (some 1) none = cr.map V.int := by
          unfold cutV
          rw [e1, HT.sIx_none]
          show (cr.map V.int).take ((cr.map V.int).length + 1 - 1) = _
          rw [Nat.add_sub_cancel, List.take_length]
        rw [ec]
        have s1 := Same.new (o := .tup (cr.map V.int)) (Same.refl H) hc
        refine ⟨(by show 2 ≤ sizeLine; decide), fun t ht => ?_⟩
        have s2 := Same.new (o := .tup [V.int c0, V.ref c]) s1 ht
        refine ⟨_, rfl, rt, _, _, _, rfl, rfl, s2.seq h3, atI_nat (j := 0) rfl, r0, _, _, _, rfl, rfl, s2.seq h4, atI_nat (j := 0) rfl, _, rfl, _, _, rfl, rfl, nx.mul ns, (by show 1 ≤ sizeLine; decide), fun l hl => ?_⟩
        exact ⟨(by show 2 ≤ sizeLine; decide), fun z hz => rest _ c s1 (.inl (.inl upd_same)) t ht l hl z hz⟩
theorem scGainFactor : FnScope ["self", "memory", "mutes", "stands", "coming"] ["self", "memory"] (defScope sGainFactor) := ⟨rfl, rfl, rfl, by decide +kernel, rfl, by decide +kernel, by decide +kernel⟩
theorem ok_gainFactor (F : FnM K "factor" "Gain.factor" sGainFactor f fd) : FnOk P w K mg base CX0 1 f fd ["self", "memory"] (spGainFactor K) := by
  refine F.ok scGainFactor (fun vs H Q E h => ?_) (fun cdv A outer s H vs Q E hr h => ?_)
  · obtain ⟨p, v, m, st, cs, rfl, _⟩ := h
    rfl
  · obtain ⟨p, v, m, st, cs, rfl, ⟨q, t, c, rfl, h1, h2, h3⟩, k⟩ := h
    refine ⟨_, PSs.nox (pss_cons (ps_asg (pv 1) (pg_tup rfl (pgs_cons (pg_name (i := 2) scGainFactor.nd rfl (Or.inl rfl)) (pgs_cons (pg_tup rfl (pgs_cons (pg_name (i := 3) scGainFactor.nd rfl (Or.inl rfl)) (pgs_cons (pg_name (i := 4) scGainFactor.nd rfl (Or.inl rfl)) pgs_nil))) pgs_nil))))
      (pss_one (ps_ret (pv 3)))), ?_⟩
    exact ⟨_, rfl, q, _, rfl, h1, rfl, _, _, rfl, _, _, rfl, ⟨t, _, rfl, h2, rfl, _, _, rfl, _, _, rfl, rfl, rfl, _, rfl, k⟩⟩
theorem scGainTurned : FnScope ["self", "memory", "by", "steps", "mutes", "stands", "coming", "ahead"] ["self", "memory", "by", "steps"] (defScope sGainTurned) := ⟨rfl, rfl, rfl, by decide +kernel, rfl, by decide +kernel, by decide +kernel⟩
theorem ok_gainTurned (F : FnM K "turned" "Gain.turned" sGainTurned f fd) (GR : FnOk P w K mg base (L2.CX P w) 4 f1 fd1 ["first", "last", "steps"] (spRamp K C)) (gR : mg "ramp" = some (.ref f1)) (kR : PySem.W.keepIn K (.ref f1) = true) (bR : Binds K fd1 ["first", "last", "steps"] []) (gT : mg "tuple" = none) :
    FnOk P w K mg base (L2.CX P w) 5 f fd ["self", "memory", "by", "steps"] (spGainTurned K C) := by
  refine F.ok scGainTurned (fun vs H Q E h => ?_) (fun cdv A outer s H vs Q E hr h => ?_)
  · obtain ⟨p, v, z, m, st, y, cs, rfl, _⟩ := h
    rfl
  · obtain ⟨p, v, z, m, st, y, cs, rfl, ⟨q, t, c, rfl, h1, h2, h3⟩, h⟩ := h
    refine ⟨_, pss_cons (ps_asg (pv 1) (pg_tup rfl (pgs_cons (pg_name (i := 4) scGainTurned.nd rfl (Or.inl rfl)) (pgs_cons (pg_tup rfl (pgs_cons (pg_name (i := 5) scGainTurned.nd rfl (Or.inl rfl)) (pgs_cons (pg_name (i := 6) scGainTurned.nd rfl (Or.inl rfl)) pgs_nil))) pgs_nil))))
      (pss_cons (ps_set (i := 7) scGainTurned.nd rfl (Or.inl rfl) (pe_call (E := E) GR hr rfl gR kR bR .nil (passes_call (takes_of rfl rfl rfl rfl) (fun _ _ _ _ e => e)) (pa_cons (pv 5) (pa_cons (pv 2) (pa_cons (pv 3) pa_nil)))))
      (PSs.nox (pss_cons (ps_if (pt_not (pt_truth (pv 7) (by intro _; rfl))) (pss_one (ps_set (i := 5) scGainTurned.nd rfl (Or.inl rfl) (pv 2))) pss_nil)
      (pss_one (ps_ret (pe_tup (pa_cons (pv 4) (pa_cons (pe_tup (pa_cons (pv 5) (pa_cons (pe_callTy call_tuple_of (by rfl) gT (by decide +kernel) (pa_cons (pv 7) pa_nil)) pa_nil))) pa_nil)))))))), ?_⟩
    refine ⟨_, rfl, q, _, rfl, h1, rfl, _, _, rfl, _, _, rfl, ⟨t, _, rfl, h2, rfl, _, _, rfl, _, _, rfl, rfl, rfl, ?_⟩⟩
    refine ⟨_, rfl, _, rfl, _, rfl, st, y, z, rfl, ?_⟩
    rcases h with ⟨n, rfl, hn, k⟩ | ⟨od, kE⟩
    · refine .inl ⟨n, rfl, hn, fun l hl => ?_⟩
      have eL : rampL st y n n = ((List.range n).map (rampAt st y n)).map V.int := by
        unfold rampL
        rw [List.map_map]
        rfl
      rw [eL]
      have len : ((List.range n).map (rampAt st y n)).length = n := by rw [List.length_map, List.length_range]
      generalize (List.range n).map (rampAt st y n) = rs at k len
      have s1 := Same.new (o := .lst (rs.map V.int)) (Same.refl H) hl
      have hL : (upd H l (.lst (rs.map V.int))) l = some (.lst (rs.map V.int)) := upd_same
      generalize upd H l (.lst (rs.map V.int)) = HL at s1 hL
      have fin : ∀ (z0 : Int), z0 = (if n = 0 then y else st) → ∀ c2, HL c2 = none → ∀ t2, (upd HL c2 (.tup (rs.map V.int))) t2 = none → ∀ q2, (upd (upd HL c2 (.tup (rs.map V.int))) t2 (.tup [.int z0, .ref c2])) q2 = none →
          Q (.ref q2) (upd (upd (upd HL c2 (.tup (rs.map V.int))) t2 (.tup [.int z0, .ref c2])) q2 (.tup [.int m, .ref t2])) := by
        intro z0 ez c2 hc2 t2 ht2 q2 hq2
        have s2 := Same.new (o := .tup (rs.map V.int)) s1 hc2
        have s3 := Same.new (o := .tup [V.int z0, V.ref c2]) s2 ht2
        refine k _ _ (Same.new s3 hq2) ⟨q2, t2, c2, rfl, .inl (.inl upd_same), .inl (.inl ?_), .inl (.inl ?_)⟩
        · rw [← ez]
          exact Same.new (Same.refl _) hq2 _ _ upd_same
        · exact Same.new (Same.new (Same.refl _) ht2) hq2 _ _ upd_same
      by_cases n0 : n = 0
      · have er : rs = [] := List.eq_nil_of_length_eq_zero (by omega)
        refine ⟨_, rfl, false, .inl ⟨_, SqL.of hL, by rw [er]; rfl⟩, iteT ?_⟩
        refine ⟨_, rfl, _, rfl, _, rfl, _, rfl, l, _, rfl, .inl ⟨SqL.of hL, fun c2 hc2 => ?_⟩⟩
        refine ⟨(by show 2 ≤ sizeLine; decide), fun t2 ht2 => ⟨(by show 2 ≤ sizeLine; decide), fun q2 hq2 => ?_⟩⟩
        exact fin y (by rw [if_pos n0]) c2 hc2 t2 ht2 q2 hq2
      · refine ⟨_, rfl, true, .inl ⟨_, SqL.of hL, ?_⟩, iteF ?_⟩
        · cases rs with
          | nil => exact absurd len.symm n0
          | cons r0 rr => rfl
        refine ⟨_, rfl, _, rfl, _, rfl, l, _, rfl, .inl ⟨SqL.of hL, fun c2 hc2 => ?_⟩⟩
        refine ⟨(by show 2 ≤ sizeLine; decide), fun t2 ht2 => ⟨(by show 2 ≤ sizeLine; decide), fun q2 hq2 => ?_⟩⟩
        exact fin st (by rw [if_neg n0]) c2 hc2 t2 ht2 q2 hq2
    · exact .inr ⟨od, kE⟩
end
end Sw
namespace Sw
open PySem PySem.Spec PyProof.Rows L2
abbrev sLRamp : Stmt := top 25
abbrev sLRefused : Stmt := top 26
abbrev sLTurned : Stmt := top 27
abbrev sLFired : Stmt := top 28
abbrev sLaw : Stmt := top 29
/-! ### what the law keeps of a gain's memory -/
def OwnAt (p : Addr) (H : Hp) (v : V) (m st : Int) (cs : List Int) : Prop := ∃ o l : Addr, v = .ref o ∧ l ≠ p ∧ H o = some (.lst [.int m, .int st, .ref l]) ∧ H l = some (.lst (cs.map V.int))
structure Good (m st : Int) (cs : List Int) : Prop where
  hm : 0 ≤ m ∧ m ≤ 3
  hst : Num st
  hcs : ∀ c ∈ cs, Num c
  few : cs.length ≤ 400
def Entry (K : PySem.W.Frag) (p : Addr) (H : Hp) (v : V) : Prop := ∃ (t : Addr) (mem own : V) (m st : Int) (cs : List Int), v = .ref t ∧ SqT K H t [mem, own] ∧ MemAt K H mem m st cs ∧ OwnAt p H own m st cs ∧ Good m st cs
theorem OwnAt.keep {p : Addr} {H H1 : Hp} {v : V} {m st : Int} {cs : List Int} (h : OwnAt p H v m st cs) (s : Same H H1) : OwnAt p H1 v m st cs := by
  obtain ⟨o, l, e, n, h1, h2⟩ := h
  exact ⟨o, l, e, n, s _ _ h1, s _ _ h2⟩
theorem OwnAt.kept {p : Addr} {H H1 : Hp} {v : V} {m st : Int} {cs : List Int} (h : OwnAt p H v m st cs) (k : Kept p H H1) (hp : PotAt H p) : OwnAt p H1 v m st cs := by
  obtain ⟨o, l, e, n, h1, h2⟩ := h
  obtain ⟨x, y, _, _, _, hp⟩ := hp
  exact ⟨o, l, e, n, k.at hp h1 (fun z => by cases z), k _ _ n h2⟩
theorem Entry.keep {K : PySem.W.Frag} {p : Addr} {H H1 : Hp} {v : V} (h : Entry K p H v) (s : Same H H1) : Entry K p H1 v := by
  obtain ⟨t, mem, own, m, st, cs, e, h1, h2, h3, g⟩ := h
  exact ⟨t, mem, own, m, st, cs, e, Same.tup s h1, h2.keep s, h3.keep s, g⟩
theorem Entry.kept {K : PySem.W.Frag} {p : Addr} {H H1 : Hp} {v : V} (h : Entry K p H v) (k : Kept p H H1) (hp : PotAt H p) : Entry K p H1 v := by
  obtain ⟨t, mem, own, m, st, cs, e, h1, h2, h3, g⟩ := h
  exact ⟨t, mem, own, m, st, cs, e, k.tup hp h1, h2.kept k hp, h3.kept k hp, g⟩
/-! ### the mathematics: a ramp stays between its ends -/
theorem ramp_num {x y : Int} {n i : Nat} (hx : Num x) (hy : Num y) (hi : i < n) : Num (rampAt x y n i) := by
  have n0 : (0 : Int) < (n : Int) := by omega
  have i0 : (0 : Int) ≤ (i : Int) + 1 := by omega
  have i1 : (i : Int) + 1 ≤ (n : Int) := by omega
  unfold Num at hx hy ⊢
  unfold rampAt
  by_cases h : 0 ≤ y - x
  · have a1 : 0 ≤ (y - x) * ((i : Int) + 1) / (n : Int) := Int.ediv_nonneg (Int.mul_nonneg h i0) (by omega)
    have a2 : (y - x) * ((i : Int) + 1) / (n : Int) ≤ y - x := by
      refine Int.ediv_le_of_le_mul n0 ?_
      exact Int.mul_le_mul_of_nonneg_left i1 h
    omega
  · have a1 : (y - x) * ((i : Int) + 1) / (n : Int) ≤ 0 := by
      refine Int.ediv_le_of_le_mul n0 ?_
      rw [Int.zero_mul]
      exact Int.mul_nonpos_of_nonpos_of_nonneg (by omega) i0
    have a2 : y - x ≤ (y - x) * ((i : Int) + 1) / (n : Int) := by
      refine Int.le_ediv_of_mul_le n0 ?_
      exact Int.mul_le_mul_of_nonpos_left (by omega) i1
    omega
theorem good_turned {m st y : Int} {cs : List Int} {n : Nat} (g : Good m st cs) (hy : Num y) (hn : n ≤ 400) : Good m (if n = 0 then y else st) ((List.range n).map (rampAt st y n)) := by
  refine ⟨g.hm, ?_, fun c hc => ?_, by rw [List.length_map, List.length_range]; exact hn⟩
  · split
    · exact hy
    · exact g.hst
  · obtain ⟨i, hi, rfl⟩ := List.mem_map.mp hc
    exact ramp_num g.hst hy (List.mem_range.mp hi)
theorem good_fired {m st : Int} {cs : List Int} (g : Good m st cs) : Good 0 (stHd st cs) cs.tail ∧ Num (stHd st cs) := by
  have h : Num (stHd st cs) := by
    cases cs with
    | nil => exact g.hst
    | cons c r => exact g.hcs c List.mem_cons_self
  refine ⟨⟨by omega, h, fun c hc => g.hcs c (List.mem_of_mem_tail hc), ?_⟩, h⟩
  have := g.few
  rw [List.length_tail]
  omega
/-! ### a memory as data -/
def memD (m st : Int) (cs : List Int) : PyData := .tuple [.int m, .tuple [.int st, .tuple (cs.map .int)]]
theorem memD_dp {K : PySem.W.Frag} {H : Hp} {q : Addr} {m st : Int} {cs : List Int} (h : MemAt K H (.ref q) m st cs) : Dp K H (.ref q) (memD m st cs) := by
  obtain ⟨q', t, c, e, h1, h2, h3⟩ := h
  cases e
  exact .tup h1 (.cons (.int m) (.cons (.tup h2 (.cons (.int st) (.cons (.tup h3 (dp_ints cs)) .nil))) .nil))
theorem memD_shaped (m st : Int) (cs : List Int) : SeqAt.shaped (memD m st cs) = true := by
  have h1 := lay_ints cs
  have h2 := depth_ints cs
  unfold SeqAt.shaped memD
  simp [PyData.canLay0, PyData.canLayAll0, PyData.depth, PyData.depthAll, h1, h2]
theorem Num.log {n : Int} (h : Num n) : n.natAbs.log2 < 1920 := log2_of (b := 200) h.lt (by decide) (by decide)
theorem show_ints : ∀ cs : List Int, (∀ c ∈ cs, Num c) → PyData.showableAll (cs.map PyData.int) = true
  | [], _ => rfl
  | c :: r, h => by
    rw [List.map_cons, PyData.showableAll, show_ints r fun z hz => h z (List.mem_cons_of_mem _ hz), PyData.showable, decide_eq_true (h c List.mem_cons_self).log]
    rfl
theorem Good.mlog {m st : Int} {cs : List Int} (g : Good m st cs) : m.natAbs.log2 < 1920 := by
  have := g.hm
  exact log2_of (b := 200) (by omega) (by decide) (by decide)
theorem memD_show {m st : Int} {cs : List Int} (g : Good m st cs) : (memD m st cs).showable = true := by
  have h1 := show_ints cs g.hcs
  unfold memD
  simp [PyData.showable, PyData.showableAll, h1, decide_eq_true g.mlog, decide_eq_true g.hst.log, g.mlog, g.hst.log]
theorem memD_len {m st : Int} {cs : List Int} (g : Good m st cs) : (memD m st cs).shown.length ≤ sizeLine := by
  have l1 : (PyData.shown (.tuple (cs.map PyData.int))).length ≤ 769203 := by
    refine Nat.le_trans (shown_tuple (B := 1921) fun d hd => ?_) ?_
    · obtain ⟨c, hc, rfl⟩ := List.mem_map.mp hd
      exact shown_num (g.hcs c hc).log
    · rw [List.length_map]
      have := g.few
      omega
  have l2 : (PyData.shown (.tuple [.int st, .tuple (cs.map PyData.int)])).length ≤ 1538413 := by
    refine Nat.le_trans (shown_tuple (B := 769203) fun d hd => ?_) (by show (769203 + 2) * 2 + 3 ≤ 1538413; decide)
    rcases List.mem_cons.mp hd with rfl | hd
    · exact Nat.le_trans (shown_num g.hst.log) (by decide)
    · rcases List.mem_cons.mp hd with rfl | hd
      · exact l1
      · cases hd
  refine Nat.le_trans (shown_tuple (B := 1538413) fun d hd => ?_) (by show (1538413 + 2) * 2 + 3 ≤ sizeLine; decide)
  rcases List.mem_cons.mp hd with rfl | hd
  · exact Nat.le_trans (shown_num g.mlog) (by decide)
  · rcases List.mem_cons.mp hd with rfl | hd
    · exact l2
    · cases hd
/-- [x] as data -/
theorem oneD_show {x : Int} (h : x.natAbs.log2 < 1920) : (PyData.list [.int x]).showable = true := by
  simp [PyData.showable, PyData.showableAll, h]
theorem oneD_len {x : Int} (h : x.natAbs.log2 < 1920) : (PyData.list [.int x]).shown.length ≤ sizeLine := by
  refine Nat.le_trans (shown_list (B := 1921) fun d hd => ?_) (by show (1921 + 2) * 1 + 3 ≤ sizeLine; decide)
  rcases List.mem_cons.mp hd with rfl | hd
  · exact shown_num h
  · cases hd
theorem oneD_shaped (x : Int) : SeqAt.shaped (PyData.list [.int x]) = true := shaped_ints [x]
end Sw
namespace Sw
open PySem PySem.Spec PyProof.Rows L2
def spLRamp : Sp := fun vs H Q _ => ∃ (x y : Int) (n : Nat), vs = [.int x, .int y, .int (n : Int)] ∧ 0 < n ∧ n ≤ 400 ∧ ∀ l, H l = none → Q (.ref l) (upd H l (.lst (rampL x y n n)))
def spLRefused (K : PySem.W.Frag) (C : Addr) : Sp := fun vs H Q _ => ∃ (nd : Addr) (fs : List (Str × V)) (by_ b m st : Int) (cs : List Int) (mem z : V), vs = [.ref nd, mem, z] ∧ InsAt H nd C fs ∧ GainFs fs by_ b ∧ MemAt K H mem m st cs ∧ OddV K H z ∧ Q (.bl true) H
/-- a deed of the law: the pot, the node, a memory and what is kept of it -/
def spDeed (K : PySem.W.Frag) (C : Addr) : Sp := fun vs H Q _ => ∃ (p nd q : Addr) (fs : List (Str × V)) (by_ b m st : Int) (cs : List Int) (own : V), vs = [.ref p, .ref nd, .ref q, own] ∧ PotAt H p ∧ InsAt H nd C fs ∧ GainFs fs by_ b ∧
  MemAt K H (.ref q) m st cs ∧ OwnAt p H own m st cs ∧ Good m st cs ∧ ∀ (v : V) (H' : Hp), Kept p H H' → PotAt H' p → Entry K p H' v → Q v H'
section
variable {P : Program} {w : World} {K : PySem.W.Frag} {mg : Str → Option Value} {base : Heap} {f f1 f2 f3 f4 f5 f6 C CS CW CN : Addr} {fd fd1 fd2 fd3 fd4 fd5 fd6 : FuncData}
theorem scLRamp : FnScope ["_law_one", "_law_other", "_law_many", "_law_k"] ["_law_one", "_law_other", "_law_many"] (defScope sLRamp) := ⟨rfl, rfl, rfl, by decide +kernel, rfl, by decide +kernel, by decide +kernel⟩
theorem ok_lRamp (F : FnP K "_law_ramp" sLRamp f fd) (gRange : mg "range" = none) : FnOk P w K mg base CX0 1 f fd ["_law_one", "_law_other", "_law_many"] spLRamp := by
  refine F.ok scLRamp (fun vs H Q E h => ?_) (fun cdv A outer s H vs Q E hr h => ?_)
  · obtain ⟨x, y, n, rfl, _⟩ := h
    rfl
  · obtain ⟨x, y, n, rfl, n0, hn, k⟩ := h
    refine ⟨_, PSs.nox (pss_one (ps_ret (pe_lc (own := [("_law_k", 3)]) (g := gName 3) (tt := tYes) rfl scLRamp.nd (pi_range1 rfl gRange (pa_cons (pv 2) pa_nil))
        (blkOk_by (N := ["_law_one", "_law_other", "_law_many", "_law_k"]) (sc := defScope sLRamp) (by decide +kernel)) (fun _ _ _ _ _ => pg_name (i := 3) scLRamp.nd rfl (Or.inl rfl)) (fun _ _ _ _ _ => pts_nil)
        (fun _ _ _ _ _ => pe_op op_add (pv 0) (pe_op op_fdiv (pe_op op_mul (pe_op op_sub (pv 1) (pv 0)) (pe_op op_add (pv 3) pe_int)) (pv 2)))))), ?_⟩
    refine ⟨_, rfl, _, rfl, by omega, by omega, fun D hD => ?_⟩
    refine lc_range (n := n) (fun i H' => H' = upd H D (.lst (rampL x y n i))) rfl (fun i H' hi e => ?_) (fun H' e => ?_)
    · subst e
      have hL : (upd H D (.lst (rampL x y n i))) D = some (.lst (rampL x y n i)) := upd_same
      have sz : (rampL x y n i).length < sizeLine := by
        rw [rampL_length]
        exact Nat.lt_of_lt_of_le (show i < 401 by omega) (by decide)
      refine ⟨rfl, ?_⟩
      unfold tYes
      refine iteT ?_
      refine ⟨_, rfl, _, rfl, _, rfl, _, _, rfl, rfl, _, rfl, _, _, rfl, rfl, _, _, rfl, rfl, .inr ⟨by omega, by omega⟩, _, rfl, _, _, rfl, rfl, ⟨by omega, by omega⟩, _, _, rfl, rfl, _, hL, sz, ?_⟩
      rw [upd_upd, rampL_succ]
      unfold rampAt
      rw [Int.zero_add]
    · subst e
      exact k D hD
theorem scLRefused : FnScope ["_law_node", "_law_memory", "_law_thing", "_law_is_due", "e"] ["_law_node", "_law_memory", "_law_thing"] (defScope sLRefused) := ⟨rfl, rfl, rfl, by decide +kernel, rfl, by decide +kernel, by decide +kernel⟩
/-- what is asked of NoSteps, where it is caught -/
structure CatS (K : PySem.W.Frag) (mg : Str → Option Value) (CS CW : Addr) : Prop where
  gW : mg "WeaveError" = some (.ref CW)
  gS : mg "NoSteps" = some (.ref CS)
  te : PySem.W.exmOne K (.ref CS) (.ref CW) = some true
  ex : ExcC K CS
  i1 : PySem.W.kitOne K (.ref CS) (.ref CS) = some true
theorem ok_lRefused (F : FnP K "_law_refused" sLRefused f fd) (c : Cls K C) (GT : FnOk P w K mg base (L2.CX P w) 5 f1 fd1 ["self", "memory", "by", "steps"] (spGainTurned K CS)) (mT : Meth K C "turned" f1) (bT : Binds K fd1 ["self", "memory", "by", "steps"] []) (T : CatS K mg CS CW) (gIs : mg "isinstance" = none) :
    FnOk P w K mg base CX0 6 f fd ["_law_node", "_law_memory", "_law_thing"] (spLRefused K C) := by
  refine F.ok scLRefused (fun vs H Q E h => ?_) (fun cdv A outer s H vs Q E hr h => ?_)
  · obtain ⟨nd, fs, by_, b, m, st, cs, mem, z, rfl, _⟩ := h
    rfl
  · obtain ⟨nd, fs, by_, b, m, st, cs, mem, z, rfl, ⟨dx, hn⟩, gf, hm, od, kk⟩ := h
    refine ⟨_, PSs.nox (pss_cons (ps_set (i := 3) scLRefused.nd rfl (Or.inl rfl) pe_bl)
      (pss_cons (ps_try_as (i := 4) rfl rfl scLRefused.nd rfl rfl ⟨rfl, by decide, .inl T.gW⟩ takes0
          (fun W pn xe tk _ => pss_one (ps_expr (pe_methT (pv 0) c mT GT hr bT (fun σ => passAt tk σ) (pa_cons (pv 1) (pa_cons pe_int (pa_cons (pv 2) pa_nil))))))
          (fun a oe cls d pn hz hf => pss_one (ps_set (i := 3) scLRefused.nd rfl (Or.inl rfl) (pe_callB (call_isE2 T.ex hz hf) (by rfl) gIs boot_isinstance (pa_cons (pv 4) (pa_cons (pe_glob (v := .ref CS) rfl T.gS rfl) pa_nil))))))
      (pss_one (ps_ret (pv 3))))), ?_⟩
    refine ⟨_, rfl, nd, dx, fs, rfl, hn, gf.no _ (by decide +kernel) (by decide +kernel) (by decide +kernel) (by decide +kernel), _, rfl, _, rfl, .ref nd, mem, z, m, st, 1, cs, rfl, hm, .inr ⟨od, ?_⟩⟩
    refine ⟨true, T.te, fun _ a ha => ?_, fun z => Bool.noConfusion z⟩
    refine ⟨_, rfl, rfl, rfl, _, _, true, rfl, fun _ z => z, T.i1, ?_⟩
    exact ⟨_, rfl, kk⟩
theorem scLTurned : FnScope ["_law_pot_here", "_law_node", "_law_memory", "_law_own", "_law_number_here", "_law_many", "_law_kept", "_law_made"] ["_law_pot_here", "_law_node", "_law_memory", "_law_own"] (defScope sLTurned) := ⟨rfl, rfl, rfl, by decide +kernel, rfl, by decide +kernel, by decide +kernel⟩
theorem ok_lTurned (F : FnP K "_law_turned" sLTurned f fd) (c : Cls K C) (GT : FnOk P w K mg base (L2.CX P w) 5 f1 fd1 ["self", "memory", "by", "steps"] (spGainTurned K CS)) (mT : Meth K C "turned" f1) (bT : Binds K fd1 ["self", "memory", "by", "steps"] [])
    (GU : FnOk P w K mg base CX0 2 f2 fd2 ["_law_pot_here"] spNumber) (gU : mg "_law_number" = some (.ref f2)) (kU : PySem.W.keepIn K (.ref f2) = true) (bU : Binds K fd2 ["_law_pot_here"] [])
    (GD : FnOk P w K mg base CX0 1 f3 fd3 ["_law_pot_here", "_law_many"] spDraw) (gD : mg "_law_draw" = some (.ref f3)) (kD : PySem.W.keepIn K (.ref f3) = true) (bD : Binds K fd3 ["_law_pot_here", "_law_many"] [])
    (GR : FnOk P w K mg base CX0 1 f4 fd4 ["_law_one", "_law_other", "_law_many"] spLRamp) (gR : mg "_law_ramp" = some (.ref f4)) (kR : PySem.W.keepIn K (.ref f4) = true) (bR : Binds K fd4 ["_law_one", "_law_other", "_law_many"] [])
    (gInt : mg "int" = none) (gRepr : mg "repr" = none) : FnG P w K mg base CX0 6 f fd ["_law_pot_here", "_law_node", "_law_memory", "_law_own"] (spDeed K C) := by
  refine F.okG scLTurned (fun vs H Q E h => ?_) (fun cdv A outer s H vs Q E hr guard h => ?_)
  · obtain ⟨p, nd, q, fs, by_, b, m, st, cs, own, rfl, _⟩ := h
    rfl
  · obtain ⟨p, nd, q, fs, by_, b, m, st, cs, own, rfl, hp, hn, gf, hm, ho, g, k⟩ := h
    have hr4 : Room 5 _ := hr.mono (by decide)
    have hr2 : Room 2 _ := hr.mono (by decide)
    have hr1 : Room 1 _ := hr.mono (by decide)
    have un := hr.un
    have R : ∀ {X : Cx}, X.A = A.deeper (envOfC "_law_turned" (defScope sLTurned) s.heap.objs.size f cdv) → CallR X (.builtin "repr") (rReprD X.K) := fun {X} e => call_reprD (by rw [e]; exact guard) (by rw [e]; omega)
    refine ⟨_, PSs.nox (pss_cons (ps_set (i := 4) scLTurned.nd rfl (Or.inl rfl) (pe_call GU hr2 rfl gU kU bU .nil pass0 (pa_cons (pv 0) pa_nil)))
      (pss_cons (ps_set (i := 5) scLTurned.nd rfl (Or.inl rfl) (pe_ix ix_list (pe_lst (pa_cons (pe_call GD hr1 rfl gD kD bD .nil pass0 (pa_cons (pv 0) (pa_cons pe_int pa_nil))) (pa_cons (pe_call GD hr1 rfl gD kD bD .nil pass0 (pa_cons (pv 0) (pa_cons pe_int pa_nil))) pa_nil)))
          (pe_callTy call_int1 (by rfl) gInt PyProof.Rows.boot_int (pa_cons (pe_cmpR op_eq (pe_call GD hr1 rfl gD kD bD .nil pass0 (pa_cons (pv 0) (pa_cons pe_int pa_nil))) pe_int (nomark _)) pa_nil)) (fun _ _ => rfl)))
      (pss_cons (ps_set (i := 6) scLTurned.nd rfl (Or.inl rfl) (pe_callB (R rfl) (by rfl) gRepr boot_repr (pa_cons (pv 2) pa_nil)))
      (pss_cons (ps_set (i := 7) scLTurned.nd rfl (Or.inl rfl) (pe_meth (pv 1) c mT GT hr4 bT .nil passL (pa_cons (pv 2) (pa_cons (pv 4) (pa_cons (pv 5) pa_nil)))))
      (pss_cons (ps_if (pt_cmpR op_ne (pe_callB (R rfl) (by rfl) gRepr boot_repr (pa_cons (pv 2) pa_nil)) (pv 6) (nomark _)) (pss_one (ps_ret pe_non)) pss_nil)
      (pss_cons (ps_if (pt_cmpR op_eq (pv 5) pe_int (nomark _)) (pss_one (ps_ret (pe_tup (pa_cons (pv 7) (pa_cons (pe_lst (pa_cons (pe_ix ix_list (pv 3) pe_int (fun _ _ => rfl)) (pa_cons (pv 4) (pa_cons (pe_lst pa_nil) pa_nil)))) pa_nil))))) pss_nil)
      (pss_one (ps_ret (pe_tup (pa_cons (pv 7) (pa_cons (pe_lst (pa_cons (pe_ix ix_list (pv 3) pe_int (fun _ _ => rfl)) (pa_cons (pe_ix ix_list (pv 3) pe_int (fun _ _ => rfl))
        (pa_cons (pe_call GR hr1 rfl gR kR bR .nil pass0 (pa_cons (pe_ix ix_list (pv 3) pe_int (fun _ _ => rfl)) (pa_cons (pv 4) (pa_cons (pv 5) pa_nil)))) pa_nil)))) pa_nil))))))))))), ?_⟩
    refine ⟨_, rfl, p, rfl, hp, fun y H1 y0 y1 k1 hp1 => ?_⟩
    refine ⟨_, rfl, p, 9, rfl, hp1, by decide, by decide, fun d1 H2 a0 a1 k2 hp2 => ?_⟩
    refine ⟨_, rfl, p, 401, rfl, hp2, by decide, by decide, fun d2 H3 b0 b1 k3 hp3 => ?_⟩
    refine ⟨(by show 2 ≤ sizeLine; decide), fun l hl => ?_⟩
    have s4 := Same.new (o := .lst [V.int d1, V.int d2]) (Same.refl H3) hl
    have hp4 := hp3.keep s4
    refine ⟨_, rfl, p, 12, rfl, hp4, by decide, by decide, fun d3 H5 c0 c1 k5 hp5 => ?_⟩
    obtain ⟨pa, pb, _, _, _, hpp⟩ := id hp3
    have hl5 := k5 l _ (fun z => by rw [z, hpp] at hl; cases hl) upd_same
    refine ⟨rfl, .inr ⟨_, rfl, ?_⟩⟩
    obtain ⟨n, en, hn400⟩ : ∃ n : Nat, atI [V.int d1, V.int d2] (if decide (V.int d3 = V.int 0) = true then 1 else 0) = some (V.int (n : Int)) ∧ n ≤ 400 := by
      split
      · exact ⟨d2.toNat, by rw [Int.toNat_of_nonneg b0] <;> rfl, by omega⟩
      · exact ⟨d1.toNat, by rw [Int.toNat_of_nonneg a0] <;> rfl, by omega⟩
    refine ⟨l, _, _, _, rfl, rfl, SqL.of hl5, en, ?_⟩
    have kAll : Kept p H H5 := (((k1.trans k2).trans k3).new (o := .lst [V.int d1, V.int d2]) hl).trans k5
    have hm5 := hm.kept kAll hp
    have ho5 := ho.kept kAll hp
    have hn5 := hn.kept kAll hp
    obtain ⟨dx, hn5'⟩ := id hn5
    obtain ⟨S, hS⟩ : ∃ S, (memD m st cs).shown = S := ⟨_, rfl⟩
    refine ⟨_, rfl, q, memD m st cs, S, rfl, memD_dp hm5, memD_shaped _ _ _, memD_show g, memD_len g, hS, ?_⟩
    refine ⟨_, rfl, nd, dx, fs, rfl, hn5', gf.no _ (by decide +kernel) (by decide +kernel) (by decide +kernel) (by decide +kernel), _, rfl, _, rfl, _, rfl, .ref nd, .ref q, _, m, st, y, cs, rfl, hm5, .inl ⟨n, rfl, hn400, fun u H6 s6 hu => ?_⟩⟩
    have hm6 := hm5.keep s6
    refine ⟨_, rfl, q, memD m st cs, S, rfl, memD_dp hm6, memD_shaped _ _ _, memD_show g, memD_len g, hS, ?_⟩
    refine ⟨_, rfl, rfl, _, rfl, iteNS rfl ?_⟩
    refine ⟨_, rfl, rfl, _, rfl, ?_⟩
    have ny : Num y := ⟨y0, y1⟩
    have gg := good_turned g ny hn400
    have ho6 := ho5.keep s6
    obtain ⟨o, ol, eo, nl, o1, o2⟩ := id ho6
    subst eo
    have k6 : Kept p H H6 := kAll.trans (Kept.same s6)
    have hp6 := hp5.keep s6
    refine ite2 (fun z => ?_) (fun z => ?_)
    · have n0 : n = 0 := by
        have := of_decide_eq_true z
        cases n with
        | zero => rfl
        | succ j => exact absurd (V.int.inj this) (by omega)
      subst n0
      refine ⟨_, rfl, _, rfl, o, _, _, _, rfl, rfl, SqL.of o1, atI_nat (j := 0) rfl, _, rfl, Nat.zero_le _, fun l7 h7 => ?_⟩
      refine ⟨(by show 3 ≤ sizeLine; decide), fun l8 h8 => ⟨(by show 2 ≤ sizeLine; decide), fun t h9 => ?_⟩⟩
      have s7 := Same.new (o := .lst []) (Same.refl H6) h7
      have s8 := Same.new (o := .lst [V.int m, V.int y, V.ref l7]) s7 h8
      have s9 := Same.new (o := .tup [u, V.ref l8]) s8 h9
      refine k _ _ (k6.trans (Kept.same s9)) (hp6.keep s9) ⟨t, u, .ref l8, m, y, [], rfl, .inl (.inl upd_same), hu.keep s9, ⟨l8, l7, rfl, ?_, ?_, ?_⟩, gg⟩
      · obtain ⟨x1, x2, _, _, _, hx⟩ := hp6
        exact fun z => by rw [z, hx] at h7; cases h7
      · exact Same.new (Same.refl _) h9 _ _ upd_same
      · exact Same.new (Same.new (Same.refl _) h8) h9 _ _ upd_same
    · have n0 : n ≠ 0 := fun e => z (decide_eq_true (by rw [e]; rfl))
      rw [if_neg n0] at gg hu
      refine ⟨_, rfl, _, rfl, o, _, _, _, rfl, rfl, SqL.of o1, atI_nat (j := 0) rfl, _, rfl, o, _, _, _, rfl, rfl, SqL.of o1, atI_nat (j := 1) rfl, ?_⟩
      refine ⟨_, rfl, o, _, _, _, rfl, rfl, SqL.of o1, atI_nat (j := 1) rfl, _, rfl, _, rfl, st, y, n, rfl, by omega, hn400, fun l7 h7 => ?_⟩
      refine ⟨(by show 3 ≤ sizeLine; decide), fun l8 h8 => ⟨(by show 2 ≤ sizeLine; decide), fun t h9 => ?_⟩⟩
      have s7 := Same.new (o := .lst (rampL st y n n)) (Same.refl H6) h7
      have s8 := Same.new (o := .lst [V.int m, V.int st, V.ref l7]) s7 h8
      have s9 := Same.new (o := .tup [u, V.ref l8]) s8 h9
      refine k _ _ (k6.trans (Kept.same s9)) (hp6.keep s9) ⟨t, u, .ref l8, m, st, _, rfl, .inl (.inl upd_same), hu.keep s9, ⟨l8, l7, rfl, ?_, ?_, ?_⟩, gg⟩
      · obtain ⟨x1, x2, _, _, _, hx⟩ := hp6
        exact fun z => by rw [z, hx] at h7; cases h7
      · exact Same.new (Same.refl _) h9 _ _ upd_same
      · have eL : rampL st y n n = ((List.range n).map (rampAt st y n)).map V.int := by
          unfold rampL
          rw [List.map_map]
          rfl
        rw [← eL]
        exact Same.new (Same.new (Same.refl _) h8) h9 _ _ upd_same
end
end Sw
namespace Sw
open PySem PySem.Spec PyProof.Rows L2
section
variable {P : Program} {w : World} {K : PySem.W.Frag} {mg : Str → Option Value} {base : Heap} {f f1 f2 f3 f4 f5 f6 C CS CW CN : Addr} {fd fd1 fd2 fd3 fd4 fd5 fd6 : FuncData}
theorem scLFired : FnScope ["_law_pot_here", "_law_node", "_law_memory", "_law_own", "_law_sample", "_law_behind", "_law_due", "_law_kept", "_law_made", "_law_given"] ["_law_pot_here", "_law_node", "_law_memory", "_law_own"] (defScope sLFired) := ⟨rfl, rfl, rfl, by decide +kernel, rfl, by decide +kernel, by decide +kernel⟩
theorem ok_lFired (F : FnP K "_law_fired" sLFired f fd) (c : Cls K C) (GF : FnOk P w K mg base CX0 3 f1 fd1 ["self", "memory", "rows"] (spFiring K C (spGainWork K))) (mF : Meth K C "fire" f1) (bF : Binds K fd1 ["self", "memory", "rows"] [])
    (GU : FnOk P w K mg base CX0 2 f2 fd2 ["_law_pot_here"] spNumber) (gU : mg "_law_number" = some (.ref f2)) (kU : PySem.W.keepIn K (.ref f2) = true) (bU : Binds K fd2 ["_law_pot_here"] [])
    (gMax : mg "max" = none) (gList : mg "list" = none) (gRepr : mg "repr" = none) : FnG P w K mg base CX0 6 f fd ["_law_pot_here", "_law_node", "_law_memory", "_law_own"] (spDeed K C) := by
  refine F.okG scLFired (fun vs H Q E h => ?_) (fun cdv A outer s H vs Q E hr guard h => ?_)
  · obtain ⟨p, nd, q, fs, by_, b, m, st, cs, own, rfl, _⟩ := h
    rfl
  · obtain ⟨p, nd, q, fs, by_, b, m, st, cs, own, rfl, hp, hn, gf, hm, ho, g, k⟩ := h
    have hr3 : Room 3 _ := hr.mono (by decide)
    have hr2 : Room 2 _ := hr.mono (by decide)
    have un := hr.un
    have hu := hr.units
    have R : ∀ {X : Cx}, X.A = A.deeper (envOfC "_law_fired" (defScope sLFired) s.heap.objs.size f cdv) → CallR X (.builtin "repr") (rReprD X.K) := fun {X} e => call_reprD (by rw [e]; exact guard) (by rw [e]; omega)
    refine ⟨_, PSs.nox (pss_cons (ps_set (i := 4) scLFired.nd rfl (Or.inl rfl) (pe_call GU hr2 rfl gU kU bU .nil pass0 (pa_cons (pv 0) pa_nil)))
      (pss_cons (ps_set (i := 5) scLFired.nd rfl (Or.inl rfl) (pe_lst (pa_cons (pe_callB (call_max2 rfl) (by rfl) gMax (by decide +kernel) (pa_cons pe_int (pa_cons (pe_op op_sub (pe_ix ix_list (pv 3) pe_int (fun _ _ => rfl)) pe_int) pa_nil)))
          (pa_cons (pe_ix ix_list (pv 3) pe_int (fun _ _ => rfl)) (pa_cons (pe_callTy call_list_of (by rfl) gList PyProof.Rows.boot_list (pa_cons (pe_ix ix_list (pv 3) pe_int (fun _ _ => rfl)) pa_nil)) pa_nil)))))
      (pss_cons (ps_set (i := 6) scLFired.nd rfl (Or.inl rfl) pe_int)
      (C8.pss_cut (ps_if (pt_cmpR op_eq (pe_ix ix_list (pv 3) pe_int (fun _ _ => rfl)) pe_int (nomark _))
          (pss_cons (ps_if (pt_cmpR (op_neD hu) (pe_ix ix_list (pv 5) pe_int (fun _ _ => rfl)) (pe_lst pa_nil) (nomark _))
              (pss_one (ps_asg (pe_bm PySem.F.plainAttrs_list PySem.F.slot_list_pop PySem.F.type_list_pop mt_popAt (pe_ix ix_list (pv 5) pe_int (fun _ _ => rfl)) (pa_cons pe_int pa_nil)) (pg_sub (pv 5) pe_int set_list (by intro _; rfl)))) pss_nil)
            (pss_one (ps_set (i := 6) scLFired.nd rfl (Or.inl rfl) (pe_op op_mulW (pv 4) (pe_ix ix_list (pv 5) pe_int (fun _ _ => rfl)))))) pss_nil)
      (pss_cons (ps_set (i := 7) scLFired.nd rfl (Or.inl rfl) (pe_callB (R rfl) (by rfl) gRepr boot_repr (pa_cons (pv 2) pa_nil)))
      (C8.pss_cut (ps_asg (pe_meth (pv 1) c mF GF hr3 bF .nil pass0 (pa_cons (pv 2) (pa_cons (pe_lst (pa_cons (pe_lst (pa_cons (pv 4) pa_nil)) pa_nil)) pa_nil))) (pg_tup rfl (pgs_cons (pg_name (i := 8) scLFired.nd rfl (Or.inl rfl)) (pgs_cons (pg_name (i := 9) scLFired.nd rfl (Or.inl rfl)) pgs_nil))))
      (pss_cons (ps_if (PW.pt (pw_or (pt_cmpR op_ne (pe_callB (R rfl) (by rfl) gRepr boot_repr (pa_cons (pv 9) pa_nil)) (pe_callB (R rfl) (by rfl) gRepr boot_repr (pa_cons (pe_lst (pa_cons (pv 6) pa_nil)) pa_nil)) (nomark _))
          (pw_or1 (pt_cmpR op_ne (pe_callB (R rfl) (by rfl) gRepr boot_repr (pa_cons (pv 2) pa_nil)) (pv 7) (nomark _))))) (pss_one (ps_ret pe_non)) pss_nil)
      (pss_one (ps_ret (pe_tup (pa_cons (pv 8) (pa_cons (pv 5) pa_nil))))))))))))
      , ?_⟩
    refine ⟨_, rfl, p, rfl, hp, fun x H1 x0 x1 k1 hp1 => ?_⟩
    have hm1 := hm.kept k1 hp
    have ho1 := ho.kept k1 hp
    have hn1 := hn.kept k1 hp
    obtain ⟨o, ol, eo, nl, o1, o2⟩ := id ho1
    subst eo
    refine ⟨_, rfl, o, _, _, _, rfl, rfl, SqL.of o1, atI_nat (j := 0) rfl, _, _, rfl, rfl, _, _, rfl, ?_⟩
    refine ⟨_, rfl, o, _, _, _, rfl, rfl, SqL.of o1, atI_nat (j := 1) rfl, _, rfl, o, _, _, _, rfl, rfl, SqL.of o1, atI_nat (j := 2) rfl, ol, _, rfl, .inl (SqL.of o2), fun l2 h2 => ?_⟩
    refine ⟨(by show 3 ≤ sizeLine; decide), fun lb hb => ?_⟩
    have em : (if m - 1 > 0 then m - 1 else 0) = (if m = 0 then 0 else m - 1) := by
      have := g.hm
      split <;> split <;> omega
    rw [em]
    generalize hmm : (if m = 0 then (0 : Int) else m - 1) = mm
    have n2p : l2 ≠ p := fun z => by
      obtain ⟨x1, x2, _, _, _, hx⟩ := hp1
      rw [z, hx] at h2
      cases h2
    have s2 := Same.new (o := .lst (cs.map V.int)) (Same.refl H1) h2
    have s3 := Same.new (o := .lst [V.int mm, V.int st, V.ref l2]) s2 hb
    have hl2 : (upd (upd H1 l2 (.lst (cs.map V.int))) lb (.lst [V.int mm, V.int st, V.ref l2])) l2 = some (.lst (cs.map V.int)) := Same.new (Same.refl _) hb _ _ upd_same
    have hlb : (upd (upd H1 l2 (.lst (cs.map V.int))) lb (.lst [V.int mm, V.int st, V.ref l2])) lb = some (.lst [V.int mm, V.int st, V.ref l2]) := upd_same
    have n2 : H1 l2 = none := h2
    have nb : H1 lb = none := s2.free hb
    have nlb : l2 ≠ lb := fun z => by
      rw [← z, upd_same] at hb
      cases hb
    generalize upd (upd H1 l2 (.lst (cs.map V.int))) lb (.lst [V.int mm, V.int st, V.ref l2]) = H3 at s3 hl2 hlb
    have nx : Num x := ⟨x0, x1⟩
    -- behind the test: where the factor stands, what comes next, what is due
    refine ⟨fun σ' H' => ∃ (st' d : Int) (cs' : List Int), σ' = [some (.ref p), some (.ref nd), some (.ref q), some (.ref o), some (.int x), some (.ref lb), some (.int d), none, none, none] ∧ Same H1 H' ∧ H' lb = some (.lst [V.int mm, V.int st', V.ref l2]) ∧ H' l2 = some (.lst (cs'.map V.int)) ∧
        st' = (if m = 0 then stHd st cs else st) ∧ cs' = (if m = 0 then cs.tail else cs) ∧ d = (if m = 0 then x * stHd st cs else 0), ?_, ?_⟩
    · have o1' := s3 _ _ o1
      refine ⟨_, rfl, o, _, _, _, rfl, rfl, SqL.of o1', atI_nat (j := 0) rfl, rfl, _, rfl, ?_⟩
      refine ite2 (fun z => ?_) (fun z => ?_)
      · have m0 : m = 0 := V.int.inj (of_decide_eq_true z)
        refine ⟨_, rfl, lb, _, _, _, rfl, rfl, SqL.of hlb, atI_nat (j := 2) rfl, Nat.zero_le _, fun le he => ?_⟩
        have hl2' := Same.new (o := .lst []) (Same.refl _) he _ _ hl2
        have hlb' := Same.new (o := .lst []) (Same.refl _) he _ _ hlb
        have s4 := Same.new (o := .lst []) s3 he
        have hle : (upd H3 le (.lst [])) le = some (.lst (([] : List Int).map V.int)) := upd_same
        refine ⟨_, _, dp_at hl2', dp_at hle, shaped_ints _, shaped_ints _, ?_⟩
        generalize upd H3 le (.lst []) = H4 at hl2' hlb' s4
        cases cs with
        | nil =>
          rw [eqv_ints]
          refine ⟨_, rfl, iteF ?_⟩
          refine ⟨_, rfl, _, rfl, lb, _, _, _, rfl, rfl, SqL.of hlb', atI_nat (j := 1) rfl, _, _, rfl, rfl, nx.mul g.hst, ?_⟩
          exact ⟨st, x * st, [], rfl, s4, hlb', hl2', by rw [if_pos m0]; rfl, by rw [if_pos m0]; rfl, by rw [if_pos m0]; rfl⟩
        | cons c0 cr =>
          have ev : PyData.eqv (.list ((c0 :: cr).map PyData.int)) (.list (([] : List Int).map PyData.int)) = false := by
            rw [List.map_cons, List.map_nil, PyData.eqv, PyData.eqvAll]
          rw [ev]
          refine ⟨_, rfl, iteT ?_⟩
          refine ⟨_, rfl, lb, _, _, _, rfl, rfl, SqL.of hlb', atI_nat (j := 2) rfl, .inl ⟨rfl, _, SqL.of hl2'⟩, l2, _, 0, 0, V.int c0, rfl, rfl, hl2', by decide, by decide, by first | rfl | simp [seqIndex?], rfl, ?_⟩
          have hlb5 : (upd H4 l2 (.lst (((c0 :: cr).map V.int).eraseIdx 0))) lb = some (.lst [V.int mm, V.int st, V.ref l2]) := by
            rw [upd_ne nlb.symm]
            exact hlb'
          refine ⟨_, rfl, lb, _, _, 1, rfl, rfl, hlb5, rfl, ?_⟩
          have hlb6 : (upd (upd H4 l2 (.lst (((c0 :: cr).map V.int).eraseIdx 0))) lb (.lst ([V.int mm, V.int st, V.ref l2].set 1 (V.int c0)))) lb = some (.lst [V.int mm, V.int c0, V.ref l2]) := upd_same
          have hl26 : (upd (upd H4 l2 (.lst (((c0 :: cr).map V.int).eraseIdx 0))) lb (.lst ([V.int mm, V.int st, V.ref l2].set 1 (V.int c0)))) l2 = some (.lst (cr.map V.int)) := by
            rw [upd_ne nlb, upd_same]
            rfl
          have s6 : Same H1 (upd (upd H4 l2 (.lst (((c0 :: cr).map V.int).eraseIdx 0))) lb (.lst ([V.int mm, V.int st, V.ref l2].set 1 (V.int c0)))) := Same.kept (Same.kept s4 n2 (Kept.upd Kept.refl)) nb (Kept.upd Kept.refl)
          refine ⟨_, rfl, _, rfl, lb, _, _, _, rfl, rfl, SqL.of hlb6, atI_nat (j := 1) rfl, _, _, rfl, rfl, nx.mul (g.hcs c0 List.mem_cons_self), ?_⟩
          exact ⟨c0, x * c0, cr, rfl, s6, hlb6, hl26, by rw [if_pos m0]; rfl, by rw [if_pos m0]; rfl, by rw [if_pos m0]; rfl⟩
      · have m0 : m ≠ 0 := fun e => z (decide_eq_true (by rw [e]))
        exact ⟨st, 0, cs, rfl, s3, hlb, hl2, by rw [if_neg m0], by rw [if_neg m0], by rw [if_neg m0]⟩
    · rintro σ' H5 ⟨st', d, cs', rfl, s5, hlb5, hl25, e1, e2, e3⟩
      obtain ⟨S, hS⟩ : ∃ S, (memD m st cs).shown = S := ⟨_, rfl⟩
      have hm5 := hm1.keep s5
      refine ⟨_, rfl, q, memD m st cs, S, rfl, memD_dp hm5, memD_shaped _ _ _, memD_show g, memD_len g, hS, ?_⟩
      obtain ⟨dx, hn5⟩ := hn1.keep s5
      obtain ⟨gfd, nst⟩ := good_fired g
      refine ⟨fun σ' H' => ∃ t2 lg : Addr, σ' = [some (.ref p), some (.ref nd), some (.ref q), some (.ref o), some (.int x), some (.ref lb), some (.int d), some (.str S), some (.ref t2), some (.ref lg)] ∧ Same H5 H' ∧ H' lg = some (.lst [.int d]) ∧ MemAt K H' (.ref t2) mm st' cs', ?_, ?_⟩
      · refine ⟨_, rfl, nd, dx, fs, rfl, hn5, gf.no _ (by decide +kernel) (by decide +kernel) (by decide +kernel) (by decide +kernel), _, rfl, ?_⟩
        refine ⟨_, rfl, (by show 1 ≤ sizeLine; decide), fun r0 hr0 => ⟨(by show 1 ≤ sizeLine; decide), fun rt hrt => ?_⟩⟩
        have s7 := Same.new (o := .lst [V.ref r0]) (Same.new (o := .lst [V.int x]) (Same.refl H5) hr0) hrt
        have hr0' : (upd (upd H5 r0 (.lst [V.int x])) rt (.lst [V.ref r0])) r0 = some (.lst [V.int x]) := Same.new (Same.refl _) hrt _ _ upd_same
        have hrt' : (upd (upd H5 r0 (.lst [V.int x])) rt (.lst [V.ref r0])) rt = some (.lst [V.ref r0]) := upd_same
        generalize upd (upd H5 r0 (.lst [V.int x])) rt (.lst [V.ref r0]) = H7 at s7 hr0' hrt'
        have hm7 := hm5.keep s7
        obtain ⟨q', t, ct, eq', m1, m2, m3⟩ := id hm7
        cases eq'
        have hn7 := (show InsAt H5 nd C fs from ⟨dx, hn5⟩).keep s7
        refine ⟨nd, q, fs, m, .ref t, .ref rt, rfl, hn7, gf.no _ (by decide +kernel) (by decide +kernel) (by decide +kernel) (by decide +kernel), gf.no _ (by decide +kernel) (by decide +kernel) (by decide +kernel) (by decide +kernel), m1, ?_⟩
        by_cases m0 : 0 < m
        · have mn : m ≠ 0 := by omega
          rw [if_neg mn] at e1 e2 e3 hmm
          subst e1 e2 e3 hmm
          refine .inl ⟨m0, fun lg H8 s8 _ h8 q2 t2 H9 s9 _ h9 h10 => ?_⟩
          refine ⟨q2, _, rfl, .inl (.inl h9), rfl, _, _, rfl, _, _, rfl, rfl, ?_⟩
          have s79 := s8.trans s9
          exact ⟨t2, lg, rfl, s7.trans s79, s9 _ _ h8, t2, t, ct, rfl, .inl (.inl h10), Same.tup s79 m2, Same.tup s79 m3⟩
        · have mz : m = 0 := by have := g.hm; omega
          rw [if_pos mz] at e1 e2 e3 hmm
          subst e1 e2 e3 hmm
          refine .inr ⟨m0, .ref nd, t, ct, rt, r0, st, x, cs, rfl, m2, m3, SqL.of hrt', SqL.of hr0', nx, nst, Nat.le_trans g.few (by decide), fun z t3 c3 lg H8 s8 hz ht3 hc3 _ hlg => ?_⟩
          refine ⟨z, .ref t3, .ref lg, rfl, s8, hz, fun q2 t2 H9 s9 _ h9 h10 => ?_⟩
          refine ⟨q2, _, rfl, .inl (.inl h9), rfl, _, _, rfl, _, _, rfl, rfl, ?_⟩
          rw [mz] at h10
          exact ⟨t2, lg, rfl, s7.trans (s8.trans s9), s9 _ _ hlg, t2, t3, c3, rfl, .inl (.inl h10), Same.tup s9 ht3, Same.tup s9 hc3⟩
      · rintro σ' H8 ⟨t2, lg, rfl, s8, hlg, hmem⟩
        have gg : Good mm st' cs' ∧ d.natAbs.log2 < 1920 := by
          by_cases mz : m = 0
          · rw [if_pos mz] at e1 e2 e3 hmm
            subst e1 e2 e3 hmm
            exact ⟨gfd, log2_of (b := 400) (wide_lt (a := 200) (b := 200) nx.lt nst.lt) (by decide) (by decide)⟩
          · rw [if_neg mz] at e1 e2 e3 hmm
            subst e1 e2 e3 hmm
            have := g.hm
            exact ⟨⟨by omega, g.hst, g.hcs, g.few⟩, by decide⟩
        obtain ⟨gg, dl⟩ := gg
        obtain ⟨S1, hS1⟩ : ∃ S1, (PyData.list [.int d]).shown = S1 := ⟨_, rfl⟩
        refine ⟨_, rfl, lg, .list [.int d], S1, rfl, dp_at (ns := [d]) hlg, oneD_shaped d, oneD_show dl, oneD_len dl, hS1, ?_⟩
        refine ⟨_, rfl, (by show 1 ≤ sizeLine; decide), fun l9 h9 => ?_⟩
        have s9 := Same.new (o := .lst [V.int d]) (Same.refl H8) h9
        have hl9 : (upd H8 l9 (.lst [V.int d])) l9 = some (.lst [V.int d]) := upd_same
        generalize upd H8 l9 (.lst [V.int d]) = H9 at s9 hl9
        refine ⟨l9, .list [.int d], S1, rfl, dp_at (ns := [d]) hl9, oneD_shaped d, oneD_show dl, oneD_len dl, hS1, rfl, _, rfl, iteNS rfl ?_⟩
        have t9 := (s5.trans s8).trans s9
        refine ⟨_, rfl, q, memD m st cs, S, rfl, memD_dp (hm1.keep t9), memD_shaped _ _ _, memD_show g, memD_len g, hS, ?_⟩
        refine ⟨_, rfl, rfl, _, rfl, iteNS rfl ?_⟩
        refine ⟨_, rfl, _, rfl, (by show 2 ≤ sizeLine; decide), fun tt htt => ?_⟩
        have s10 := Same.new (o := .tup [V.ref t2, V.ref lb]) (Same.refl H9) htt
        have sX := (s8.trans s9).trans s10
        refine k _ _ (k1.trans (Kept.same (t9.trans s10))) (hp1.keep (t9.trans s10)) ⟨tt, .ref t2, .ref lb, mm, st', cs', rfl, .inl (.inl upd_same), hmem.keep (s9.trans s10), ⟨lb, l2, rfl, n2p, sX _ _ hlb5, sX _ _ hl25⟩, gg⟩
end
end Sw
namespace Sw
open PySem PySem.Spec PyProof.Rows L2
theorem ix_tupK {X : Cx} {K : PySem.W.Frag} (h : X.K = K) : IxR X (rIxT K) := by
  subst h
  exact ix_tup
theorem ix_listK {X : Cx} {K : PySem.W.Frag} (h : X.K = K) : IxR X (rIxL K) := by
  subst h
  exact ix_list
/-- behind a store in a list of two references -/
theorem Entry.beside {K : PySem.W.Frag} {p b x y : Addr} {H H1 : Hp} {v : V} (h : Entry K p H v) (k : Kept b H H1) (hb : H b = some (.lst [.ref x, .ref y])) : Entry K p H1 v := by
  have tup : ∀ {a : Addr} {xs : List V}, SqT K H a xs → SqT K H1 a xs := by
    intro a xs h
    rcases h with (h | ⟨o, h⟩) | h
    · exact .inl (.inl (k.at hb h (fun z => by cases z)))
    · exact .inl (.inr ⟨o, k.at hb h (fun z => by cases z)⟩)
    · exact .inr h
  obtain ⟨t, mem, own, m, st, cs, e, h1, ⟨q, t2, c, e2, m1, m2, m3⟩, ⟨o, l, e3, n, o1, o2⟩, g⟩ := h
  refine ⟨t, mem, own, m, st, cs, e, tup h1, ⟨q, t2, c, e2, tup m1, tup m2, tup m3⟩, ⟨o, l, e3, n, k.at hb o1 (fun z => by cases z), k.at hb o2 (fun z => ?_)⟩, g⟩
  cases cs with
  | nil => cases z
  | cons c0 r => cases z
def spLaw (K : PySem.W.Frag) : Sp := fun vs H Q _ => ∃ (a : Addr) (ns : List Int), vs = [.ref a] ∧ SqL K H a (ns.map V.int) ∧ ns.length ≤ 63 ∧ ∀ H', Q (.bl true) H'
section
variable {P : Program} {w : World} {K : PySem.W.Frag} {mg : Str → Option Value} {base : Heap} {f fI fFr fFa fCe fPo fDr fNu fTu fFi fRe C : Addr} {fd fdI fdFr fdFa fdCe fdPo fdDr fdNu fdTu fdFi fdRe : FuncData}
theorem scLaw : FnScope ["_law_script", "_law_k", "_law_pot_here", "_law_number_here", "_law_mute", "_law_node", "_law_both", "_law_j", "_law_at", "_law_deed", "_law_odd", "_law_one"] ["_law_script"] (defScope sLaw) := ⟨rfl, rfl, rfl, by decide +kernel, rfl, by decide +kernel, by decide +kernel⟩
theorem ok_law {gB : List Value → List Value → List Value} (F : FnP K "law" sLaw f fd) (M : Mk K C fI) (GI : FnOk P w K mg base CX0 4 fI fdI ["self", "by", "late", "begin"] (spGainInit K C)) (gG : mg "Gain" = some (.ref C))
    (kb : KBn K fdI ["self", "by", "late", "begin"] 2 ["begin"] gB (fun vs zs => vs ++ ([.int 0] ++ zs))) (c : Cls K C)
    (GFr : FnOk P w K mg base CX0 1 fFr fdFr ["self"] (spGainFresh K C)) (mFr : Meth K C "fresh" fFr) (bFr : Binds K fdFr ["self"] [])
    (GFa : FnOk P w K mg base CX0 1 fFa fdFa ["self", "memory"] (spGainFactor K)) (mFa : Meth K C "factor" fFa) (bFa : Binds K fdFa ["self", "memory"] [])
    (GCe : FnOk P w K mg base CX0 1 fCe fdCe ["_law_script", "_law_k"] (spCell K)) (gCe : mg "_law_cell" = some (.ref fCe)) (kCe : PySem.W.keepIn K (.ref fCe) = true) (bCe : Binds K fdCe ["_law_script", "_law_k"] [])
    (GPo : FnOk P w K mg base CX0 1 fPo fdPo ["_law_cell_here"] spPot) (gPo : mg "_law_pot" = some (.ref fPo)) (kPo : PySem.W.keepIn K (.ref fPo) = true) (bPo : Binds K fdPo ["_law_cell_here"] [])
    (GDr : FnOk P w K mg base CX0 1 fDr fdDr ["_law_pot_here", "_law_many"] spDraw) (gDr : mg "_law_draw" = some (.ref fDr)) (kDr : PySem.W.keepIn K (.ref fDr) = true) (bDr : Binds K fdDr ["_law_pot_here", "_law_many"] [])
    (GNu : FnOk P w K mg base CX0 2 fNu fdNu ["_law_pot_here"] spNumber) (gNu : mg "_law_number" = some (.ref fNu)) (kNu : PySem.W.keepIn K (.ref fNu) = true) (bNu : Binds K fdNu ["_law_pot_here"] [])
    (GTu : FnG P w K mg base CX0 6 fTu fdTu ["_law_pot_here", "_law_node", "_law_memory", "_law_own"] (spDeed K C)) (gTu : mg "_law_turned" = some (.ref fTu)) (kTu : PySem.W.keepIn K (.ref fTu) = true) (bTu : Binds K fdTu ["_law_pot_here", "_law_node", "_law_memory", "_law_own"] [])
    (GFi : FnG P w K mg base CX0 6 fFi fdFi ["_law_pot_here", "_law_node", "_law_memory", "_law_own"] (spDeed K C)) (gFi : mg "_law_fired" = some (.ref fFi)) (kFi : PySem.W.keepIn K (.ref fFi) = true) (bFi : Binds K fdFi ["_law_pot_here", "_law_node", "_law_memory", "_law_own"] [])
    (GRe : FnOk P w K mg base CX0 6 fRe fdRe ["_law_node", "_law_memory", "_law_thing"] (spLRefused K C)) (gRe : mg "_law_refused" = some (.ref fRe)) (kRe : PySem.W.keepIn K (.ref fRe) = true) (bRe : Binds K fdRe ["_law_node", "_law_memory", "_law_thing"] [])
    (gRange : mg "range" = none) (gMax : mg "max" = none) (gMin : mg "min" = none) (gLen : mg "len" = none) : FnG P w K mg base CX0 8 f fd ["_law_script"] (spLaw K) := by
  refine F.okG scLaw (fun vs H Q E h => ?_) (fun cdv A outer s H vs Q E hr guard h => ?_)
  · obtain ⟨a, ns, rfl, _⟩ := h
    rfl
  · obtain ⟨a, ns, rfl, hS, hlen, kk⟩ := h
    have hr6 : Room 6 _ := hr.mono (by decide)
    have hr5 : Room 5 _ := hr.mono (by decide)
    have hr6 : Room 6 _ := hr.mono (by decide)
    have hr2 : Room 2 _ := hr.mono (by decide)
    have hr1 : Room 1 _ := hr.mono (by decide)
    have hu := hr.units
    have nd := scLaw.nd
    refine ⟨_, PSs.nox (pss_cons (ps_for PassesOwn.never rfl (pi_range1 rfl gRange (pa_cons (pe_callB (call_max2 rfl) (by rfl) gMax (by decide +kernel) (pa_cons pe_int (pa_cons (pe_callB (call_min2 rfl) (by rfl) gMin (by decide +kernel)
          (pa_cons (pe_callB call_len_seq (by rfl) gLen PySem.boot_len (pa_cons (pv 0) pa_nil)) (pa_cons pe_int pa_nil))) pa_nil))) pa_nil)) (pg_name (i := 1) nd rfl (Or.inl rfl))
        (pss_cons (ps_set (i := 2) nd rfl (Or.inl rfl) (pe_call GPo hr1 rfl gPo kPo bPo .nil pass0 (pa_cons (pe_call GCe hr1 rfl gCe kCe bCe .nil pass0 (pa_cons (pv 0) (pa_cons (pv 1) pa_nil))) pa_nil)))
        (pss_cons (ps_par (i := 3) (j := 4) rfl nd rfl rfl (by decide) rfl rfl (pa_cons (pe_call GNu hr2 rfl gNu kNu bNu .nil pass0 (pa_cons (pv 2) pa_nil)) (pa_cons (pe_call GDr hr1 rfl gDr kDr bDr .nil pass0 (pa_cons (pv 2) (pa_cons pe_int pa_nil))) pa_nil)) (by rfl))
        (pss_cons (ps_set (i := 5) nd rfl (Or.inr rfl) (pe_makeK (n := 1) M GI hr5 rfl gG kb pass0 (pa_cons (pv 3) pa_nil) (pk_cons (pv 4) pk_nil)))
        (pss_cons (ps_set (i := 6) nd rfl (Or.inl rfl) (pe_lst (pa_cons (pe_tup (pa_cons (pe_meth0 (pv 5) c mFr GFr hr1 bFr .nil pass0) (pa_cons (pe_lst (pa_cons (pv 4) (pa_cons (pv 3) (pa_cons (pe_lst pa_nil) pa_nil)))) pa_nil)))
          (pa_cons (pe_tup (pa_cons (pe_meth0 (pv 5) c mFr GFr hr1 bFr .nil pass0) (pa_cons (pe_lst (pa_cons (pv 4) (pa_cons (pv 3) (pa_cons (pe_lst pa_nil) pa_nil)))) pa_nil))) pa_nil))))
        (pss_cons (ps_for PassesOwn.never rfl (pi_range1 rfl gRange (pa_cons (pe_call GDr hr1 rfl gDr kDr bDr .nil pass0 (pa_cons (pv 2) (pa_cons pe_int pa_nil))) pa_nil)) (pg_name (i := 7) nd rfl (Or.inl rfl))
            (pss_cons (ps_set (i := 8) nd rfl (Or.inl rfl) (pe_call GDr hr1 rfl gDr kDr bDr .nil pass0 (pa_cons (pv 2) (pa_cons pe_int pa_nil))))
            (pss_cons (ps_set (i := 9) nd rfl (Or.inl rfl) (pe_ix ix_list (pe_lst (pa_cons (pe_glob (v := .ref fTu) rfl gTu rfl) (pa_cons (pe_glob (v := .ref fFi) rfl gFi rfl) (pa_cons (pe_glob (v := .ref fFi) rfl gFi rfl) pa_nil)))) (pe_call GDr hr1 rfl gDr kDr bDr .nil pass0 (pa_cons (pv 2) (pa_cons pe_int pa_nil))) (fun _ _ => rfl)))
            (pss_cons (ps_asg (pe_oneOf (i := 9) (fs := [fTu, fFi]) (sp := spDeed K C) (fun g hg => by
                  rcases List.mem_cons.mp hg with rfl | hg
                  · exact ⟨_, _, GTu, kTu, bTu⟩
                  · rcases List.mem_cons.mp hg with rfl | hg
                    · exact ⟨_, _, GFi, kFi, bFi⟩
                    · cases hg) hr6 guard rfl (Or.inl rfl) (pa_cons (pv 2) (pa_cons (pv 5) (pa_cons (pe_ix ix_tup (pe_ix ix_list (pv 6) (pv 8) (fun _ _ => rfl)) pe_int (fun _ _ => rfl)) (pa_cons (pe_ix ix_tup (pe_ix ix_list (pv 6) (pv 8) (fun _ _ => rfl)) pe_int (fun _ _ => rfl)) pa_nil)))))
                (pg_sub (pv 6) (pv 8) set_list (by intro _; rfl)))
            (pss_cons (ps_if (pt_cmp (pc_isN (pe_ix ix_list (pv 6) (pv 8) (fun _ _ => rfl)))) (pss_one (ps_ret pe_bl)) pss_nil)
            (pss_one (ps_if (pt_cmpR (op_neD hu)
                (pe_lc (own := [("_law_one", 11)]) (g := gName 11) (tt := tYes) rfl nd (pi_list (pv 6)) (blkOk_by (N := ["_law_script", "_law_k", "_law_pot_here", "_law_number_here", "_law_mute", "_law_node", "_law_both", "_law_j", "_law_at", "_law_deed", "_law_odd", "_law_one"]) (sc := defScope sLaw) (by decide +kernel))
                  (fun _ _ _ _ _ => pg_name (i := 11) nd rfl (Or.inl rfl)) (fun _ _ _ _ _ => pts_nil) (fun _ _ _ _ _ => pe_meth (pv 5) c mFa GFa hr1 bFa .nil pass0 (pa_cons (pe_ix (ix_tupK (K := K) rfl) (pv 11) pe_int (fun _ _ => rfl)) pa_nil)))
                (pe_lc (own := [("_law_one", 11)]) (g := gName 11) (tt := tYes) rfl nd (pi_list (pv 6)) (blkOk_by (N := ["_law_script", "_law_k", "_law_pot_here", "_law_number_here", "_law_mute", "_law_node", "_law_both", "_law_j", "_law_at", "_law_deed", "_law_odd", "_law_one"]) (sc := defScope sLaw) (by decide +kernel))
                  (fun _ _ _ _ _ => pg_name (i := 11) nd rfl (Or.inl rfl)) (fun _ _ _ _ _ => pts_nil) (fun _ _ _ _ _ => pe_ix (ix_listK (K := K) rfl) (pe_ix (ix_tupK (K := K) rfl) (pv 11) pe_int (fun _ _ => rfl)) pe_int (fun _ _ => rfl)))
                (nomark _)) (pss_one (ps_ret pe_bl)) pss_nil)))))))
        (pss_cons (ps_set (i := 10) nd rfl (Or.inl rfl) (pe_ix ix_list (pe_lst (pa_cons (pe_un un_neg pe_int) (pa_cons pe_int (pa_cons pe_bl (pa_cons pe_non (pa_cons pe_str (pa_cons (pe_tup (pa_cons pe_int pa_nil)) (pa_cons (pe_lst (pa_cons pe_int pa_nil)) (pa_cons pe_dnewK pa_nil)))))))))
            (pe_call GDr hr1 rfl gDr kDr bDr .nil pass0 (pa_cons (pv 2) (pa_cons pe_int pa_nil))) (fun _ _ => rfl)))
        (pss_one (ps_if (pt_not (pt_val (pe_call GRe hr6 rfl gRe kRe bRe .nil pass0 (pa_cons (pv 5) (pa_cons (pe_ix ix_tup (pe_ix ix_list (pv 6) pe_int (fun _ _ => rfl)) pe_int (fun _ _ => rfl)) (pa_cons (pv 10) pa_nil)))))) (pss_one (ps_ret pe_bl)) pss_nil)))))))))
      (pss_one (ps_ret pe_bl))), ?_⟩
    refine ⟨_, rfl, a, _, rfl, .inl hS, _, _, rfl, _, _, rfl, _, rfl, ?_, ?_, for_range (fun i σ H' => ∃ (vs : List (Option V)), σ = some (.ref a) :: vs ∧ vs.length = 11 ∧ Same H H') ⟨_, rfl, rfl, Same.refl _⟩ ?_ ?_⟩
    · rw [List.length_map]
      split <;> split <;> omega
    · rw [List.length_map]
      split <;> split <;> omega
    · rintro i σ H1 hi ⟨vs, rfl, hvs, s1⟩
      obtain ⟨u1, u2, u3, u4, u5, u6, u7, u8, u9, u10, u11, rfl⟩ : ∃ u1 u2 u3 u4 u5 u6 u7 u8 u9 u10 u11, vs = [u1, u2, u3, u4, u5, u6, u7, u8, u9, u10, u11] := by
        match vs, hvs with
        | [u1, u2, u3, u4, u5, u6, u7, u8, u9, u10, u11], _ => exact ⟨_, _, _, _, _, _, _, _, _, _, _, rfl⟩
      refine ⟨_, rfl, _, rfl, a, ns, i, ?_, s1.seq hS, fun z => ?_⟩
      · rw [Int.zero_add]
        rfl
      refine ⟨z, rfl, fun p H2 np s2 hp => ?_⟩
      have p0 : H p = none := s1.free np
      have t2 := s1.trans s2
      refine ⟨_, rfl, p, rfl, hp, fun x H3 x0 x1 k3 hp3 => ?_⟩
      refine ⟨_, rfl, p, 4, rfl, hp3, by decide, by decide, fun b H4 b0 b1 k4 hp4 => ?_⟩
      have t4 := Same.kept t2 p0 (k3.trans k4)
      refine ⟨_, _, rfl, ?_⟩
      have nx : Num x := ⟨x0, x1⟩
      -- the gain
      refine ⟨_, rfl, _, rfl, rfl, rfl, fun q dx nq ndx ne => ?_⟩
      refine ⟨q, dx, x, 0, b, rfl, upd_same, by omega, by omega, fun fs H5 gf k5 hq5 => ⟨rfl, ?_⟩⟩
      have s45 : Same H4 H5 := Same.kept (Same.new (Same.new (Same.refl H4) ndx) (by rw [upd_ne ne.symm]; exact nq)) nq k5
      have t5 := t4.trans s45
      have hp5 := hp4.keep s45
      have hi5 : InsAt H5 q C fs := ⟨dx, hq5⟩
      have good0 : Good b x [] := ⟨by omega, nx, fun _ h => (List.not_mem_nil h).elim, by decide⟩
      have pnew : ∀ {H' : Hp} {l : Addr}, PotAt H' p → H' l = none → l ≠ p := fun {H' l} hh hl z => by
        obtain ⟨_, _, _, _, _, hx⟩ := hh
        rw [z, hx] at hl
        cases hl
      -- two memories of it
      refine ⟨_, rfl, q, dx, fs, rfl, hq5, gf.no _ (by decide +kernel) (by decide +kernel) (by decide +kernel) (by decide +kernel), q, fs, x, b, rfl, hi5, gf, fun v6 H6 s56 hm6 => ?_⟩
      refine ⟨_, rfl, _, rfl, Nat.zero_le _, fun l7 h7 => ⟨(by show 3 ≤ sizeLine; decide), fun l8 h8 => ⟨(by show 2 ≤ sizeLine; decide), fun t9 h9 => ?_⟩⟩⟩
      have s69 := Same.new (o := .tup [v6, V.ref l8]) (Same.new (o := .lst [V.int b, V.int x, V.ref l7]) (Same.new (o := .lst []) (Same.refl H6) h7) h8) h9
      have hp6 := hp5.keep s56
      have e9 : Entry K p (upd (upd (upd H6 l7 (.lst [])) l8 (.lst [V.int b, V.int x, V.ref l7])) t9 (.tup [v6, V.ref l8])) (.ref t9) :=
        ⟨t9, v6, .ref l8, b, x, [], rfl, .inl (.inl upd_same), hm6.keep s69, ⟨l8, l7, rfl, pnew hp6 h7, Same.new (Same.refl _) h9 _ _ upd_same, Same.new (Same.new (Same.refl _) h8) h9 _ _ upd_same⟩, good0⟩
      generalize upd (upd (upd H6 l7 (.lst [])) l8 (.lst [V.int b, V.int x, V.ref l7])) t9 (.tup [v6, V.ref l8]) = H9 at s69 e9
      have s59 := s56.trans s69
      obtain ⟨dx9, hq9⟩ := hi5.keep s59
      refine ⟨_, rfl, q, dx9, fs, rfl, hq9, gf.no _ (by decide +kernel) (by decide +kernel) (by decide +kernel) (by decide +kernel), q, fs, x, b, rfl, ⟨dx9, hq9⟩, gf, fun vA HA s9A hmA => ?_⟩
      refine ⟨_, rfl, _, rfl, Nat.zero_le _, fun lB hB => ⟨(by show 3 ≤ sizeLine; decide), fun lC hC => ⟨(by show 2 ≤ sizeLine; decide), fun tD hD => ?_⟩⟩⟩
      have sAD := Same.new (o := .tup [vA, V.ref lC]) (Same.new (o := .lst [V.int b, V.int x, V.ref lB]) (Same.new (o := .lst []) (Same.refl HA) hB) hC) hD
      have hpA := (hp5.keep s59).keep s9A
      have eD : Entry K p (upd (upd (upd HA lB (.lst [])) lC (.lst [V.int b, V.int x, V.ref lB])) tD (.tup [vA, V.ref lC])) (.ref tD) :=
        ⟨tD, vA, .ref lC, b, x, [], rfl, .inl (.inl upd_same), hmA.keep sAD, ⟨lC, lB, rfl, pnew hpA hB, Same.new (Same.refl _) hD _ _ upd_same, Same.new (Same.new (Same.refl _) hC) hD _ _ upd_same⟩, good0⟩
      generalize upd (upd (upd HA lB (.lst [])) lC (.lst [V.int b, V.int x, V.ref lB])) tD (.tup [vA, V.ref lC]) = HD at sAD eD
      have s9D := s9A.trans sAD
      have s5D := s59.trans s9D
      refine ⟨(by show 2 ≤ sizeLine; decide), fun bo hbo => ?_⟩
      have sE := Same.new (o := .lst [V.ref t9, V.ref tD]) (Same.refl HD) hbo
      have hpE := (hp5.keep s5D).keep sE
      have nbo : bo ≠ p := pnew (hp5.keep s5D) hbo
      have tE := (t5.trans s5D).trans sE
      have iE := (hi5.keep s5D).keep sE
      have e1 := (e9.keep s9D).keep sE
      have e2 := eD.keep sE
      have hbE : (upd HD bo (.lst [V.ref t9, V.ref tD])) bo = some (.lst [V.ref t9, V.ref tD]) := upd_same
      generalize upd HD bo (.lst [V.ref t9, V.ref tD]) = HE at tE iE e1 e2 hbE hpE
      -- the deeds
      refine ⟨_, rfl, p, 21, rfl, hpE, by decide, by decide, fun n HF n0 n1 kF hpF => ?_⟩
      refine ⟨n, rfl, by omega, by omega, for_range (fun j σ H' => ∃ (w7 w8 w9 w10 w11 : Option V) (r1 r2 : Addr), σ = [some (.ref a), some (.int (0 + (i : Int))), some (.ref p), some (.int x), some (.int b), some (.ref q), some (.ref bo), w7, w8, w9, w10, w11] ∧ Same H H' ∧ PotAt H' p ∧ InsAt H' q C fs ∧ H' bo = some (.lst [.ref r1, .ref r2]) ∧ Entry K p H' (.ref r1) ∧ Entry K p H' (.ref r2))
        ⟨_, _, _, _, _, t9, tD, rfl, Same.kept tE p0 kF, hpF, iE.kept kF hpE, kF _ _ nbo hbE, e1.kept kF hpE, e2.kept kF hpE⟩ ?_ ?_⟩
      · rintro j σ G hj ⟨w7, w8, w9, w10, w11, r1, r2, rfl, tG, hpG, iG, hbG, eG1, eG2⟩
        refine ⟨_, rfl, p, 2, rfl, hpG, by decide, by decide, fun d1 G1 a0 a1 k1 hp1 => ?_⟩
        refine ⟨(by show 3 ≤ sizeLine; decide), fun lL hL => ?_⟩
        have sL := Same.new (o := .lst [V.ref fTu, V.ref fFi, V.ref fFi]) (Same.refl G1) hL
        have nL : lL ≠ p := pnew hp1 hL
        have hp2 := hp1.keep sL
        refine ⟨_, rfl, p, 3, rfl, hp2, by decide, by decide, fun d2 G3 c0 c1 k3 hp3 => ?_⟩
        have hL3 := k3 lL _ nL upd_same
        obtain ⟨g, eg, hg⟩ : ∃ g, atI [V.ref fTu, V.ref fFi, V.ref fFi] d2 = some (.ref g) ∧ g ∈ [fTu, fFi] := by
          have : d2 = 0 ∨ d2 = 1 ∨ d2 = 2 := by omega
          rcases this with rfl | rfl | rfl
          · exact ⟨fTu, rfl, List.mem_cons_self⟩
          · exact ⟨fFi, rfl, List.mem_cons_of_mem _ List.mem_cons_self⟩
          · exact ⟨fFi, rfl, List.mem_cons_of_mem _ List.mem_cons_self⟩
        refine ⟨lL, _, _, _, rfl, rfl, SqL.of hL3, eg, ?_⟩
        have kG : Kept p G G3 := (k1.new (o := .lst [V.ref fTu, V.ref fFi, V.ref fFi]) hL).trans k3
        have t3 := Same.kept tG p0 kG
        have i3 := iG.kept kG hpG
        have hb3 := kG _ _ nbo hbG
        have e31 := eG1.kept kG hpG
        have e32 := eG2.kept kG hpG
        obtain ⟨jn, r, ej, er, en⟩ : ∃ (jn : Nat) (r : Addr), ixN 2 d1 = some jn ∧ atI [V.ref r1, V.ref r2] d1 = some (.ref r) ∧ Entry K p G3 (.ref r) ∧ (jn = 0 ∨ jn = 1) ∧ d1 = (jn : Int) := by
          have : d1 = 0 ∨ d1 = 1 := by omega
          rcases this with rfl | rfl
          · exact ⟨0, r1, rfl, rfl, e31, .inl rfl, rfl⟩
          · exact ⟨1, r2, rfl, rfl, e32, .inr rfl, rfl⟩
        obtain ⟨en, hjn, ed1⟩ := en
        obtain ⟨rt, mem, own, m, st, cs, ert, n1, n2, n3, n4⟩ := id en
        cases ert
        obtain ⟨qm, tm, cm, eqm, _⟩ := id n2
        subst eqm
        refine ⟨g, hg, rfl, _, rfl, _, rfl, ?_⟩
        refine ⟨_, rfl, _, rfl, bo, _, _, _, rfl, rfl, SqL.of hb3, er, r, _, _, _, rfl, rfl, n1, atI_nat (j := 0) rfl, ?_⟩
        refine ⟨_, rfl, _, rfl, bo, _, _, _, rfl, rfl, SqL.of hb3, er, r, _, _, _, rfl, rfl, n1, atI_nat (j := 1) rfl, ?_⟩
        refine ⟨p, q, qm, fs, x, b, m, st, cs, own, rfl, hp3, i3, gf, n2, n3, n4, fun v G4 k4 hp4 ev => ?_⟩
        have t4' := Same.kept t3 p0 k4
        have i4 := i3.kept k4 hp3
        have hb4 := k4 _ _ nbo hb3
        have e41 := e31.kept k4 hp3
        have e42 := e32.kept k4 hp3
        obtain ⟨rv, erv⟩ : ∃ rv, v = .ref rv := by
          obtain ⟨t, _, _, _, _, _, e, _⟩ := ev
          exact ⟨t, e⟩
        subst erv
        refine ⟨_, rfl, _, rfl, bo, _, _, jn, rfl, rfl, hb4, ej, ?_⟩
        obtain ⟨r1', r2', eset, es⟩ : ∃ r1' r2', [V.ref r1, V.ref r2].set jn (V.ref rv) = [V.ref r1', V.ref r2'] ∧ Entry K p G4 (.ref r1') ∧ Entry K p G4 (.ref r2') ∧ atI [V.ref r1', V.ref r2'] d1 = some (.ref rv) := by
          rcases hjn with rfl | rfl
          · subst ed1
            exact ⟨rv, r2, rfl, ev, e42, rfl⟩
          · subst ed1
            exact ⟨r1, rv, rfl, e41, ev, rfl⟩
        obtain ⟨f1, f2, ea⟩ := es
        rw [eset]
        have kb5 : Kept bo G4 (upd G4 bo (.lst [V.ref r1', V.ref r2'])) := Kept.upd Kept.refl
        have hb0 : H bo = none := (t5.trans s5D).free hbo
        have t5' := Same.kept t4' hb0 kb5
        have f1 := f1.beside kb5 hb4
        have f2 := f2.beside kb5 hb4
        have hp5' : PotAt (upd G4 bo (.lst [V.ref r1', V.ref r2'])) p := by
          obtain ⟨y1, y2, z1, z2, z3, z4⟩ := hp4
          exact ⟨y1, y2, z1, z2, z3, by rw [upd_ne nbo.symm]; exact z4⟩
        have i5 : InsAt (upd G4 bo (.lst [V.ref r1', V.ref r2'])) q C fs := by
          obtain ⟨dz, hz⟩ := i4
          exact ⟨dz, kb5.at hb4 hz (fun z => by cases z)⟩
        have hb5 : (upd G4 bo (.lst [V.ref r1', V.ref r2'])) bo = some (.lst [V.ref r1', V.ref r2']) := upd_same
        generalize upd G4 bo (.lst [V.ref r1', V.ref r2']) = G5 at t5' f1 f2 hp5' i5 hb5
        refine ⟨_, rfl, _, rfl, bo, _, _, _, rfl, rfl, SqL.of hb5, ea, _, rfl, ?_⟩
        refine ite2 (fun z => absurd (of_decide_eq_true z) (by intro e; cases e)) (fun _ => ?_)
        -- where the factors stand
        obtain ⟨c1, me1, ow1, g1m, g1s, g1c, ec1, p11, p12, ⟨o1, l1, eo1, _, o11, _⟩, _⟩ := id f1
        cases ec1
        subst eo1
        obtain ⟨c2, me2, ow2, g2m, g2s, g2c, ec2, p21, p22, ⟨o2, l2, eo2, _, o21, _⟩, _⟩ := id f2
        cases ec2
        subst eo2
        obtain ⟨dq, hq5'⟩ := id i5
        have nof : fs.lookup ("factor" : Str) = none := gf.no _ (by decide +kernel) (by decide +kernel) (by decide +kernel) (by decide +kernel)
        refine ⟨_, rfl, bo, rfl, ⟨_, SqL.of hb5⟩, fun D1 hD1 => lc_list (K := K) (a := bo) (xs := [V.ref r1', V.ref r2']) (fun i H' => H' = upd G5 D1 (.lst (([g1s, g2s].take i).map V.int))) rfl (fun i H' _ e => by rw [e]; exact SqL.of (Same.new (Same.refl _) hD1 _ _ hb5)) (fun i v H' hv e => ?_) (fun H' e => ?_)⟩
        · subst e
          have sD := Same.new (o := .lst (([g1s, g2s].take i).map V.int)) (Same.refl G5) hD1
          refine ⟨rfl, ?_⟩
          unfold tYes
          refine iteT ?_
          have : i = 0 ∨ i = 1 := by
            have := (List.getElem?_eq_some_iff.mp hv).1
            simp at this
            omega
          rcases this with rfl | rfl
          · cases hv
            refine ⟨_, rfl, q, dq, fs, rfl, sD _ _ hq5', nof, _, rfl, r1', _, _, _, rfl, rfl, Same.tup sD p11, atI_nat (j := 0) rfl, .ref q, me1, g1m, g1s, g1c, rfl, p12.keep sD, _, upd_same, (by show 0 < sizeLine; decide), ?_⟩
            rw [upd_upd]
            rfl
          · cases hv
            refine ⟨_, rfl, q, dq, fs, rfl, sD _ _ hq5', nof, _, rfl, r2', _, _, _, rfl, rfl, Same.tup sD p21, atI_nat (j := 0) rfl, .ref q, me2, g2m, g2s, g2c, rfl, p22.keep sD, _, upd_same, (by show 1 < sizeLine; decide), ?_⟩
            rw [upd_upd]
            rfl
        · subst e
          have sD := Same.new (o := .lst ([g1s, g2s].map V.int)) (Same.refl G5) hD1
          have hD1' : (upd G5 D1 (.lst ([g1s, g2s].map V.int))) D1 = some (.lst ([g1s, g2s].map V.int)) := upd_same
          show tLc _ _ _ _ _ _ (upd G5 D1 (.lst ([g1s, g2s].map V.int))) _
          generalize upd G5 D1 (.lst ([g1s, g2s].map V.int)) = G6 at sD hD1'
          refine ⟨_, rfl, bo, rfl, ⟨_, SqL.of (sD _ _ hb5)⟩, fun D2 hD2 => lc_list (K := K) (a := bo) (xs := [V.ref r1', V.ref r2']) (fun i H' => H' = upd G6 D2 (.lst (([g1s, g2s].take i).map V.int))) rfl (fun i H' _ e => by rw [e]; exact SqL.of (Same.new (Same.refl _) hD2 _ _ (sD _ _ hb5))) (fun i v H' hv e => ?_) (fun H' e => ?_)⟩
          · subst e
            have sF := Same.new (o := .lst (([g1s, g2s].take i).map V.int)) sD hD2
            refine ⟨rfl, ?_⟩
            unfold tYes
            refine iteT ?_
            have : i = 0 ∨ i = 1 := by
              have := (List.getElem?_eq_some_iff.mp hv).1
              simp at this
              omega
            rcases this with rfl | rfl
            · cases hv
              refine ⟨_, rfl, r1', _, _, _, rfl, rfl, Same.tup sF p11, atI_nat (j := 1) rfl, o1, _, _, _, rfl, rfl, SqL.of (sF _ _ o11), atI_nat (j := 1) rfl, _, upd_same, (by show 0 < sizeLine; decide), ?_⟩
              rw [upd_upd]
              rfl
            · cases hv
              refine ⟨_, rfl, r2', _, _, _, rfl, rfl, Same.tup sF p21, atI_nat (j := 1) rfl, o2, _, _, _, rfl, rfl, SqL.of (sF _ _ o21), atI_nat (j := 1) rfl, _, upd_same, (by show 1 < sizeLine; decide), ?_⟩
              rw [upd_upd]
              rfl
          · subst e
            have sG := Same.new (o := .lst ([g1s, g2s].map V.int)) (Same.refl G6) hD2
            have hD2' : (upd G6 D2 (.lst ([g1s, g2s].map V.int))) D2 = some (.lst ([g1s, g2s].map V.int)) := upd_same
            refine ⟨_, _, dp_at (ns := [g1s, g2s]) (sG _ _ hD1'), dp_at (ns := [g1s, g2s]) hD2', shaped_ints _, shaped_ints _, ?_⟩
            rw [eqv_ints]
            refine ⟨_, rfl, iteF ?_⟩
            have sZ := sD.trans sG
            exact ⟨_, _, _, _, _, r1', r2', rfl, t5'.trans sZ, hp5'.keep sZ, i5.keep sZ, sZ _ _ hb5, f1.keep sZ, f2.keep sZ⟩
      · rintro σ G ⟨w7, w8, w9, w10, w11, r1, r2, rfl, tG, hpG, iG, hbG, eG1, eG2⟩
        refine ⟨_, rfl, (by show 1 ≤ sizeLine; decide), fun y1 hy1 => ⟨(by show 1 ≤ sizeLine; decide), fun y2 hy2 y3 hy3 => ⟨(by show 8 ≤ sizeLine; decide), fun ly hly => ?_⟩⟩⟩
        have s4' := Same.new (o := .lst [V.int (-1), V.int 401, V.bl true, V.non, V.str "1", V.ref y1, V.ref y2, V.ref y3]) (Same.refl _) hly
        have s3' := (Same.new (o := .dK []) (Same.refl _) hy3).trans s4'
        have s2' := (Same.new (o := .lst [V.int 1]) (Same.refl _) hy2).trans s3'
        have s1' := (Same.new (o := .tup [V.int 1]) (Same.refl G) hy1).trans s2'
        have g1 := s2' y1 _ upd_same
        have g2 := s3' y2 _ upd_same
        have g3 := s4' y3 _ upd_same
        have hpY := hpG.keep s1'
        refine ⟨_, rfl, p, 8, rfl, hpY, by decide, by decide, fun d HY d0 d8 kY hpY' => ?_⟩
        obtain ⟨pa, pb, _, _, _, hpp⟩ := id hpY
        have w1 := kY.at hpp g1 (fun z => by cases z)
        have w2 := kY.at hpp g2 (fun z => by cases z)
        have w3 := kY.at hpp g3 (fun z => by cases z)
        have wl := kY ly _ (fun z => by
          obtain ⟨x1, x2, _, _, _, hx⟩ := ((((hpG.keep (Same.new (Same.refl _) hy1)).keep (Same.new (Same.refl _) hy2)).keep (Same.new (Same.refl _) hy3)))
          rw [z, hx] at hly
          cases hly) upd_same
        obtain ⟨v, ev, od⟩ : ∃ v, atI [V.int (-1), V.int 401, V.bl true, V.non, V.str "1", V.ref y1, V.ref y2, V.ref y3] d = some v ∧ OddV K HY v := by
          have : d = 0 ∨ d = 1 ∨ d = 2 ∨ d = 3 ∨ d = 4 ∨ d = 5 ∨ d = 6 ∨ d = 7 := by omega
          rcases this with rfl | rfl | rfl | rfl | rfl | rfl | rfl | rfl
          · exact ⟨_, rfl, .inl ⟨_, rfl, by omega⟩⟩
          · exact ⟨_, rfl, .inl ⟨_, rfl, by omega⟩⟩
          · exact ⟨_, rfl, .inr (.inl ⟨_, rfl⟩)⟩
          · exact ⟨_, rfl, noint (TyX.base TyOf.non) kitN⟩
          · exact ⟨_, rfl, noint (TyX.base (TyOf.str _)) kitS⟩
          · exact ⟨_, rfl, noint (TyX.base (TyOf.tup w1)) kitT⟩
          · exact ⟨_, rfl, noint (TyX.base (TyOf.lst w2)) kitL⟩
          · exact ⟨_, rfl, noint (TyX.base (TyOf.dK w3)) kitD⟩
        refine ⟨ly, _, _, _, rfl, rfl, SqL.of wl, ev, ?_⟩
        have tY := Same.kept (tG.trans s1') p0 kY
        have iY := (iG.keep s1').kept kY hpY
        have eY := (eG1.keep s1').kept kY hpY
        have hbY := kY _ _ nbo (s1' _ _ hbG)
        obtain ⟨c1, me1, ow1, g1m, g1s, g1c, ec1, p11, p12, _, _⟩ := id eY
        cases ec1
        refine ⟨_, rfl, _, rfl, bo, _, _, _, rfl, rfl, SqL.of hbY, atI_nat (j := 0) rfl, r1, _, _, _, rfl, rfl, p11, atI_nat (j := 0) rfl, _, rfl, ?_⟩
        refine ⟨q, fs, x, b, g1m, g1s, g1c, me1, v, rfl, iY, gf, p12, od, _, rfl, iteF ?_⟩
        exact ⟨_, rfl, rfl, tY⟩
    · rintro σ H1 ⟨vs, rfl, hvs, s1⟩
      exact kk H1
end
end Sw
namespace Sw
open PySem PySem.Spec PyProof.Rows L2
/-! ### the head: facts by names -/
/-- as hookD, with one test more of the written part -/
def obsX (fa : List He.Fa) (fn : List He.DefD) (ex : PySem.W.Frag → Bool) (K : PySem.W.Frag) : Bool × He.AlD := (ex K, He.obsD fa fn K)
def obsXG (n : Nat) (fa : List He.Fa) (fn : List He.DefD) (ex : PySem.W.Frag → Bool) (g : Addr → Option Obj) : Bool × He.AlD := obsX fa fn ex (He.frG g (cStatics :: He.asD g n))
def hookX (n : Nat) (fa : List He.Fa) (fn : List He.DefD) (ex : PySem.W.Frag → Bool) : PySem.W.Hook where
  α := Bool × He.AlD
  obs := fun s => obsXG n fa fn ex s.heap.get?
  val := fun _ => (true, He.valD fn)
  says := fun _ h => ∃ K : PySem.W.Frag, K.In h ∧ ex K = true ∧ He.SaysD fa fn K
  of := fun _ _ e => ⟨_, He.frG_in, congrArg (fun z : Bool × He.AlD => z.1) e, congrArg (fun z : Bool × He.AlD => z.2) e⟩
  keeps := fun _ _ _ ⟨K, hK, c⟩ k => ⟨K, PySem.W.Frag.In.keeps hK k, c⟩
theorem obsXG_eq {n : Nat} {fa : List He.Fa} {fn : List He.DefD} {ex : PySem.W.Frag → Bool} {g : Addr → Option Obj} {s : Shared} (h : ∀ a, g a = s.heap.get? a) : obsXG n fa fn ex g = (hookX n fa fn ex).obs s := by
  have e : g = s.heap.get? := funext h
  rw [e] <;> rfl
def excB (K : PySem.W.Frag) (D : Addr) : Bool :=
  decide (PySem.W.findIn K (.ref D) "__getattribute__" = some (some (.builtin "BaseException.__getattribute__"))) && (decide (PySem.W.findIn K (.ref D) "__getattr__" = some none) && (decide (PySem.W.subIn K (.ref D) (.type "BaseException") = some true) && (PySem.W.hasDictIn K D &&
  (decide (PySem.W.findIn K (.ref D) "__class__" = some (some (.builtin "object.__class__"))) && (decide (PySem.W.specialIn K (.builtin "object.__class__") "__get__" = some (some (.builtin "getset_descriptor.__get__"))) &&
  (decide (PySem.W.takesIn K (.builtin "object.__class__") = some true) && decide (PySem.W.mroIn K D (.type "object") = some true)))))))
theorem excB_ok {K : PySem.W.Frag} {D : Addr} (h : excB K D = true) : ExcC K D := by
  obtain ⟨h1, h⟩ := He.ba h
  obtain ⟨h2, h⟩ := He.ba h
  obtain ⟨h3, h⟩ := He.ba h
  obtain ⟨h4, h⟩ := He.ba h
  obtain ⟨h5, h⟩ := He.ba h
  obtain ⟨h6, h⟩ := He.ba h
  obtain ⟨h7, h8⟩ := He.ba h
  exact ⟨of_decide_eq_true h1, of_decide_eq_true h2, of_decide_eq_true h3, h4, of_decide_eq_true h5, of_decide_eq_true h6, of_decide_eq_true h7, of_decide_eq_true h8⟩
def kitF (K : PySem.W.Frag) (t u : Value) (b : Bool) : Bool := decide (PySem.W.kitOne K t u = some b)
def dfn (x : Str) (st : Stmt) : He.DefD := ⟨(x, none), x, x, defArgs st, defBody st, defScope st, [], []⟩
def dme (c m : Str) (q : Str) (st : Stmt) : He.DefD := ⟨(c, some m), m, q, defArgs st, defBody st, defScope st, [], []⟩
def dmk (c m : Str) (q : Str) (st : Stmt) : He.DefD := ⟨(c, some m), m, q, defArgs st, defBody st, defScope st, [], [("late", .int 0), ("begin", .int 0)]⟩
def fn : List He.DefD := [dfn "is_whole" sWhole, dfn "is_whole_within" sWithin, dfn "need" sNeed, dfn "run_firing" sFiring, dfn "ramp" sRamp, dfn "_law_cell" sCell, dfn "_law_pot" sPot, dfn "_law_draw" sDraw, dfn "_law_number" sNumber, dfn "_law_ramp" sLRamp, dfn "_law_refused" sLRefused, dfn "_law_turned" sLTurned, dfn "_law_fired" sLFired, dfn "law" sLaw, dme "Node" "__init__" "Node.__init__" sNodeInit, dmk "Gain" "__init__" "Gain.__init__" sGainInit, dme "Gain" "gives" "Gain.gives" sGainGives, dme "Gain" "fresh" "Gain.fresh" sGainFresh, dme "Gain" "fire" "Gain.fire" sGainFire, dme "Gain" "work" "Gain.work" sGainWork, dme "Gain" "factor" "Gain.factor" sGainFactor, dme "Gain" "turned" "Gain.turned" sGainTurned, dfn "check_steps" sSteps]
def fa : List He.Fa := [.glo "is_whole", .glo "is_whole_within", .glo "need", .glo "run_firing", .glo "ramp", .glo "_law_cell", .glo "_law_pot", .glo "_law_draw", .glo "_law_number", .glo "_law_ramp", .glo "_law_refused", .glo "_law_turned", .glo "_law_fired", .glo "law", .free "len", .free "max", .free "min", .free "range", .free "isinstance", .free "int", .free "bool", .free "list", .free "tuple", .free "repr", .int "MOST_STEPS" 400, .int "MOST_LATE" 99, .int "MOST_BEGIN" 9999, .glo "WeaveError", .glo "NoSteps", .glo "Node", .glo "Gain", .exc "NoSteps", .exm "NoSteps" "WeaveError" true, .cls "Gain", .noat "Gain" "made", .noat "Gain" "late_by", .noat "Gain" "begin_at", .noat "Gain" "by", .mkr "Gain", .meth "Gain" "gives", .meth "Gain" "fresh", .meth "Gain" "fire", .meth "Gain" "work", .meth "Gain" "factor", .meth "Gain" "turned", .glo "check_steps"]
def baseB (K : PySem.W.Frag) (C f : Addr) (m : Str) : Bool := PySem.W.readsIn K C (.type "type") && (decide (PySem.W.specialIn K (.ref C) "__getattribute__" = some (some (.builtin "type.__getattribute__"))) &&
  ((match PySem.W.findCls K (.ref C) (.type "type") m with
    | some (.val (.ref g)) => decide (g = f)
    | _ => false) && PySem.W.keepIn K (.ref f)))
theorem baseB_ok {K : PySem.W.Frag} {C f : Addr} {m : Str} (h : baseB K C f m = true) : BaseM K C m f := by
  obtain ⟨h1, h⟩ := He.ba h
  obtain ⟨h2, h⟩ := He.ba h
  obtain ⟨h3, h4⟩ := He.ba h
  refine ⟨h1, of_decide_eq_true h2, ?_, h4⟩
  cases e : PySem.W.findCls K (.ref C) (.type "type") m with
  | none =>
    rw [e] at h3
    cases h3
  | some r =>
    rw [e] at h3
    cases r with
    | val v =>
      cases v with
      | ref g => rw [of_decide_eq_true (show decide (g = f) = true from h3)]
      | _ => cases h3
    | get _ _ _ _ => cases h3
def ex (K : PySem.W.Frag) : Bool := excB K (He.ga K "NoSteps") && (kitF K (.ref (He.ga K "NoSteps")) (.ref (He.ga K "NoSteps")) true && baseB K (He.ga K "Node") (He.ma K (He.ga K "Node") "__init__") "__init__")
abbrev R : PySem.W.OpenRow := PySem.W.OpenLaw.row PySem.Challenge.rw_sampleweave_k13_gains_turned
abbrev hk : PySem.W.Hook := hookX 5 fa fn ex
def ob (s : PySem.W.SharedT) : Bool × He.AlD := obsXG 5 fa fn ex (HandSHeadRun.getT s)
theorem ob_eq (s : PySem.W.SharedT) : ob s = hk.obs s.abs := obsXG_eq (HandSHeadRun.getT_eq s)
def loose : List Str := ["_wall", "WeaveError", "NoNode", "NoSteps", "is_whole", "is_whole_within", "need", "run_firing", "check_steps", "ramp", "_law_cell", "_law_pot", "_law_draw", "_law_number", "_law_ramp", "_law_refused", "_law_turned", "_law_fired", "MOST_STEPS", "MOST_LATE", "MOST_BEGIN", "Node", "Gain"]
theorem run (w : World) : HandSHeadRun.RunEq R (PySem.W.view R.prog [29]) hk ob 9000 loose w := by
  intro os
  kernel_rfl
theorem facts {P : Program} {w : World} {K : PySem.W.Frag} {h : Heap} {mg : Str → Option Value} {f : Addr} (X : K.In h) (G : h.Ns mainGlobals mg) (hfa : mg ("law" : Str) = some (.ref f)) (cx : ex K = true) (c : He.SaysD fa fn K) :
    ∃ fd : FuncData, (∀ (s : Shared) (v : Value), BindsTo s fd ⟨[v], []⟩ [("_law_script", v)]) ∧ ∀ base : Heap, K.In base → base.Ns mainGlobals mg → FnG P w K mg base CX0 8 f fd ["_law_script"] (spLaw K) := by
  obtain ⟨x1, cx⟩ := He.ba cx
  obtain ⟨x2, x3⟩ := He.ba cx
  obtain ⟨d0, F0⟩ := c.def_ 0 (d := dfn "is_whole" sWhole) rfl
  have g0 := He.glo_ok X G (c.fact 0 (f := .glo "is_whole") rfl)
  have b0 : Binds K d0 ["thing"] [] := FunD.bindsN F0 fun _ _ _ _ _ _ us hl => match us, hl with | [_], _ => rfl
  obtain ⟨d1, F1⟩ := c.def_ 1 (d := dfn "is_whole_within" sWithin) rfl
  have g1 := He.glo_ok X G (c.fact 1 (f := .glo "is_whole_within") rfl)
  have b1 : Binds K d1 ["thing", "least", "most"] [] := FunD.bindsN F1 fun _ _ _ _ _ _ us hl => match us, hl with | [_, _, _], _ => rfl
  obtain ⟨d2, F2⟩ := c.def_ 2 (d := dfn "need" sNeed) rfl
  have g2 := He.glo_ok X G (c.fact 2 (f := .glo "need") rfl)
  have b2 : Binds K d2 ["holds", "field"] [] := FunD.bindsN F2 fun _ _ _ _ _ _ us hl => match us, hl with | [_, _], _ => rfl
  obtain ⟨d3, F3⟩ := c.def_ 3 (d := dfn "run_firing" sFiring) rfl
  have g3 := He.glo_ok X G (c.fact 3 (f := .glo "run_firing") rfl)
  have b3 : Binds K d3 ["node", "memory", "rows"] [] := FunD.bindsN F3 fun _ _ _ _ _ _ us hl => match us, hl with | [_, _, _], _ => rfl
  obtain ⟨d4, F4⟩ := c.def_ 4 (d := dfn "ramp" sRamp) rfl
  have g4 := He.glo_ok X G (c.fact 4 (f := .glo "ramp") rfl)
  have b4 : Binds K d4 ["first", "last", "steps"] [] := FunD.bindsN F4 fun _ _ _ _ _ _ us hl => match us, hl with | [_, _, _], _ => rfl
  obtain ⟨d5, F5⟩ := c.def_ 5 (d := dfn "_law_cell" sCell) rfl
  have g5 := He.glo_ok X G (c.fact 5 (f := .glo "_law_cell") rfl)
  have b5 : Binds K d5 ["_law_script", "_law_k"] [] := FunD.bindsN F5 fun _ _ _ _ _ _ us hl => match us, hl with | [_, _], _ => rfl
  obtain ⟨d6, F6⟩ := c.def_ 6 (d := dfn "_law_pot" sPot) rfl
  have g6 := He.glo_ok X G (c.fact 6 (f := .glo "_law_pot") rfl)
  have b6 : Binds K d6 ["_law_cell_here"] [] := FunD.bindsN F6 fun _ _ _ _ _ _ us hl => match us, hl with | [_], _ => rfl
  obtain ⟨d7, F7⟩ := c.def_ 7 (d := dfn "_law_draw" sDraw) rfl
  have g7 := He.glo_ok X G (c.fact 7 (f := .glo "_law_draw") rfl)
  have b7 : Binds K d7 ["_law_pot_here", "_law_many"] [] := FunD.bindsN F7 fun _ _ _ _ _ _ us hl => match us, hl with | [_, _], _ => rfl
  obtain ⟨d8, F8⟩ := c.def_ 8 (d := dfn "_law_number" sNumber) rfl
  have g8 := He.glo_ok X G (c.fact 8 (f := .glo "_law_number") rfl)
  have b8 : Binds K d8 ["_law_pot_here"] [] := FunD.bindsN F8 fun _ _ _ _ _ _ us hl => match us, hl with | [_], _ => rfl
  obtain ⟨d9, F9⟩ := c.def_ 9 (d := dfn "_law_ramp" sLRamp) rfl
  have g9 := He.glo_ok X G (c.fact 9 (f := .glo "_law_ramp") rfl)
  have b9 : Binds K d9 ["_law_one", "_law_other", "_law_many"] [] := FunD.bindsN F9 fun _ _ _ _ _ _ us hl => match us, hl with | [_, _, _], _ => rfl
  obtain ⟨d10, F10⟩ := c.def_ 10 (d := dfn "_law_refused" sLRefused) rfl
  have g10 := He.glo_ok X G (c.fact 10 (f := .glo "_law_refused") rfl)
  have b10 : Binds K d10 ["_law_node", "_law_memory", "_law_thing"] [] := FunD.bindsN F10 fun _ _ _ _ _ _ us hl => match us, hl with | [_, _, _], _ => rfl
  obtain ⟨d11, F11⟩ := c.def_ 11 (d := dfn "_law_turned" sLTurned) rfl
  have g11 := He.glo_ok X G (c.fact 11 (f := .glo "_law_turned") rfl)
  have b11 : Binds K d11 ["_law_pot_here", "_law_node", "_law_memory", "_law_own"] [] := FunD.bindsN F11 fun _ _ _ _ _ _ us hl => match us, hl with | [_, _, _, _], _ => rfl
  obtain ⟨d12, F12⟩ := c.def_ 12 (d := dfn "_law_fired" sLFired) rfl
  have g12 := He.glo_ok X G (c.fact 12 (f := .glo "_law_fired") rfl)
  have b12 : Binds K d12 ["_law_pot_here", "_law_node", "_law_memory", "_law_own"] [] := FunD.bindsN F12 fun _ _ _ _ _ _ us hl => match us, hl with | [_, _, _, _], _ => rfl
  obtain ⟨d13, F13⟩ := c.def_ 13 (d := dfn "law" sLaw) rfl
  have e := hfa.symm.trans (He.glo_ok X G (c.fact 13 (f := .glo "law") rfl))
  cases e
  have bL := FunD.bindsA (ps := ["_law_script"]) F13 fun _ _ _ _ _ _ us hl => match us, hl with | [_], _ => rfl
  obtain ⟨d14, F14⟩ := c.def_ 14 (d := dme "Node" "__init__" "Node.__init__" sNodeInit) rfl
  have b14 : Binds K d14 ["self", "arguments", "late", "begin"] [] := FunD.bindsN F14 fun _ _ _ _ _ _ us hl => match us, hl with | [_, _, _, _], _ => rfl
  obtain ⟨d15, F15⟩ := c.def_ 15 (d := dmk "Gain" "__init__" "Gain.__init__" sGainInit) rfl
  obtain ⟨d16, F16⟩ := c.def_ 16 (d := dme "Gain" "gives" "Gain.gives" sGainGives) rfl
  have b16 : Binds K d16 ["self"] [] := FunD.bindsN F16 fun _ _ _ _ _ _ us hl => match us, hl with | [_], _ => rfl
  obtain ⟨d17, F17⟩ := c.def_ 17 (d := dme "Gain" "fresh" "Gain.fresh" sGainFresh) rfl
  have b17 : Binds K d17 ["self"] [] := FunD.bindsN F17 fun _ _ _ _ _ _ us hl => match us, hl with | [_], _ => rfl
  obtain ⟨d18, F18⟩ := c.def_ 18 (d := dme "Gain" "fire" "Gain.fire" sGainFire) rfl
  have b18 : Binds K d18 ["self", "memory", "rows"] [] := FunD.bindsN F18 fun _ _ _ _ _ _ us hl => match us, hl with | [_, _, _], _ => rfl
  obtain ⟨d19, F19⟩ := c.def_ 19 (d := dme "Gain" "work" "Gain.work" sGainWork) rfl
  have b19 : Binds K d19 ["self", "kept", "rows"] [] := FunD.bindsN F19 fun _ _ _ _ _ _ us hl => match us, hl with | [_, _, _], _ => rfl
  obtain ⟨d20, F20⟩ := c.def_ 20 (d := dme "Gain" "factor" "Gain.factor" sGainFactor) rfl
  have b20 : Binds K d20 ["self", "memory"] [] := FunD.bindsN F20 fun _ _ _ _ _ _ us hl => match us, hl with | [_, _], _ => rfl
  obtain ⟨d21, F21⟩ := c.def_ 21 (d := dme "Gain" "turned" "Gain.turned" sGainTurned) rfl
  have b21 : Binds K d21 ["self", "memory", "by", "steps"] [] := FunD.bindsN F21 fun _ _ _ _ _ _ us hl => match us, hl with | [_, _, _, _], _ => rfl
  have z_len := He.free_ok X G (c.fact 14 (f := .free "len") rfl)
  have z_max := He.free_ok X G (c.fact 15 (f := .free "max") rfl)
  have z_min := He.free_ok X G (c.fact 16 (f := .free "min") rfl)
  have z_range := He.free_ok X G (c.fact 17 (f := .free "range") rfl)
  have z_isinstance := He.free_ok X G (c.fact 18 (f := .free "isinstance") rfl)
  have z_int := He.free_ok X G (c.fact 19 (f := .free "int") rfl)
  have z_bool := He.free_ok X G (c.fact 20 (f := .free "bool") rfl)
  have z_list := He.free_ok X G (c.fact 21 (f := .free "list") rfl)
  have z_tuple := He.free_ok X G (c.fact 22 (f := .free "tuple") rfl)
  have z_repr := He.free_ok X G (c.fact 23 (f := .free "repr") rfl)
  have z_MOST_STEPS := He.int_ok X G (c.fact 24 (f := .int "MOST_STEPS" 400) rfl)
  have z_MOST_LATE := He.int_ok X G (c.fact 25 (f := .int "MOST_LATE" 99) rfl)
  have z_MOST_BEGIN := He.int_ok X G (c.fact 26 (f := .int "MOST_BEGIN" 9999) rfl)
  have gWE := He.glo_ok X G (c.fact 27 (f := .glo "WeaveError") rfl)
  have gNS := He.glo_ok X G (c.fact 28 (f := .glo "NoSteps") rfl)
  have gNo := He.glo_ok X G (c.fact 29 (f := .glo "Node") rfl)
  have gGa := He.glo_ok X G (c.fact 30 (f := .glo "Gain") rfl)
  obtain ⟨q1, q2, q3, q4⟩ := He.exc_ok (c.fact 31 (f := .exc "NoSteps") rfl)
  have qe := He.exm_ok (c.fact 32 (f := .exm "NoSteps" "WeaveError" true) rfl)
  have cG := He.cls_ok (c.fact 33 (f := .cls "Gain") rfl)
  have nM := He.noat_ok (c.fact 34 (f := .noat "Gain" "made") rfl)
  have nL := He.noat_ok (c.fact 35 (f := .noat "Gain" "late_by") rfl)
  have nB := He.noat_ok (c.fact 36 (f := .noat "Gain" "begin_at") rfl)
  have nY := He.noat_ok (c.fact 37 (f := .noat "Gain" "by") rfl)
  have mk := He.mkr_ok (c.fact 38 (f := .mkr "Gain") rfl)
  have m_gives := He.meth_ok (c.fact 39 (f := .meth "Gain" "gives") rfl)
  have m_fresh := He.meth_ok (c.fact 40 (f := .meth "Gain" "fresh") rfl)
  have m_fire := He.meth_ok (c.fact 41 (f := .meth "Gain" "fire") rfl)
  have m_work := He.meth_ok (c.fact 42 (f := .meth "Gain" "work") rfl)
  have m_factor := He.meth_ok (c.fact 43 (f := .meth "Gain" "factor") rfl)
  have m_turned := He.meth_ok (c.fact 44 (f := .meth "Gain" "turned") rfl)
  obtain ⟨d22, F22⟩ := c.def_ 22 (d := dfn "check_steps" sSteps) rfl
  have g22 := He.glo_ok X G (c.fact 45 (f := .glo "check_steps") rfl)
  have b22 : Binds K d22 ["steps"] [] := FunD.bindsN F22 fun _ _ _ _ _ _ us hl => match us, hl with | [_], _ => rfl
  have T : ExcT K mg "NoSteps" (He.ga K "NoSteps") := ⟨gNS, q1, q2, q3, q4⟩
  have TC : CatS K mg (He.ga K "NoSteps") (He.ga K "WeaveError") := ⟨gWE, gNS, qe, excB_ok x1, of_decide_eq_true x2⟩
  have TN : NodeC K (He.ga K "Gain") := ⟨cG, nM, nL, nB⟩
  obtain ⟨mv, kb⟩ := FunD.kbinds0 (ps := ["self", "by", "late", "begin"]) F15 2 ["begin"] [("late", .int 0)] (fun us mv ws => us ++ (mv ++ ws)) (by intro z; cases z) (by
      intro z hz
      rcases List.mem_cons.mp hz with rfl | hz
      · exact List.mem_cons_self
      · cases hz) (fun r1 r2 r3 => r1.append (r2.append r3)) (by
      intro D doc pm an cdv ct us mv ws l1 l2 l3
      match us, mv, ws, l1, l2, l3 with
      | [_, _], [_], [_], _, _, _ => exact ⟨_, _, _, _, _, _, rfl, rfl, rfl⟩)
  refine ⟨d13, fun s v => bL s [v] rfl, fun base _ _ => ?_⟩
  have G0 : FnOk P w K mg base CX0 1 _ d0 ["thing"] (spWhole K) := ok_whole F0 z_isinstance z_int z_bool
  have G1 : FnOk P w K mg base CX0 2 _ d1 ["thing", "least", "most"] (spWithin K) := ok_within F1 G0 g0 F0.kp b0
  have G2 : FnOk P w K mg base CX0 1 _ d2 ["holds", "field"] spNeed := ok_need F2
  have G22 : FnOk P w K mg base (L2.CX P w) 3 _ d22 ["steps"] (spSteps K (He.ga K "NoSteps")) := ok_steps F22 G1 g1 F1.kp b1 z_MOST_STEPS T
  have G4 : FnOk P w K mg base (L2.CX P w) 4 _ d4 ["first", "last", "steps"] (spRamp K (He.ga K "NoSteps")) := ok_ramp F4 G22 g22 F22.kp b22 z_range
  have G7 : FnOk P w K mg base CX0 1 _ d7 ["_law_pot_here", "_law_many"] spDraw := ok_draw F7
  have G8 : FnOk P w K mg base CX0 2 _ d8 ["_law_pot_here"] spNumber := ok_number F8 F7 g7 z_range
  have G9 : FnOk P w K mg base CX0 1 _ d9 ["_law_one", "_law_other", "_law_many"] spLRamp := ok_lRamp F9 z_range
  have GB : FnOk P w K mg base CX0 3 _ d14 ["self", "arguments", "late", "begin"] (spNodeInit K (He.ga K "Gain")) := ok_nodeInit F14 G2 g2 F2.kp b2 G1 g1 F1.kp b1 z_MOST_LATE z_MOST_BEGIN TN
  have GI : FnOk P w K mg base CX0 4 _ d15 ["self", "by", "late", "begin"] (spGainInit K (He.ga K "Gain")) := ok_gainInit F15 G2 g2 F2.kp b2 G0 g0 F0.kp b0 GB gNo (baseB_ok x3) b14 TN nY
  have GW : FnOk P w K mg base CX0 1 _ d19 ["self", "kept", "rows"] (spGainWork K) := ok_gainWork F19
  have GF : FnOk P w K mg base CX0 2 _ d3 ["node", "memory", "rows"] (spFiring K (He.ga K "Gain") (spGainWork K)) := ok_firing (k := 0) F3 cG (ok_gives F16) m_gives b16 GW m_work b19 wide_gainWork
  have GFi : FnOk P w K mg base CX0 3 _ d18 ["self", "memory", "rows"] (spFiring K (He.ga K "Gain") (spGainWork K)) := ok_gainFire F18 GF g3 F3.kp b3
  have GT : FnOk P w K mg base (L2.CX P w) 5 _ d21 ["self", "memory", "by", "steps"] (spGainTurned K (He.ga K "NoSteps")) := ok_gainTurned F21 G4 g4 F4.kp b4 z_tuple
  exact ok_law F13 mk GI gGa kb cG (ok_gainFresh F17 TN nY) m_fresh b17 (ok_gainFactor F20) m_factor b20 (ok_cell F5 z_len) g5 F5.kp b5 (ok_pot F6 z_max) g6 F6.kp b6 G7 g7 F7.kp b7 G8 g8 F8.kp b8
    (ok_lTurned F11 cG GT m_turned b21 G8 g8 F8.kp b8 G7 g7 F7.kp b7 G9 g9 F9.kp b9 z_int z_repr) g11 F11.kp b11 (ok_lFired F12 cG GFi m_fire b18 G8 g8 F8.kp b8 z_max z_list z_repr) g12 F12.kp b12
    (ok_lRefused F10 cG GT m_turned b21 TC z_isinstance) g10 F10.kp b10 z_range z_max z_min z_len
end Sw
open PySem PySem.W PySem.Calls PyProof.Rows
theorem PySem.Challenge.cw_sampleweave_k13_gains_turned_holds : PySem.Challenge.rw_sampleweave_k13_gains_turned.Holds := by
  w_on; o_law
  refine HandSHeadRun.head_any (r := OpenLaw.row PySem.Challenge.rw_sampleweave_k13_gains_turned) (q := view (OpenLaw.row PySem.Challenge.rw_sampleweave_k13_gains_turned).prog [29]) (H := Sw.hk) (ob := Sw.ob) (M := 9000) (loose := Sw.loose) (d := HandSHeadRun.topDef (OpenLaw.row PySem.Challenge.rw_sampleweave_k13_gains_turned).prog 29) (kwd := []) Sw.ob_eq
    (by kernel_rfl) (fun s => by kernel_rfl) Sw.run (by kernel_rfl) (by kernel_rfl) (by kernel_rfl) (by rfl) (by first | assumption | decide +kernel) (by decide +kernel) ⟨rfl, rfl, rfl, rfl, rfl, by decide +kernel⟩ ?hw ?hc
  case hw => w_witness2
  case hc =>
    refine L2.walk_goes (l := PySem.Challenge.rw_sampleweave_k13_gains_turned) (n := 63) (k := 8) (x := "_law_script") (CX := L2.CX0) rfl (by decide) (by kernel_rfl) ⟨rfl, by decide, by decide⟩ ?F (fun _ _ _ _ z => z)
    intro w mg fa h Y G hmg0
    obtain ⟨K, KX, cx, c⟩ := Y
    have hmg : mg ("law" : PySem.Str) = some (.ref fa) := by
      have e : (HandSHeadRun.topDef (OpenLaw.row PySem.Challenge.rw_sampleweave_k13_gains_turned).prog 29).name = ("law" : PySem.Str) := by kernel_rfl
      rw [← e]
      exact hmg0
    obtain ⟨fd, hb, hF⟩ := Sw.facts (P := (PySem.Challenge.rw_sampleweave_k13_gains_turned).prog) (w := w) KX G hmg cx c
    exact ⟨K, fd, Sw.spLaw K, KX, hb, fun H a ns hl _ hS => ⟨a, ns, rfl, hS, hl, fun _ => rfl⟩, hF⟩
